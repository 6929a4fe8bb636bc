import PyProof.Rows.All
import Wide.All
import OpenK.AllK
import Wide.FinOn
import Lean
import PyProof.EqAt
import PyProof.EqKinds
import PyProof.TupleCall
import KE.KSortTup
import KE.KItemsList
import KE.KDictList
import PyProof.AttrMissHeap
import KE.KDictOf
import PyProof.NeKinds
import PyProof.IsiHeapPairs
import PyProof.IsiSeqPairs
import PyProof.SetKind
import PyProof.Rows.SetFrom
import PyProof.DictIter
import PyProof.CollectWalk
import PyProof.DictWalks
import PyProof.FactsAll.subtypes_5
import PyProof.IsiTupleOf
import PyProof.IsiPairs
import PyProof.Draws
import PyProof.EnumMake
import PyProof.WalksMore
import KE.KRevIter
import PyProof.ListRange
import PyProof.StrWalks
import PySem.Challenge.RW_copiedhouse_k16_lists
open PySem.W (Frag codeIn fnOf keepIn methodObj mg_none_of mg_of nsIn)
open PyProof.Rows (boot_isinstance callWith_type1)
set_option Elab.async false
set_option linter.all false
set_option maxRecDepth 100000
namespace L2
open PySem PySem.Spec PyProof.Rows
abbrev z8:=Sum Int Str
def oQ:z8->Value->Bool
 | .inl k,v=>Value.isInt k v
 | .inr x,v=>Value.isStrOf x v
def zk7 (w:World):z8->Int
 | .inl k=>hashInt k
 | .inr x=>hashStr w x
theorem tN: ∀{k:z8} {v:Value},oQ k v=true->(∃i t,k=Sum.inl i/\v=Value.int i t)∨(∃x t,k=Sum.inr x/\v=Value.str x t)
 | .inl i,v,h=>by
  obtain⟨t,e⟩:=Value.isInt_shape (k:=i) (v:=v) h;exact .inl ⟨i,t,rfl,e⟩
 | .inr x,v,h=>by
  obtain⟨t,e⟩:=Value.isStrOf_shape (x:=x) (v:=v) h;exact .inr ⟨x,t,rfl,e⟩
theorem zk8 (i:Int)(t:Tok):oQ (.inl i) (.int i t)=true:=by simp[oQ,Value.isInt]
theorem zk9 (x:Str)(t:Tok):oQ (.inr x) (.str x t)=true:=by simp[oQ,Value.isStrOf]
theorem zk_ (a b:Int):decide ((Sum.inl a:z8)=Sum.inl b)=(a==b):=by
 by_cases e:a=b
 ·subst e;simp
 ·have h: ¬ (Sum.inl a:z8)=Sum.inl b:=λq=>e (Sum.inl.inj q)
  rw[decide_eq_false h];exact(beq_eq_false_iff_ne.mpr e).symm
theorem zkC (a b:Str):decide ((Sum.inr a:z8)=Sum.inr b)=decide (a=b):=by
 by_cases e:a=b
 ·subst e;simp
 ·have h: ¬ (Sum.inr a:z8)=Sum.inr b:=λq=>e (Sum.inr.inj q)
  rw[decide_eq_false h,decide_eq_false e]
theorem zkA (a:Int)(b:Str):decide ((Sum.inl a:z8)=Sum.inr b)=false:=decide_eq_false (λq=>nomatch q)
theorem zkB (a:Str)(b:Int):decide ((Sum.inr a:z8)=Sum.inl b)=false:=decide_eq_false (λq=>nomatch q)
def xK (prog:Program)(w:World):PySem.KeyKind prog w z8 where
 is:=oQ
 hash:=zk7 w
 inj:=λv a b ha hb=>by
  rcases tN ha with⟨i,t,rfl,rfl⟩ | ⟨x,t,rfl,rfl⟩
  ·rcases tN hb with⟨j,u,rfl,e⟩ | ⟨y,u,rfl,e⟩
   ·injection e with e1 _;rw[e1]
   ·exact nomatch e
  ·rcases tN hb with⟨j,u,rfl,e⟩ | ⟨y,u,rfl,e⟩
   ·exact nomatch e
   ·injection e with e1 _;rw[e1]
 byValue:=λk v h=>by
  rcases tN h with⟨i,t,rfl,rfl⟩ | ⟨x,t,rfl,rfl⟩ <;> rfl
 pyHash:=λhv h=>by
  rcases tN hv with⟨i,t,rfl,rfl⟩ | ⟨x,t,rfl,rfl⟩
  ·exact wpAny_pyHash_int h
  ·exact wpAny_pyHash_str h
 eqBool:=λhu hv h=>by
  rcases tN hu with⟨i,t,rfl,rfl⟩ | ⟨x,t,rfl,rfl⟩
  ·rcases tN hv with⟨j,u,rfl,rfl⟩ | ⟨y,u,rfl,rfl⟩
   ·rw[zk_]at h;exact wpAny_eqBool_int h
   ·rw[zkA]at h;exact SeqAt.EqAt.int_str i t y u _ _ _ _ h
  ·rcases tN hv with⟨j,u,rfl,rfl⟩ | ⟨y,u,rfl,rfl⟩
   ·rw[zkB]at h;exact SeqAt.EqAt.str_int x t j u _ _ _ _ h
   ·rw[zkC]at h;exact wpAny_eqBool_str h
 «strs»:=λk x t v h=>by
  rcases tN h with⟨i,u,rfl,e⟩ | ⟨y,u,rfl,e⟩
  ·exact nomatch e
  ·injection e with e1 _
   subst e1;cases v <;> rfl
theorem zlf (prog:Program)(w:World)(i:Int)(t:Tok):(xK prog w).is (.inl i) (.int i t)=true:=zk8 i t
theorem zlg (prog:Program)(w:World)(x:Str)(t:Tok):(xK prog w).is (.inr x) (.str x t)=true:=zk9 x t
end L2
namespace L2
open PySem PySem.Spec PyProof.Rows
inductive V where
 | non | bl (b:Bool) | int (i:Int) | str (x:Str) | byt (b:Array UInt8) | flt (b:UInt64) | ref (a:Addr) | ty (n:String)
 deriving DecidableEq
def zS:V->Value->Prop
 | .non,u=>u=Value.none
 | .bl b,u=>u=Value.bool b
 | .int i,u=> ∃t,u=Value.int i t
 | .str x,u=> ∃t,u=Value.str x t
 | .byt b,u=> ∃t,u=Value.bytes b t
 | .flt b,u=> ∃t,u=Value.float b t
 | .ref a,u=>u=Value.ref a
 | .ty n,u=>u=Value.type n
abbrev zM:List V->List Value->Prop:=Paired zS
theorem zM.length {xs:List V}{us:List Value}(r:zM xs us):xs.length=us.length:=Paired.length r
theorem zM.get: ∀{xs:List V} {us:List Value} {i:Nat} {x:V},zM xs us->xs[i]?=some x->∃u,us[i]?=some u/\zS x u
 | _,_,_,_,.nil,e=>by simp at e
 | _,_,0,_,.cons r _,e=>by simp at e;subst e;exact⟨_,rfl,r⟩
 | _,_,i+1,x,.cons _ t,e=>by
  obtain⟨u,h1,h2⟩:=zM.get (i:=i) (x:=x) t (by simpa using e);exact⟨u,by simpa using h1,h2⟩
theorem zM.set {x:V}{u:Value}(r:zS x u): ∀{xs:List V} {us:List Value} (i:Nat),zM xs us->zM (xs.set i x) (us.set i u)
 | _,_,_,.nil=> .nil
 | _,_,0,.cons _ t=> .cons r t
 | _,_,i+1,.cons q t=> .cons q (zM.set r i t)
theorem zM.append: ∀{xs ys:List V} {us ws:List Value},zM xs us->zM ys ws->zM (xs++ys) (us++ws)
 | _,_,_,_,.nil,s=>s
 | _,_,_,_,.cons r t,s=> .cons r (zM.append t s)
theorem zM.take: ∀{xs:List V} {us:List Value} (n:Nat),zM xs us->zM (xs.take n) (us.take n)
 | _,_,0,_=> .nil
 | _,_,_+1,.nil=> .nil
 | _,_,n+1,.cons r t=> .cons r (zM.take n t)
theorem zM.drop: ∀{xs:List V} {us:List Value} (n:Nat),zM xs us->zM (xs.drop n) (us.drop n)
 | _,_,0,r=>r
 | _,_,_+1,.nil=> .nil
 | _,_,n+1,.cons _ t=>zM.drop n t
def uV:Option V->Option Value->Prop
 | some v,some u=>zS v u
 | none,none=>True
 | _,_=>False
def KV {κ:Type} :List (κ×V)->List (κ×Value)->Prop:=Paired λ(p:κ×V) (q:κ×Value)=>p.1=q.1/\zS p.2 q.2
def kV:z8->V
 | .inl i=> .int i
 | .inr x=> .str x
inductive HO where
 | lst (xs:List V)
 | tup (xs:List V)
 | dK (kvs:List (z8×V)) | dT (kvs:List (List z8×V))
 | set (S:Int->Bool) (n:Nat)
 | ins (C dx:Addr) (fs:List (Str×V))
 | own (x:Addr)
 | xd (fs:List (Str×V))
 | met (f x:Addr)
 | rng (lo hi:Int)
 | frz (o:Obj) (u:HO)
 | tbl (ps:Array Value)
 | ext (φ:Heap->Prop)
abbrev Hp:=Addr->Option HO
def zQ (H:Hp)(a:Addr)(o:HO):Hp:=λb=>if b=a then some o else H b
theorem x9 {H:Hp}{a:Addr}{o:HO} :zQ H a o a=some o:=by unfold zQ;rw[if_pos rfl]
theorem yR {H:Hp}{a b:Addr}{o:HO}(h:b≠a):zQ H a o b=H b:=by unfold zQ;rw[if_neg h]
theorem zlv {H:Hp}{a b:Addr}{o u:HO}(h:H a=some o)(h':H b=some u)(d:o≠u):a≠b:=by
 intro e;subst e;rw[h]at h';exact d (Option.some.inj h')
theorem tP {H:Hp}{a b:Addr}{o:HO}(h:H a=some o)(h':H b=none):a≠b:=by
 intro e;subst e;rw[h]at h';cases h'
def tH (h:Heap)(a:Addr)(items:Array Value):Prop:= ∃o,h.get? a=some o/\o.cls= .type "tuple" /\∃n,o.data= .seq items n/\o.dict=none
theorem tH.tup {h:Heap}{a:Addr}{items:Array Value}(x:tH h a items):IsTup h a items:=let⟨o,e,c,n,d,_⟩:=x;⟨o,e,c,n,d⟩
theorem tH.lt {h:Heap}{a:Addr}{items:Array Value}(x:tH h a items):a < h.objs.size:=let⟨_,e,_⟩:=x;Heap.lt_size e
theorem tH.new (h:Heap)(items:Array Value):tH (h.push {cls:= .type "tuple",data:= .seq items}) h.objs.size items:=⟨_,Heap.get?_push_size _ rfl,rfl,_,rfl,rfl⟩
section
variable (P:Program) (w:World)
def wB (H:Hp)(h:Heap)(a:Addr):HO->Prop
 | .lst xs=>xs.length<=sizeLine/\∃(its:List Value) (n:Nat),zM xs its/\h.get? a=some {cls:= .type "list",data:= .seq its.toArray n}
 | .tup xs=>xs.length<=sizeLine/\∃its:List Value,zM xs its/\tH h a its.toArray
 | .dK kvs=>kvs.length<=sizeLine/\(a==sysModules)=false/\∃vs,KV kvs vs/\h.DictOf (xK P w) a vs
 | .dT kvs=>kvs.length<=sizeLine/\(a==sysModules)=false/\∃xs:List (List z8×Addr×Value),
   Paired (λ(p:List z8×V) (q:List z8×Addr×Value)=>p.1=q.1/\H q.2.1=some (.tup (p.1.map kV))/\zS p.2 q.2.2) kvs xs/\
   ∃o es ep,h.get? a=some o/\o.ExactDict/\o.data= .dict es ep/\es.toList=xs.map (entryOfKey (tupleKind (xK P w)))/\(xs.map (·.1)).Nodup
 | .set S n=>h.SetOf (intKind P w) a S n
 | .ins C dx fs=>H dx=some (.own a)/\fs.length<=1000/\dx≠a/\h.get? a=some (PySem.W.instObj C dx)/\
   ∃mA,h.Ns1 dx mA/\(∀f,uV (fs.lookup f) (mA f))/\PySem.Within mA (fs.map (·.1))
 | .own _=> ∃o,h.get? a=some o
 | .xd fs=> ∃mA,h.Ns1 a mA/\∀f,uV (fs.lookup f) (mA f)
 | .rng lo hi=> ∃t u v,h.get? a=some {cls:= .type "range",data:= .fields #[.int lo t,.int hi u,.int 1 v]}
 | .frz o u=>h.get? a=some o/\wB H h a u
 | .tbl ps=>h.get? a=some {cls:= .none,data:= .fields ps}
 | .met f x=>h.get? a=some (methodObj (.ref f) (.ref x))
 | .ext φ=>φ h/\(∃o,h.get? a=some o)/\∀h1 h2:Heap,φ h1->(∀o,h1.get? a=some o->h2.get? a=some o)->φ h2
def xI (H:Hp)(h:Heap):Prop:= ∀a o,H a=some o->wB P w H h a o
end
section
variable {P:Program} {w:World} {H H':Hp} {h h':Heap} {a:Addr} {o:HO}
theorem wB.lt (x:wB P w H h a o):a < h.objs.size:=by
 cases o with
 | lst xs=>obtain⟨_,_,_,_,e⟩:=x;exact Heap.lt_size e
 | tup xs=>obtain⟨_,_,_,p⟩:=x;exact p.lt
 | dK kvs=>obtain⟨_,_,_,_,o,_,_,e,_⟩:=x;exact Heap.lt_size e
 | dT kvs=>obtain⟨_,_,_,_,o,_,_,e,_⟩:=x;exact Heap.lt_size e
 | set S n=>obtain⟨o,_,_,_,e,_⟩:=x;exact Heap.lt_size e
 | ins C dx fs=>obtain⟨_,_,_,e,_⟩:=x;exact Heap.lt_size e
 | own y=>obtain⟨_,e⟩:=x;exact Heap.lt_size e
 | xd fs=>obtain⟨_,⟨_,_,_,e,_⟩,_⟩:=x;exact Heap.lt_size e
 | rng lo hi=>obtain⟨_,_,_,e⟩:=x;exact Heap.lt_size e
 | frz ob u=>obtain⟨e,_⟩:=x;exact Heap.lt_size e
 | tbl ps=>exact Heap.lt_size (show h.get? a=some _ from x)
 | met f y=>exact Heap.lt_size (show h.get? a=some _ from x)
 | ext φ=>obtain⟨_,⟨_,e⟩,_⟩:=x;exact Heap.lt_size e
theorem Paired.mapP {α β:Type}{F G:α->β->Prop} : ∀{l₁:List α} {l₂:List β},Paired F l₁ l₂->(∀a b,F a b->G a b)->Paired G l₁ l₂
 | _,_,.nil,_=> .nil
 | _,_,.cons r t,f=> .cons (f _ _ r) (Paired.mapP t f)
theorem wB.stay (x:wB P w H h a o)(k: ∀b u,(b=a∨H b=some (.own a))->h.get? b=some u->h'.get? b=some u)
  (ho: ∀b,H b=some (.own a)->H' b=some (.own a)) (ht: ∀b xs,H b=some (.tup xs)->H' b=some (.tup xs)):wB P w H' h' a o:=by
 induction o with
 | lst xs=>obtain⟨z,its,n,r,e⟩:=x;exact⟨z,its,n,r,k _ _ (.inl rfl) e⟩
 | tup xs=>obtain⟨z,its,r,ob,e,c⟩:=x;exact⟨z,its,r,ob,k _ _ (.inl rfl) e,c⟩
 | dK kvs=>obtain⟨z,y,vs,r,ob,es,ep,e,c⟩:=x;exact⟨z,y,vs,r,ob,es,ep,k _ _ (.inl rfl) e,c⟩
 | dT kvs=>
  obtain⟨z,y,xs,r,ob,es,ep,e,c⟩:=x;exact⟨z,y,xs,Paired.mapP r λp q z=>⟨z.1,ht _ _ z.2.1,z.2.2⟩,ob,es,ep,k _ _ (.inl rfl) e,c⟩
 | set S n=>obtain⟨ob,es,ep,t,e,c⟩:=x;exact⟨ob,es,ep,t,k _ _ (.inl rfl) e,c⟩
 | ins C dx fs=>
  obtain⟨d,z,ne,e,mA,⟨od,es,ep,e2,c⟩,r⟩:=x;exact⟨ho _ d,z,ne,k _ _ (.inl rfl) e,mA,⟨od,es,ep,k _ _ (.inr d) e2,c⟩,r⟩
 | own y=>obtain⟨ob,e⟩:=x;exact⟨ob,k _ _ (.inl rfl) e⟩
 | xd fs=>obtain⟨mA,⟨od,es,ep,e,c⟩,r⟩:=x;exact⟨mA,⟨od,es,ep,k _ _ (.inl rfl) e,c⟩,r⟩
 | rng lo hi=>obtain⟨t,u,v,e⟩:=x;exact⟨t,u,v,k _ _ (.inl rfl) e⟩
 | frz ob u ih=>obtain⟨e,q⟩:=x;exact⟨k _ _ (.inl rfl) e,ih q⟩
 | tbl ps=>
  have e:h.get? a=some {cls:= .none,data:= .fields ps} :=x;show h'.get? a=some {cls:= .none,data:= .fields ps};exact k a _ (.inl rfl) e
 | met f y=>
  have e:h.get? a=some (methodObj (.ref f) (.ref y)):=x;show h'.get? a=some (methodObj (.ref f) (.ref y));exact k a _ (.inl rfl) e
 | ext φ=>obtain⟨p,⟨o,e⟩,st⟩:=x;exact⟨st _ _ p λo q=>k _ _ (.inl rfl) q,⟨o,k _ _ (.inl rfl) e⟩,st⟩
theorem xI.lt (x:xI P w H h)(e:H a=some o):a < h.objs.size:=(x a o e).lt
theorem xI.fresh (x:xI P w H h)(e:h.objs.size<=a):H a=none:=by
 cases q:H a with
 | none=>rfl
 | some u=>exact absurd (Nat.lt_of_lt_of_le (x.lt q) e) (Nat.lt_irrefl _)
theorem xI.kept (x:xI P w H h)(k: ∀b u,h.get? b=some u->h'.get? b=some u):xI P w H h':=λa o e=>
 (x a o e).stay (λb u _ q=>k b u q) (λ_ q=>q) λ_ _ q=>q
theorem xI.laid (x:xI P w H h)(k: ∀b u,h.get? b=some u->h'.get? b=some u)(hp:h.objs.size<=a)(new:wB P w (zQ H a o) h' a o):xI P w (zQ H a o) h':=λb u e=>by
 have hn:=x.fresh hp;by_cases hb:b=a
 ·subst hb;rw[x9]at e;cases e;exact new
 ·rw[yR hb]at e
  exact(x b u e).stay (λc v _ q=>k c v q) (λc q=>by rw[yR (tP q hn)];exact q) λc xs q=>by rw[yR (tP q hn)];exact q
end
def Rd (H:Hp)(a:Addr)(u:HO):Prop:=H a=some u∨∃o,H a=some (.frz o u)
theorem Rd.ok {P:Program}{w:World}{H:Hp}{h:Heap}{a:Addr}{u:HO}(r:Rd H a u)(x:xI P w H h):wB P w H h a u:=by
 rcases r with r | ⟨o,r⟩
 ·exact x a u r
 ·obtain⟨_,q⟩:=x a _ r
  exact q
def nZ:Option HO->Prop
 | some (.lst _)=>True
 | some (.dK _)=>True
 | some (.dT _)=>True
 | some (.set _ _)=>True
 | some (.ins _ _ _)=>True
 | some (.ext _)=>True
 | _=>False
section
variable {P:Program} {w:World} {H:Hp} {h h':Heap} {x e:Addr} {o':HO}
theorem xI.write (ok:xI P w H h)(mu:nZ (H x))(he:e=x∨H e=some (.own x))(k: ∀b u,b≠e->h.get? b=some u->h'.get? b=some u)(heo: ∃u,h'.get? e=some u)
  (new:wB P w (zQ H x o') h' x o'):xI P w (zQ H x o') h':=λb u q=>by
 have nown: ∀c y,H c=some (.own y)->c≠x:=λc y r z=>by subst z;rw[r]at mu;exact mu
 have ntup: ∀c xs,H c=some (.tup xs)->c≠x:=λc xs r z=>by subst z;rw[r]at mu;exact mu
 by_cases hb:b=x
 ·subst hb;rw[x9]at q;cases q;exact new
 ·rw[yR hb]at q
  by_cases hbe:b=e
  ·have q':H b=some (.own x):=by
    rcases he with z | z
    ·exact absurd (hbe.trans z) hb
    ·rw[hbe];exact z
   rw[q]at q';cases q';obtain⟨v,hv⟩:=heo;exact⟨v,by rw[hbe];exact hv⟩
  ·refine(ok b u q).stay (λc v hc r=>k c v ?_ r) (λc r=>by rw[yR (nown c b r)];exact r) λc xs r=>by rw[yR (ntup c xs r)];exact r
   rcases hc with rfl | hc
   ·exact hbe
   ·rintro rfl
    rcases he with z | z
    ·exact nown c b hc z
    ·rw[hc]at z;cases z;exact hb rfl
end
structure Un (fs ex:List Addr)(H H':Hp)(h h':Heap):Prop where
 keep: ∀b o,h.get? b=some o->H b=none->b∉fs->b∉ex->h'.get? b=some o
 slot: ∀b o,h.get? b=some o->H b=none->b∈fs->b∉ex->∃sl,h'.get? b=some {o with slots:=sl}
 free: ∀b o,h.get? b=some o->H b=none->b∉ex->H' b=none
 there: ∀b o,h.get? b=some o->b∉ex->∃o',h'.get? b=some o'
 tups: ∀b xs,H b=some (.tup xs)->H' b=some (.tup xs)
 frzs: ∀b o u,H b=some (.frz o u)->H' b=some (.frz o u)
 tbls: ∀b ps,H b=some (.tbl ps)->∃more,H' b=some (.tbl (ps++more))
section
variable {fs fs' ex ex':List Addr} {H H1 H2:Hp} {h h1 h2 h':Heap} {a x e:Addr} {o:HO}
theorem Un.any (u:Un fs ex H H1 h h1){b:Addr}{ob:Obj}(q:h.get? b=some ob)(n:H b=none)(hx:b∉ex): ∃sl,h1.get? b=some {ob with slots:=sl} :=by
 by_cases hb:b∈fs
 ·exact u.slot b ob q n hb hx
 ·exact⟨ob.slots,u.keep b ob q n hb hx⟩
theorem Un.kept (k: ∀b u,h.get? b=some u->h'.get? b=some u):Un fs ex H H h h':=
 ⟨λb ob q _ _ _=>k b ob q,λb ob q _ _ _=>⟨ob.slots,k b ob q⟩,λ_ _ _ n _=>n,λb ob q _=>⟨ob,k b ob q⟩,λ_ _ q=>q,λ_ _ _ q=>q,λ_ ps q=>⟨#[],by rw[q];simp⟩⟩
theorem Un.refl:Un fs ex H H h h:=Un.kept λ_ _ q=>q
theorem Un.laid (k: ∀b u,h.get? b=some u->h'.get? b=some u)(hp:h.objs.size<=a)(hn:H a=none):Un fs ex H (zQ H a o) h h' where
 keep:=λb u q _ _ _=>k b u q
 slot:=λb u q _ _ _=>⟨u.slots,k b u q⟩
 free:=λb u q n _=>by rw[yR (Nat.ne_of_lt (Nat.lt_of_lt_of_le (Heap.lt_size q) hp))];exact n
 there:=λb u q _=>⟨u,k b u q⟩
 tups:=λb xs q=>by rw[yR (tP q hn)];exact q
 frzs:=λb u xs q=>by rw[yR (tP q hn)];exact q
 tbls:=λb ps q=>⟨#[],by rw[yR (tP q hn),q];simp⟩
theorem Un.write (mu:nZ (H x))(he:e=x∨H e=some (.own x))(k: ∀b u,b≠e->h.get? b=some u->h'.get? b=some u)(heo: ∃u,h'.get? e=some u):Un fs ex H (zQ H x o) h h':=by
 have hx: ∀b,H b=none->b≠x:=λb n z=>by subst z;rw[n]at mu;exact mu
 have hb: ∀b,H b=none->b≠e:=λb n z=>by
  subst z;rcases he with r | r
  ·exact hx b n r
  ·rw[n]at r;cases r
 have hm: ∀b u,H b=some u->¬ nZ (some u)->b≠x:=λb u q nm z=>by subst z;rw[q]at mu;exact nm mu
 refine⟨λb u q n _ _=>k b u (hb b n) q,λb u q n _ _=>⟨u.slots,k b u (hb b n) q⟩,λb u q n _=>by rw[yR (hx b n)];exact n,λb u q _=> ?_,
  λb xs q=>by rw[yR (hm b _ q λz=>z)];exact q,λb u xs q=>by rw[yR (hm b _ q λz=>z)];exact q,λb ps q=>⟨#[],by rw[yR (hm b _ q λz=>z),q];simp⟩⟩
 by_cases hbe:b=e
 ·subst hbe;exact heo
 ·exact⟨u,k b u hbe q⟩
end
def u7 (h:Heap)(H:Hp):List Addr:=(List.range h.objs.size).filter λa=>(H a).isSome
def sX (h:Heap)(H:Hp):Heap:=PySem.W.hideAll h (u7 h H)
theorem zkl (h:Heap)(H:Hp):(sX h H).objs.size=h.objs.size:=PySem.W.hideAll_size _ _
theorem zkk {h:Heap}{H:Hp}{b:Addr}{o:Obj}(e:h.get? b=some o)(n:H b=none):(sX h H).get? b=some o:=
 PySem.W.hideAll_get _ e λhm=>by
  have q:(H b).isSome=true:=(List.mem_filter.mp hm).2;rw[n]at q;simp at q
theorem zl_ {h:Heap}{H:Hp}{b:Addr}{o:Obj}(e:(sX h H).get? b=some o):h.get? b=some o/\H b=none:=by
 have e':h.get? b=some o:=PySem.W.of_hideAll (u7 h H) e;refine⟨e',?_⟩;cases q:H b with
 | none=>rfl
 | some x=>
  have hm:b∈u7 h H:=List.mem_filter.mpr ⟨List.mem_range.mpr (Heap.lt_size e'),by simp[q]⟩;have z:(sX h H).get? b=none:=PySem.W.hideAll_none (u7 h H) hm;rw[z]at e;cases e
def zib (g h:Heap)(L:Addr):List (Addr×Obj):=(List.range h.objs.size).filterMap λa=>if a=L∨(g.get? a).isSome=true then none else(h.get? a).map λo=>(a,o)
def wN (g h:Heap)(L d:Addr):List (Addr×Obj):=(zib g h L).filter λp=>decide (p.1≠d)
end L2
namespace L2
open PySem PySem.Spec PyProof.Rows
structure Mod (K:Frag)(mg:Str->Option Value)(base:Heap):Prop where
 kin:K.In base
 glob:base.Ns mainGlobals mg
 blt: ∃mb,base.Ns builtinsNs mb/\∀x:Str,x≠ "__name__" ->mb x=bootBuiltins x
 nolimit:base.NoLimit
structure Cx where
 prog:Program
 w:World
 K:Frag
 mg:Str->Option Value
 base:Heap
 A:Around
 N:List Str
 s₀:Shared
 H₀:Hp
 env:Env
 outer:List Env
 stack:List Env
 ex:List Addr
 fn:Str->Bool
 calm:Bool
 pn:List (Addr×Obj)
 xe:Value->Shared->Prop
def vK (l:List Env):List Addr:=l.filterMap (·.frame)
abbrev Cx.fs (X:Cx):List Addr:=vK X.outer
def gG (sc:Scope)(x:Str):Prop:=sc.names.lookup x=some .local∨sc.names.lookup x=some .cell∨sc.names.lookup x=some .free
def tZ (sc:Scope)(x:Str):Prop:=sc.names.lookup x=some .local∨sc.names.lookup x=some .cell
def zhU (env:Env)(h:Heap)(m:Str->Option Value)(x:Str)(u:Value):Prop:=
 (env.kindOf x=some .local/\m x=some u)∨((env.kindOf x=some .cell∨env.kindOf x=some .free)/\∃c,env.cells.lookup x=some c/\h.IsCell c (some u))
structure Cx.Ok (X:Cx):Prop where
 mod:Mod X.K X.mg X.base
 kind:X.env.scope.kind= .function
 glob:X.env.globals=mainGlobals
 blt:X.env.builtins=builtinsNs
 above:X.s₀.heap.objs.size<=X.env.locals
 inj: ∀x y c,X.env.cells.lookup x=some c->X.env.cells.lookup y=some c->x=y
 has: ∀x,(X.env.kindOf x=some .cell∨X.env.kindOf x=some .free)->∃c,X.env.cells.lookup x=some c
 cab: ∀x c,X.fn x=true->X.env.cells.lookup x=some c->X.s₀.heap.objs.size<=c
 hd:X.calm=true->X.A.handled=none
 frames:X.A.frames=some X.stack
 stk:X.stack=X.outer∨(X.stack=X.env::X.outer/\X.env.frame=some X.env.locals)
 exf: ∀b∈X.ex,b≠X.env.locals/\∀x c,X.env.cells.lookup x=some c->c≠b
 bs: ∀b o,X.base.get? b=some o->X.s₀.heap.get? b=some o/\X.H₀ b=none
 bsz:X.base.objs.size<=X.s₀.heap.objs.size
 noex: ∀b o,X.base.get? b=some o->b∉X.ex
 exfs: ∀b∈X.ex,b∉X.fs
 funs:X.s₀.heap.FunFrames X.base X.outer
 frf: ∀b∈X.fs,X.H₀ b=none
structure z5 (X:Cx)(pins:List (Addr×Obj))(σ:List (Option V))(H:Hp)(s:Shared):Prop where
 ok:X.Ok
 os:s.os=X.s₀.os
 bare:AllBare s.gens
 base:Un X.fs X.ex X.H₀ H X.s₀.heap s.heap
 loc: ∃m,s.heap.Ns X.env.locals m/\∀(i:Nat) (x:Str) (v:V),X.N[i]?=some x->σ[i]?=some (some v)->gG X.env.scope x->∃u,zS v u/\zhU X.env s.heap m x u
 cell: ∀x c,X.env.cells.lookup x=some c->∃v,s.heap.IsCell c v
 free:H X.env.locals=none
 freeC: ∀x c,X.env.cells.lookup x=some c->H c=none
 pin: ∀p∈X.pn++pins,s.heap.get? p.1=some p.2/\H p.1=none/\p.1≠X.env.locals/\p.1∉X.fs/\∀v,p.2.data≠ .cell v
 hok:xI X.prog X.w H s.heap
 len:σ.length=X.N.length
section
variable {X:Cx} {pins:List (Addr×Obj)} {σ:List (Option V)} {H H':Hp} {s:Shared} {h':Heap}
theorem Cx.Ok.nofr (ok:X.Ok){b:Addr}{o:Obj}(e:X.base.get? b=some o):b∉X.fs:=λhb=>by
 have:=(ok.funs.mem hb).1;rw[e]at this;cases this
theorem z5.bs (I:z5 X pins σ H s): ∀b o,X.base.get? b=some o->s.heap.get? b=some o/\H b=none:=λb o e=>
 ⟨I.base.keep b o (I.ok.bs b o e).1 (I.ok.bs b o e).2 (I.ok.nofr e) (I.ok.noex b o e),I.base.free b o (I.ok.bs b o e).1 (I.ok.bs b o e).2 (I.ok.noex b o e)⟩
theorem z5.bk (I:z5 X pins σ H s): ∀b o,X.base.get? b=some o->s.heap.get? b=some o:=λb o e=>(I.bs b o e).1
theorem z5.mod (I:z5 X pins σ H s):Mod X.K X.mg X.base:=I.ok.mod
theorem z5.kIn (I:z5 X pins σ H s):X.K.In s.heap:=I.ok.mod.kin.keeps I.bk
theorem z5.lt (I:z5 X pins σ H s):X.env.locals < s.heap.objs.size:=let⟨_,hn,_⟩:=I.loc;hn.lt
theorem z5.sz (I:z5 X pins σ H s):X.s₀.heap.objs.size<=s.heap.objs.size:=Nat.le_trans I.ok.above (Nat.le_of_lt I.lt)
theorem z5.nofs (I:z5 X pins σ H s){a:Addr}(h:s.heap.objs.size<=a):a∉X.fs:=λhb=>by
 obtain⟨_,o,ho,_⟩:=I.ok.funs.mem hb;exact absurd (Nat.lt_of_lt_of_le (Heap.lt_size ho) (Nat.le_trans I.sz h)) (Nat.lt_irrefl _)
theorem z5.cne (I:z5 X pins σ H s): ∀x c,X.env.cells.lookup x=some c->c≠X.env.locals:=λx c e z=>by
 obtain⟨v,o,ho,hd⟩:=I.cell x c e;obtain⟨m,⟨o',es,ep,ho',hd',_⟩,_⟩:=I.loc;rw[z,ho']at ho;cases ho;rw[hd']at hd;cases hd
theorem z5.funs (I:z5 X pins σ H s):s.heap.FunFrames X.base X.outer:=by
 have all: ∀(l:List Env),(∀b∈vK l,b∈X.fs)->X.s₀.heap.FunFrames X.base l->s.heap.FunFrames X.base l:=by
  intro l
  induction l with
  | nil=>intro _ _;trivial
  | cons env r ih=>
   intro hs hl;obtain⟨hk,⟨L,o,hf,hn,ho,hd⟩,hr⟩:=hl;have hL:L∈X.fs:=hs L (by unfold vK;rw[List.filterMap_cons,hf];exact List.mem_cons_self);obtain⟨sl,e⟩:=I.base.slot L o ho (I.ok.frf L hL) hL λz=>I.ok.exfs L z hL;exact⟨hk,⟨L,_,hf,hn,e,hd⟩,ih (λb hb=>hs b (by unfold vK;rw[List.filterMap_cons,hf];exact List.mem_cons_of_mem _ hb)) hr⟩
 exact all X.outer (λ_ hb=>hb) I.ok.funs
theorem z5.stack (I:z5 X pins σ H s):s.heap.FunFrames X.base X.stack:=by
 rcases I.ok.stk with e | ⟨e,hf⟩
 ·rw[e];exact I.funs
 ·rw[e]
  obtain⟨m,hn,_⟩:=I.loc;refine .cons (by rw[I.ok.kind];decide) hf hn ?_ I.funs;exact Heap.get?_none_of_le (Nat.le_trans I.ok.bsz I.ok.above)
theorem z5.stkSub (I:z5 X pins σ H s): ∀b∈vK X.stack,b∈X.env.locals::X.fs:=λb hb=>by
 rcases I.ok.stk with e | ⟨e,hf⟩
 ·rw[e]at hb;exact List.mem_cons_of_mem _ hb
 ·rw[e]at hb
  unfold vK at hb;rw[List.filterMap_cons,hf]at hb;exact hb
theorem z5.stkFree (I:z5 X pins σ H s): ∀b∈vK X.stack,H b=none:=λb hb=>by
 rcases List.mem_cons.mp (I.stkSub b hb)with e | hb
 ·rw[e];exact I.free
 ·obtain⟨_,o,ho,_⟩:=I.ok.funs.mem hb
  exact I.base.free b o ho (I.ok.frf b hb) λz=>I.ok.exfs b z hb
theorem z5.step {g':Array GenState}{t':Nat}{d':Drawn}{ch:List Addr}(I:z5 X pins σ H s)
  (hch: ∀b∈ch,(b∈X.ex∨X.s₀.heap.objs.size<=b)/\b≠X.env.locals/\(∀x c,X.env.cells.lookup x=some c->c≠b)/\∀p∈X.pn++pins,p.1≠b)
  (keep: ∀b o,b≠X.env.locals->b∉X.fs->b∉ch->s.heap.get? b=some o->H b=none->h'.get? b=some o)
  (slot: ∀b o,b≠X.env.locals->b∈X.fs->b∉ch->s.heap.get? b=some o->H b=none->∃sl,h'.get? b=some {o with slots:=sl}) (free: ∀b o,b∉ch->s.heap.get? b=some o->H b=none->H' b=none)
  (there: ∀b o,b∉ch->s.heap.get? b=some o->∃o',h'.get? b=some o')
  (tups: ∀b xs,H b=some (.tup xs)->H' b=some (.tup xs)) (frzs: ∀b o u,H b=some (.frz o u)->H' b=some (.frz o u)) (tbls: ∀b ps,H b=some (.tbl ps)->∃more,H' b=some (.tbl (ps++more)))
  (ns: ∀m,s.heap.Ns X.env.locals m->h'.Ns X.env.locals m) (hok:xI X.prog X.w H' h') (hg:AllBare g'):
  z5 X pins σ H' {s with heap:=h',gens:=g',drawn:=d',toks:=t'} :=by
 have neL: ∀b o,X.s₀.heap.get? b=some o->b≠X.env.locals:=λb o e=>Nat.ne_of_lt (Nat.lt_of_lt_of_le (Heap.lt_size e) I.ok.above);have neC: ∀b o,X.s₀.heap.get? b=some o->b∉X.ex->b∉ch:=λb o e hx hb=>by
  rcases(hch b hb).1 with z | z
  ·exact hx z
  ·exact absurd (Nat.lt_of_lt_of_le (Heap.lt_size e) z) (Nat.lt_irrefl _)
 have cellK: ∀x c,X.env.cells.lookup x=some c->∀v,s.heap.IsCell c v->h'.IsCell c v:=λx c e v ⟨o,ho,hd⟩=>by
  have nch:c∉ch:=λz=>(hch c z).2.2.1 x c e rfl;by_cases hc:c∈X.fs
  ·obtain⟨sl,q⟩:=slot c o (I.cne x c e) hc nch ho (I.freeC x c e)
   exact⟨_,q,hd⟩
  ·exact⟨o,keep c o (I.cne x c e) hc nch ho (I.freeC x c e),hd⟩
 refine⟨I.ok,I.os,hg,⟨λb o e n hb hx=> ?_,λb o e n hb hx=> ?_,λb o e n hx=> ?_,λb o e hx=> ?_,λb xs e=>tups b xs (I.base.tups b xs e),λb o xs e=>frzs b o xs (I.base.frzs b o xs e),λb ps e=> ?_⟩,?_,λx c e=> ?_,?_,λx c e=> ?_,λp hp=> ?_,hok,I.len⟩
 ·exact keep b o (neL b o e) hb (neC b o e hx) (I.base.keep b o e n hb hx) (I.base.free b o e n hx)
 ·obtain⟨sl,e1⟩:=I.base.slot b o e n hb hx
  obtain⟨sl',e2⟩:=slot b _ (neL b o e) hb (neC b o e hx) e1 (I.base.free b o e n hx);exact⟨sl',e2⟩
 ·obtain⟨o',e1⟩:=I.base.there b o e hx
  exact free b o' (neC b o e hx) e1 (I.base.free b o e n hx)
 ·obtain⟨o',e1⟩:=I.base.there b o e hx
  exact there b o' (neC b o e hx) e1
 ·obtain⟨m1,e1⟩:=I.base.tbls b ps e
  obtain⟨m2,e2⟩:=tbls b _ e1;exact⟨m1++m2,by rw[e2,Array.append_assoc]⟩
 ·obtain⟨m,hn,hl⟩:=I.loc
  refine⟨m,ns m hn,λi x v e1 e2 e3=> ?_⟩;obtain⟨u,r,l⟩:=hl i x v e1 e2 e3;refine⟨u,r,?_⟩;rcases l with l | ⟨k,c,e,z⟩
  ·exact .inl l
  ·exact .inr ⟨k,c,e,cellK x c e _ z⟩
 ·obtain⟨v,z⟩:=I.cell x c e
  exact⟨v,cellK x c e v z⟩
 ·obtain⟨m,⟨o,_,_,ho,_⟩,_⟩:=I.loc
  exact free _ o (λz=>(hch _ z).2.1 rfl) ho I.free
 ·obtain⟨v,o,ho,hd⟩:=I.cell x c e
  exact free c o (λz=>(hch c z).2.2.1 x c e rfl) ho (I.freeC x c e)
 ·obtain⟨e,n,ne,nf,d⟩:=I.pin p hp
  have nch:p.1∉ch:=λz=>(hch p.1 z).2.2.2 p hp rfl;exact⟨keep p.1 p.2 ne nf nch e n,free p.1 p.2 nch e n,ne,nf,d⟩
theorem z5.un {t':Nat}(I:z5 X pins σ H s)(u:Un X.fs [] H H' s.heap h')(hok:xI X.prog X.w H' h'):z5 X pins σ H' {s with heap:=h',toks:=t'} :=by
 obtain⟨m,⟨o,es,ep,ho,r⟩,_⟩:=id I.loc;obtain⟨sl,hL⟩:=u.any ho I.free (by simp);exact I.step (g':=s.gens) (d':=s.drawn) (ch:= []) (λ_ z=>nomatch z) (λb o _ hb _ e n=>u.keep b o e n hb (by simp)) (λb o _ hb _ e n=>u.slot b o e n hb (by simp)) (λb o _ e n=>u.free b o e n (by simp)) (λb o _ e=>u.there b o e (by simp)) u.tups u.frzs u.tbls (λm' hm=>by
  obtain⟨o',es',ep',ho',r'⟩:=hm;rw[ho]at ho';cases ho';exact⟨_,es',ep',hL,r'⟩) hok I.bare
theorem z5.call {g':Array GenState}{t':Nat}{d':Drawn}{ch:List Addr}(I:z5 X pins σ H s)(u:Un (vK X.stack) ch H H' s.heap h')(hok:xI X.prog X.w H' h')(hg:AllBare g')
  (hch: ∀b∈ch,(b∈X.ex∨X.s₀.heap.objs.size<=b)/\b≠X.env.locals/\(∀x c,X.env.cells.lookup x=some c->c≠b)/\∀p∈X.pn++pins,p.1≠b):
  z5 X pins σ H' {s with heap:=h',gens:=g',drawn:=d',toks:=t'} :=by
 obtain⟨m,⟨o,es,ep,ho,r⟩,_⟩:=id I.loc;obtain⟨sl,hL⟩:=u.any ho I.free λz=>(hch _ z).2.1 rfl;exact I.step (ch:=ch) hch (λb o hL hb hc e n=>u.keep b o e n (λz=>(List.mem_cons.mp (I.stkSub b z)).elim hL hb) hc) (λb o _ _ hc e n=>u.any e n hc) (λb o hc e n=>u.free b o e n hc) (λb o hc e=>u.there b o e hc) u.tups u.frzs u.tbls (λm' hm=>by
  obtain⟨o',es',ep',ho',r'⟩:=hm;rw[ho]at ho';cases ho';exact⟨_,es',ep',hL,r'⟩) hok hg
theorem z5.turned {t':Nat}{it:Addr}(I:z5 X pins σ H s)(k: ∀b o,b≠it->s.heap.get? b=some o->h'.get? b=some o)(hn:H it=none)(hL:it≠X.env.locals)
  (h1:it∈X.ex∨X.s₀.heap.objs.size<=it) (h2: ∀x c,X.env.cells.lookup x=some c->c≠it) (h3: ∀p∈X.pn++pins,p.1≠it):z5 X pins σ H {s with heap:=h',toks:=t'} :=by
 have nit: ∀b u,H b=some u->b≠it:=λb u e z=>by rw[z,hn]at e;cases e
 refine I.step (g':=s.gens) (d':=s.drawn) (ch:= [it]) (λb hb=> ?_) (λb o _ _ hc e _=>k b o (λz=>hc (by simp[z])) e) (λb o _ _ hc e _=>⟨o.slots,k b o (λz=>hc (by simp[z])) e⟩) (λ_ _ _ _ n=>n)
  (λb o hc e=>⟨o,k b o (λz=>hc (by simp[z])) e⟩) (λ_ _ e=>e) (λ_ _ _ e=>e) (λb ps e=>⟨#[],by rw[e];simp⟩) (λm hm=> ?_) (λb u e=> ?_) I.bare
 ·have e:b=it:=by simpa using hb
  subst e;exact⟨h1,hL,h2,h3⟩
 ·obtain⟨o,es,ep,ho,r⟩:=hm
  exact⟨o,es,ep,k _ o (Ne.symm hL) ho,r⟩
 ·refine(I.hok b u e).stay (λc v hc q=>k c v ?_ q) (λ_ q=>q) λ_ _ q=>q
  rcases hc with z | z
  ·rw[z];exact nit b u e
  ·exact nit c _ z
theorem z5.tok (I:z5 X pins σ H s)(t:Nat):z5 X pins σ H {s with toks:=t} :=I.un (h':=s.heap) (t':=t) Un.refl I.hok
theorem z5.kept {t':Nat}(I:z5 X pins σ H s)(k: ∀b u,s.heap.get? b=some u->h'.get? b=some u):z5 X pins σ H {s with heap:=h',toks:=t'} :=I.un (Un.kept k) (I.hok.kept k)
theorem z5.laid {a:Addr}{o:HO}{t':Nat}(I:z5 X pins σ H s)(k: ∀b u,s.heap.get? b=some u->h'.get? b=some u)(hp:s.heap.objs.size<=a)(new:wB X.prog X.w (zQ H a o) h' a o):
  z5 X pins σ (zQ H a o) {s with heap:=h',toks:=t'} :=I.un (Un.laid k hp (I.hok.fresh hp)) (I.hok.laid k hp new)
theorem z5.write {x e:Addr}{o:HO}{t':Nat}(I:z5 X pins σ H s)(mu:nZ (H x))(he:e=x∨H e=some (.own x))(k: ∀b u,b≠e->s.heap.get? b=some u->h'.get? b=some u)(heo: ∃u,h'.get? e=some u)
  (new:wB X.prog X.w (zQ H x o) h' x o):z5 X pins σ (zQ H x o) {s with heap:=h',toks:=t'} :=I.un (Un.write mu he k heo) (I.hok.write mu he k heo new)
theorem z5.pins_of {pins':List (Addr×Obj)}(I:z5 X pins σ H s)(h: ∀p∈pins',s.heap.get? p.1=some p.2/\H p.1=none/\p.1≠X.env.locals/\p.1∉X.fs/\∀v,p.2.data≠ .cell v):z5 X pins' σ H s:=
 ⟨I.ok,I.os,I.bare,I.base,I.loc,I.cell,I.free,I.freeC,λp hp=>(List.mem_append.mp hp).elim (λz=>I.pin p (List.mem_append_left _ z)) (h p),I.hok,I.len⟩
theorem zeY {N:List Str}(hN:N.Nodup){i j:Nat}{x:Str}(a:N[i]?=some x)(b:N[j]?=some x):i=j:=by
 obtain⟨h1,e1⟩:=List.getElem?_eq_some_iff.mp a;obtain⟨h2,e2⟩:=List.getElem?_eq_some_iff.mp b;exact(List.getElem_inj hN).mp (e1.trans e2.symm)
theorem zg9 {M:Model}{A:Around}{E:Value->Shared->Prop}{i:Nat}{x:Str}{v:V}{u:Value}{Q:Unit->Shared->Prop}(I:z5 X pins σ H s)(hN:X.N.Nodup)(hi:X.N[i]?=some x)(hx:tZ X.env.scope x)(r:zS v u)
  (h: ∀s',z5 X pins (σ.set i (some v)) H s'->(∃a,Heap.SameBut a s.heap s'.heap/\(a=X.env.locals∨X.env.cells.lookup x=some a))->Q () s') (hf:X.fn x=true∨X.env.scope.names.lookup x=some .local:=by first | exact .inl rfl | exact .inr rfl | assumption):wpAny M A (storeName X.env x u) Q E s:=by
 obtain⟨m,hn,hl⟩:=id I.loc;have hcls:(X.env.scope.kind== .class||(X.env.scope.kind== .module&&X.env.locals !=X.env.globals))=false:=by rw[I.ok.kind];rfl
 have hiσ:i < σ.length:=by rw[I.len];exact(List.getElem?_eq_some_iff.mp hi).1
 have cne:=I.cne;have tracked: ∀{a:Addr} {h':Heap},(∃o,s.heap.get? a=some o/\H a=none)->Heap.SameBut a s.heap h'->xI X.prog X.w H h':=λ{a h'} ha hs b ob e=>by
  obtain⟨_,_,hfree⟩:=ha;refine(I.hok b ob e).stay (λc w' hc q=>(hs.2 c ?_).trans q) (λ_ q=>q) λ_ _ q=>q;rintro rfl;rcases hc with rfl | hc
  ·rw[hfree]at e;cases e
  ·rw[hfree]at hc;cases hc
 rcases hx with hk | hk
 ·refine wpAny_storeName_local hk hn (λh' hn' hs=> ?_) hcls
  obtain⟨oL,_,_,hoL,_⟩:=id hn;refine h _ ⟨I.ok,I.os,I.bare,⟨λb o e n hb hx=> ?_,λb o e n hb hx=> ?_,I.base.free,λb o e hx=> ?_,I.base.tups,I.base.frzs,I.base.tbls⟩,⟨_,hn',λj y v' e1 e2 e3=> ?_⟩,λy c e=> ?_,I.free,I.freeC,λp hp=> ?_,tracked ⟨oL,hoL,I.free⟩ hs,by simpa using I.len⟩ ⟨_,hs,.inl rfl⟩
  ·exact(hs.2 b (Nat.ne_of_lt (Nat.lt_of_lt_of_le (Heap.lt_size e) I.ok.above))).trans (I.base.keep b o e n hb hx)
  ·obtain⟨sl,e1⟩:=I.base.slot b o e n hb hx
   exact⟨sl,(hs.2 b (Nat.ne_of_lt (Nat.lt_of_lt_of_le (Heap.lt_size e) I.ok.above))).trans e1⟩
  ·obtain⟨o',e1⟩:=I.base.there b o e hx
   exact⟨o',(hs.2 b (Nat.ne_of_lt (Nat.lt_of_lt_of_le (Heap.lt_size e) I.ok.above))).trans e1⟩
  ·by_cases hj:j=i
   ·subst hj
    rw[hi]at e1;cases e1;rw[List.getElem?_set_self hiσ]at e2;cases e2;exact⟨u,r,.inl ⟨hk,by simp⟩⟩
   ·rw[List.getElem?_set_ne (Ne.symm hj)]at e2
    obtain⟨u',r',q⟩:=hl j y v' e1 e2 e3;refine⟨u',r',?_⟩;rcases q with⟨k,e⟩ | ⟨k,c,e,z⟩
    ·refine .inl ⟨k,?_⟩
     have:y≠x:=λe=>hj (zeY hN e1 (e▸hi));simp[this,e]
    ·exact .inr ⟨k,c,e,z.sameBut hs (cne y c e)⟩
  ·obtain⟨w',z⟩:=I.cell y c e
   exact⟨w',z.sameBut hs (cne y c e)⟩
  ·obtain⟨e,n,ne,nf,d⟩:=I.pin p hp
   exact⟨(hs.2 p.1 ne).trans e,n,ne,nf,d⟩
 ·have hfn:X.fn x=true:=by
   rcases hf with z | z
   ·exact z
   ·rw[z]at hk;cases hk
  obtain⟨c,hc⟩:=I.ok.has x (.inl hk);obtain⟨w',z⟩:=I.cell x c hc;refine wpAny_storeName_cell I.ok.kind hk hc z (λh' hc' hs=> ?_);obtain⟨oc,hoc,hocd⟩:=id z;refine h {s with heap:=h'} ⟨I.ok,I.os,I.bare,⟨λb o e n hb hx=> ?_,λb o e n hb hx=> ?_,I.base.free,λb o e hx=> ?_,I.base.tups,I.base.frzs,I.base.tbls⟩,⟨m,hn.sameBut hs (Ne.symm (cne x c hc)),λj y v' e1 e2 e3=> ?_⟩,λy c' e=> ?_,I.free,I.freeC,λp hp=> ?_,tracked ⟨oc,hoc,I.freeC x c hc⟩ hs,by simpa using I.len⟩ ⟨c,hs,.inr hc⟩
  ·exact(hs.2 b (Nat.ne_of_lt (Nat.lt_of_lt_of_le (Heap.lt_size e) (I.ok.cab x c hfn hc)))).trans (I.base.keep b o e n hb hx)
  ·obtain⟨sl,e1⟩:=I.base.slot b o e n hb hx
   exact⟨sl,(hs.2 b (Nat.ne_of_lt (Nat.lt_of_lt_of_le (Heap.lt_size e) (I.ok.cab x c hfn hc)))).trans e1⟩
  ·obtain⟨o',e1⟩:=I.base.there b o e hx
   exact⟨o',(hs.2 b (Nat.ne_of_lt (Nat.lt_of_lt_of_le (Heap.lt_size e) (I.ok.cab x c hfn hc)))).trans e1⟩
  ·by_cases hj:j=i
   ·subst hj
    rw[hi]at e1;cases e1;rw[List.getElem?_set_self hiσ]at e2;cases e2;exact⟨u,r,.inr ⟨.inl hk,c,hc,hc'⟩⟩
   ·rw[List.getElem?_set_ne (Ne.symm hj)]at e2
    obtain⟨u',r',q⟩:=hl j y v' e1 e2 e3;refine⟨u',r',?_⟩;rcases q with q | ⟨k,c',e,z'⟩
    ·exact .inl q
    ·refine .inr ⟨k,c',e,z'.sameBut hs ?_⟩
     rintro rfl;exact hj (zeY hN e1 (I.ok.inj _ _ _ e hc▸hi))
  ·by_cases hcc:c'=c
   ·subst hcc;exact⟨_,hc'⟩
   ·obtain⟨w2,z2⟩:=I.cell y c' e
    exact⟨w2,z2.sameBut hs hcc⟩
  ·obtain⟨e,n,ne,nf,d⟩:=I.pin p hp
   refine⟨(hs.2 p.1 ?_).trans e,n,ne,nf,d⟩;intro q;rw[q,hoc]at e;have q':oc=p.2:=Option.some.inj e;exact d w' (by rw[<- q'];exact hocd)
theorem i8 {M:Model}{A:Around}{E:Value->Shared->Prop}{i:Nat}{x:Str}{v:V}{u:Value}{Q:Unit->Shared->Prop}(I:z5 X pins σ H s)(hN:X.N.Nodup)(hi:X.N[i]?=some x)(hx:tZ X.env.scope x)(r:zS v u)
  (h: ∀s',z5 X pins (σ.set i (some v)) H s'->Q () s') (hf:X.fn x=true∨X.env.scope.names.lookup x=some .local:=by first | exact .inl rfl | exact .inr rfl | assumption):wpAny M A (storeName X.env x u) Q E s:=
 zg9 I hN hi hx r (λs' I' _=>h s' I') hf
theorem z5.call' {s':Shared}{ch:List Addr}(I:z5 X pins σ H s)(ho:s'.os=s.os)(u:Un (vK X.stack) ch H H' s.heap s'.heap)(hok:xI X.prog X.w H' s'.heap)(hg:AllBare s'.gens)
  (hch: ∀b∈ch,(b∈X.ex∨X.s₀.heap.objs.size<=b)/\b≠X.env.locals/\(∀x c,X.env.cells.lookup x=some c->c≠b)/\∀p∈X.pn++pins,p.1≠b):z5 X pins σ H' s':=by
 obtain⟨h',g',d',t',o'⟩:=s';have e:o'=s.os:=ho;subst e;exact I.call (g':=g') (t':=t') (d':=d') u hok hg hch
end
abbrev XK:=Value->Option Addr->Hp->Prop
abbrev St:=List (Option V)
abbrev VK:=V->Hp->Prop
abbrev TE:=St->Hp->VK->Prop
abbrev TT:=St->Hp->(Bool->Hp->Prop)->Prop
abbrev TA:=St->Hp->(List V->Hp->Prop)->Prop
structure tX where
 nx:St->Hp->Prop
 rt:VK
 bk:St->Hp->Prop:=λ_ _=>False
 ct:St->Hp->Prop:=λ_ _=>False
abbrev TS:=tX->St->Hp->Prop
def EP (X:Cx)(pins:List (Addr×Obj))(σ:St)(Q:VK)(u:Value)(s':Shared):Prop:= ∃v H',z5 X pins σ H' s'/\zS v u/\Q v H'
def TP (X:Cx)(pins:List (Addr×Obj))(σ:St)(Q:Bool->Hp->Prop)(b:Bool)(s':Shared):Prop:= ∃H',z5 X pins σ H' s'/\Q b H'
def AP (X:Cx)(pins:List (Addr×Obj))(σ:St)(Q:List V->Hp->Prop)(us:List Value)(s':Shared):Prop:= ∃vs H',z5 X pins σ H' s'/\zM vs us/\Q vs H'
def SP (X:Cx)(pins:List (Addr×Obj))(D:tX)(f:Flow)(s':Shared):Prop:=
 match f with
 | .next=> ∃σ' H',z5 X pins σ' H' s'/\D.nx σ' H'
 | .brk=> ∃σ' H',z5 X pins σ' H' s'/\D.bk σ' H'
 | .cont=> ∃σ' H',z5 X pins σ' H' s'/\D.ct σ' H'
 | .ret u=> ∃v σ' H',z5 X pins σ' H' s'/\zS v u/\D.rt v H'
structure PE (X:Cx)(e:Expr)(t:TE):Prop where
 run:
  ∀(pins:List (Addr×Obj)) (s:Shared) (σ:St) (H:Hp) (Q:VK),z5 X pins σ H s->t σ H Q->wpAny (model X.prog X.w) X.A (eval e X.env) (EP X pins σ Q) X.xe s
instance {X:Cx} {e:Expr} {t:TE} :CoeFun (PE X e t) λ_=>
 ∀(pins:List (Addr×Obj)) (s:Shared) (σ:St) (H:Hp) (Q:VK),z5 X pins σ H s->t σ H Q->wpAny (model X.prog X.w) X.A (eval e X.env) (EP X pins σ Q) X.xe s
  :=⟨PE.run⟩
structure PT (X:Cx)(e:Expr)(t:TT):Prop where
 run:
  ∀(pins:List (Addr×Obj)) (s:Shared) (σ:St) (H:Hp) (Q:Bool->Hp->Prop),z5 X pins σ H s->t σ H Q->wpAny (model X.prog X.w) X.A (isTrue e X.env (eval e X.env)) (TP X pins σ Q) X.xe s
instance {X:Cx} {e:Expr} {t:TT} :CoeFun (PT X e t) λ_=>
 ∀(pins:List (Addr×Obj)) (s:Shared) (σ:St) (H:Hp) (Q:Bool->Hp->Prop),z5 X pins σ H s->t σ H Q->wpAny (model X.prog X.w) X.A (isTrue e X.env (eval e X.env)) (TP X pins σ Q) X.xe s
  :=⟨PT.run⟩
structure PW (X:Cx)(e:Expr)(t:TT):Prop where
 run:
  ∀(whole:Sem Value) (pins:List (Addr×Obj)) (s:Shared) (σ:St) (H:Hp) (Q:Bool->Hp->Prop),z5 X pins σ H s->t σ H Q->wpAny (model X.prog X.w) X.A (isTrue e X.env whole) (TP X pins σ Q) X.xe s
instance {X:Cx} {e:Expr} {t:TT} :CoeFun (PW X e t) λ_=>
 ∀(whole:Sem Value) (pins:List (Addr×Obj)) (s:Shared) (σ:St) (H:Hp) (Q:Bool->Hp->Prop),z5 X pins σ H s->t σ H Q->wpAny (model X.prog X.w) X.A (isTrue e X.env whole) (TP X pins σ Q) X.xe s
  :=⟨PW.run⟩
theorem PW.pt {X:Cx}{e:Expr}{t:TT}(h:PW X e t):PT X e t:=⟨h.run _⟩
structure PA (X:Cx)(es:List Expr)(t:TA):Prop where
 run:
  ∀(pos:Pos) (pins:List (Addr×Obj)) (s:Shared) (σ:St) (H:Hp) (Q:List V->Hp->Prop),z5 X pins σ H s->t σ H Q->wpAny (model X.prog X.w) X.A (spliced (backTo pos (starEach es X.env))) (AP X pins σ Q) X.xe s
instance {X:Cx} {es:List Expr} {t:TA} :CoeFun (PA X es t) λ_=>
 ∀(pos:Pos) (pins:List (Addr×Obj)) (s:Shared) (σ:St) (H:Hp) (Q:List V->Hp->Prop),z5 X pins σ H s->t σ H Q->wpAny (model X.prog X.w) X.A (spliced (backTo pos (starEach es X.env))) (AP X pins σ Q) X.xe s
  :=⟨PA.run⟩
structure PS (X:Cx)(st:Stmt)(t:TS):Prop where
 run:
  ∀(pins:List (Addr×Obj)) (s:Shared) (σ:St) (H:Hp) (D:tX),z5 X pins σ H s->t D σ H->wpAny (model X.prog X.w) X.A (exec st X.env) (SP X pins D) X.xe s
instance {X:Cx} {st:Stmt} {t:TS} :CoeFun (PS X st t) λ_=>
 ∀(pins:List (Addr×Obj)) (s:Shared) (σ:St) (H:Hp) (D:tX),z5 X pins σ H s->t D σ H->wpAny (model X.prog X.w) X.A (exec st X.env) (SP X pins D) X.xe s
  :=⟨PS.run⟩
structure xJ (X:Cx)(st:List Stmt)(t:TS):Prop where
 run:
  ∀(pins:List (Addr×Obj)) (s:Shared) (σ:St) (H:Hp) (D:tX),z5 X pins σ H s->t D σ H->wpAny (model X.prog X.w) X.A (execs st X.env) (SP X pins D) X.xe s
instance {X:Cx} {st:List Stmt} {t:TS} :CoeFun (xJ X st t) λ_=>
 ∀(pins:List (Addr×Obj)) (s:Shared) (σ:St) (H:Hp) (D:tX),z5 X pins σ H s->t D σ H->wpAny (model X.prog X.w) X.A (execs st X.env) (SP X pins D) X.xe s
  :=⟨xJ.run⟩
theorem y0 {α:Type}{t:Sem α}{Q Q':α->Shared->Prop}{M:Model}{A:Around}{E:Value->Shared->Prop}{s:Shared}(h:wpAny M A t Q E s)(hQ: ∀a s,Q a s->Q' a s):wpAny M A t Q' E s:=wpAny_mono h hQ λ_ _ x=>x
end L2
namespace L2
open PySem PySem.Spec PyProof.Rows
section
variable {X:Cx}
def iB (i:Nat):TE:=λσ H Q=> ∃v,σ[i]?=some (some v)/\Q v H
def tC (v:V):TE:=λ_ H Q=>Q v H
theorem zbb {i:Nat}{x:Str}{pos:Pos}(hN:X.N[i]?=some x)(hv:gG X.env.scope x)(hd:(x==("__debug__" :Str))=false:=by decide)(hcd:(x==("__classdict__" :Str))=false:=by decide):PE X (.Name x pos) (iB i):=by
 (first | refine⟨?_⟩ | skip)
 intro pins s σ H Q I h;obtain⟨v,e,h⟩:=h;obtain⟨m,hn,hl⟩:=I.loc;obtain⟨u,r,l⟩:=hl i x v hN e hv;have fin:EP X pins σ Q u s:=⟨v,H,I,r,h⟩;rcases l with⟨hk,hm⟩ | ⟨hk,c,hc,hcell⟩
 ·exact wpAny_Name (wpAny_loadName_local I.ok.kind hk hn hm fin) hd
 ·rcases hk with hk | hk
  ·exact wpAny_Name (wpAny_loadName_cell I.ok.kind hk hc hcell fin) hd
  ·exact wpAny_Name (wpAny_loadName_free I.ok.kind hk hc hcell fin hcd) hd
theorem zm5 {i j pos} :PE X (.Constant (.int i) j pos) (tC (.int i)):=⟨λ_ _ _ H _ I h=>wpAny_Constant_int ⟨.int i,H,I.tok _,⟨_,rfl⟩,h⟩⟩
theorem zmx {b j pos} :PE X (.Constant (.bool b) j pos) (tC (.bl b)):=⟨λ_ _ _ H _ I h=>Constant_bool ⟨.bl b,H,I,rfl,h⟩⟩
theorem zm9 {j pos} :PE X (.Constant .none j pos) (tC .non):=⟨λ_ _ _ H _ I h=>Constant_none ⟨.non,H,I,rfl,h⟩⟩
theorem zba {x j pos} :PE X (.Constant (.str x) j pos) (tC (.str x)):=⟨λ_ _ _ H _ I h=>Calls.Constant_str ⟨.str x,H,I.tok _,⟨_,rfl⟩,h⟩⟩
def Gl (X:Cx)(x:Str):Prop:=X.env.kindOf x=some .globalImplicit
theorem zkF {E:Value->Shared->Prop}{pins:List (Addr×Obj)}{s:Shared}{σ:St}{H:Hp}{x:Str}{u:Value}{pos:Pos}{Q:Value->Shared->Prop}(I:z5 X pins σ H s)(hg:Gl X x)(hm:X.mg x=some u)(h:Q u s)
  (hd:(x==("__debug__" :Str))=false:=by decide):wpAny (model X.prog X.w) X.A (eval (.Name x pos) X.env) Q E s:=
 Calls.Name_function_global I.ok.kind hg (Calls.loadGlobal_global (by rw[I.ok.glob];exact I.mod.glob.keeps I.bk) hm h) hd
theorem sJ {E:Value->Shared->Prop}{pins:List (Addr×Obj)}{s:Shared}{σ:St}{H:Hp}{x:Str}{u:Value}{pos:Pos}{Q:Value->Shared->Prop}(I:z5 X pins σ H s)(hg:Gl X x)(hm:X.mg x=none)(hv:bootBuiltins x=some u)(h:Q u s)
  (hn:x≠ "__name__" :=by decide) (hd:(x==("__debug__" :Str))=false:=by decide):wpAny (model X.prog X.w) X.A (eval (.Name x pos) X.env) Q E s:=by
 obtain⟨mb,h1,h2⟩:=I.mod.blt;exact Calls.Name_function_global I.ok.kind hg (Calls.loadGlobal_builtin (by rw[I.ok.glob];exact I.mod.glob.keeps I.bk) hm (by rw[I.ok.blt];exact h1.keeps I.bk) ((h2 x hn).trans hv) h) hd
theorem zmy {x:Str}{v:V}{u:Value}{pos:Pos}(hg:Gl X x)(hm:X.mg x=none)(hv:bootBuiltins x=some u)(r:zS v u)(hn:x≠ "__name__" :=by decide)(hd:(x==("__debug__" :Str))=false:=by decide):PE X (.Name x pos) (tC v):=
 ⟨λ_ _ _ H _ I h=>sJ I hg hm hv ⟨v,H,I,r,h⟩ hn hd⟩
variable {a b:Expr} {ta tb:TE} {pos:Pos}
structure PC (X:Cx)(op:CmpOp)(a b:Expr)(t:TE):Prop where
 run:
  ∀(pins:List (Addr×Obj)) (s:Shared) (σ:St) (H:Hp) (Q:VK),z5 X pins σ H s->t σ H Q->
   wpAny (model X.prog X.w) X.A (eval a X.env) (λv s₁=>wpAny (model X.prog X.w) X.A (eval b X.env) (λu s₂=>wpAny (model X.prog X.w) X.A (compareOp op v u) (EP X pins σ Q) X.xe s₂) X.xe s₁) X.xe s
instance {X:Cx} {op:CmpOp} {a b:Expr} {t:TE} :CoeFun (PC X op a b t) λ_=>
 ∀(pins:List (Addr×Obj)) (s:Shared) (σ:St) (H:Hp) (Q:VK),z5 X pins σ H s->t σ H Q->
  wpAny (model X.prog X.w) X.A (eval a X.env) (λv s₁=>wpAny (model X.prog X.w) X.A (eval b X.env) (λu s₂=>wpAny (model X.prog X.w) X.A (compareOp op v u) (EP X pins σ Q) X.xe s₂) X.xe s₁) X.xe s
  :=⟨PC.run⟩
variable {tA tB':TT} {wN:List Expr}
def zgE (t u:TT):TT:=λσ H Q=>t σ H λc H1=>if c=true then u σ H1 Q else Q false H1
def tOr (t u:TT):TT:=λσ H Q=>t σ H λc H1=>if c=true then Q true H1 else u σ H1 Q
def zo6 (t:TT):TT:=λσ H Q=>t σ H λc H1=>Q (!c) H1
theorem znk (ha:PT X a tA):PW X (.BoolOp .And [a] pos) tA:=by
 (first | refine⟨?_⟩ | skip)
 intro wh pins s σ H Q I h;refine isTrue_and (y0 (ha pins s σ H Q I h) λc s1 e=> ?_);cases c with
 | true=>exact isTrue_and_nil e
 | false=>exact e
theorem znm (ha:PT X a tA):PW X (.BoolOp .Or [a] pos) tA:=by
 (first | refine⟨?_⟩ | skip)
 intro wh pins s σ H Q I h;refine isTrue_or (y0 (ha pins s σ H Q I h) λc s1 e=> ?_);cases c with
 | false=>exact isTrue_or_nil e
 | true=>exact e
theorem znj (ha:PT X a tA)(hb:PW X (.BoolOp .And (b::wN) pos) tB'):PW X (.BoolOp .And (a::b::wN) pos) (zgE tA tB'):=by
 (first | refine⟨?_⟩ | skip)
 intro wh pins s σ H Q I h;refine isTrue_and (y0 (ha pins s σ H _ I h) λc s1 ⟨H1,I1,q1⟩=> ?_);cases c with
 | true=>exact hb wh pins s1 σ H1 Q I1 q1
 | false=>exact⟨H1,I1,q1⟩
theorem znl (ha:PT X a tA)(hb:PW X (.BoolOp .Or (b::wN) pos) tB'):PW X (.BoolOp .Or (a::b::wN) pos) (tOr tA tB'):=by
 (first | refine⟨?_⟩ | skip)
 intro wh pins s σ H Q I h;refine isTrue_or (y0 (ha pins s σ H _ I h) λc s1 ⟨H1,I1,q1⟩=> ?_);cases c with
 | true=>exact⟨H1,I1,q1⟩
 | false=>exact hb wh pins s1 σ H1 Q I1 q1
theorem znh (ha:PT X a tA):PT X (.UnaryOp .Not a pos) (zo6 tA):=by
 (first | refine⟨?_⟩ | skip)
 intro pins s σ H Q I h;exact isTrue_not (ha pins s σ H (λc H1=>Q (!c) H1) I h)
def zot (ta tb:TE):TE:=λσ H Q=>ta σ H λx H1=> ∃c,x= .bl c/\if c=true then tb σ H1 Q else Q (.bl false) H1
def zo7 (ta:TE):TE:=λσ H Q=>ta σ H λx H1=> ∃c,x= .bl c/\Q (.bl (!c)) H1
theorem zmA {op}{t:TE}(h:PE X a t):PE X (.BoolOp op [a] pos) t:=⟨λpins s σ H Q I hw=>BoolOp_one (h pins s σ H Q I hw)⟩
theorem zmw (ha:PE X a ta)(hb:PE X (.BoolOp .And (b::wN) pos) tb):PE X (.BoolOp .And (a::b::wN) pos) (zot ta tb):=by
 (first | refine⟨?_⟩ | skip)
 intro pins s σ H Q I h;refine BoolOp_and (y0 (ha pins s σ H _ I h) λv s1 ⟨x,H1,I1,r1,q1⟩=> ?_);obtain⟨c,rfl,q1⟩:=q1;cases r1;refine wpAny_truthy_bool ?_;cases c with
 | true=>exact hb pins s1 σ H1 Q I1 q1
 | false=>exact⟨.bl false,H1,I1,rfl,q1⟩
theorem zm_ (ha:PE X a ta):PE X (.UnaryOp .Not a pos) (zo7 ta):=by
 (first | refine⟨?_⟩ | skip)
 intro pins s σ H Q I h;refine UnaryOp_ (y0 (ha pins s σ H _ I h) λv s1 ⟨x,H1,I1,r1,q1⟩=> ?_);obtain⟨c,rfl,q1⟩:=q1;cases r1;exact not_of (wpAny_truthy_bool ⟨.bl (!c),H1,I1,rfl,q1⟩)
end
end L2
namespace L2
open PySem PySem.Spec PyProof.Rows
def yX (K:Frag)(H:Hp)(a:Addr)(xs:List V):Prop:=
 Rd H a (.lst xs)∨
  ∃(o:Obj) (its:Array Value) (n:Nat),K.lookup a=some o/\o.cls= .type "list" /\o.dict=none/\o.data= .seq its n/\its.size<=sizeLine/\zM xs its.toList/\o.slots= #[]
def xM (K:Frag)(H:Hp)(a:Addr)(xs:List V):Prop:=
 Rd H a (.tup xs)∨
  ∃(o:Obj) (its:Array Value) (n:Nat),K.lookup a=some o/\o.cls= .type "tuple" /\o.dict=none/\o.data= .seq its n/\its.size<=sizeLine/\zM xs its.toList
def zhY:Value->Option V
 | .none=>some .non
 | .bool b=>some (.bl b)
 | .int i _=>some (.int i)
 | .str x _=>some (.str x)
 | .bytes b _=>some (.byt b)
 | .float b _=>some (.flt b)
 | .ref a=>some (.ref a)
 | .type n=>some (.ty n)
 | _=>none
theorem zS.abs {x:V}{u:Value}(r:zS x u):zhY u=some x:=by
 cases x with
 | non=>cases r;rfl
 | bl _=>cases r;rfl
 | int _=>obtain⟨t,rfl⟩:=r;rfl
 | str _=>obtain⟨t,rfl⟩:=r;rfl
 | byt _=>obtain⟨t,rfl⟩:=r;rfl
 | flt _=>obtain⟨t,rfl⟩:=r;rfl
 | ref _=>cases r;rfl
 | ty _=>cases r;rfl
theorem zS.inj {x y:V}{u:Value}(r:zS x u)(q:zS y u):x=y:=Option.some.inj (r.abs.symm.trans q.abs)
theorem zM.inj: ∀{xs ys:List V} {us:List Value},zM xs us->zM ys us->xs=ys
 | _,_,_,.nil,.nil=>rfl
 | _,_,_,.cons r t,.cons r' t'=>by rw[r.inj r',zM.inj t t']
section
variable {X:Cx} {pins:List (Addr×Obj)} {σ:St} {H:Hp} {s:Shared} {a:Addr} {xs ys:List V}
theorem yX.of {K:Frag}(h:H a=some (.lst xs)):yX K H a xs:= .inl (.inl h)
theorem z5.list (I:z5 X pins σ H s)(h:yX X.K H a xs): ∃its:List Value,zM xs its/\PlainL s.heap a its.toArray/\xs.length<=sizeLine:=by
 rcases h with h | ⟨o,its,n,hk,hc,hd,hs,hz,r,_⟩
 ·obtain⟨z,its,n,r,e⟩:=h.ok I.hok
  exact⟨its,r,⟨_,n,e,rfl,rfl,rfl⟩,z⟩
 ·refine⟨its.toList,r,⟨o,n,I.kIn a o hk,hc,hd,by simpa using hs⟩,?_⟩
  have e:=r.length;simp only[Array.length_toList]at e;omega
theorem z5.tuple (I:z5 X pins σ H s)(h:xM X.K H a xs): ∃its:List Value,zM xs its/\IsTup s.heap a its.toArray/\xs.length<=sizeLine:=by
 rcases h with h | ⟨o,its,n,hk,hc,_,hs,hz,r⟩
 ·obtain⟨z,its,r,p⟩:=h.ok I.hok
  exact⟨its,r,p.tup,z⟩
 ·refine⟨its.toList,r,⟨o,I.kIn a o hk,hc,n,by simpa using hs⟩,?_⟩
  have e:=r.length;simp only[Array.length_toList]at e;omega
theorem z5.listX (I:z5 X pins σ H s)(h:yX X.K H a xs): ∃(its:List Value) (n:Nat),zM xs its/\s.heap.get? a=some {cls:= .type "list",data:= .seq its.toArray n} /\xs.length<=sizeLine:=by
 rcases h with h | ⟨o,its,n,hk,hc,hd,hs,hz,r,hsl⟩
 ·obtain⟨z,its,n,r,e⟩:=h.ok I.hok
  exact⟨its,n,r,e,z⟩
 ·obtain⟨cls,dict,data,slots⟩:=o
  dsimp only at hc hd hs hsl;subst hc hd hs hsl;refine⟨its.toList,n,r,by simpa using I.kIn a _ hk,?_⟩;have e:=r.length;simp only[Array.length_toList]at e;omega
theorem z5.list_inj (I:z5 X pins σ H s)(h:yX X.K H a xs)(h':yX X.K H a ys):xs=ys:=by
 obtain⟨its,r,⟨o,n,e,_,_,d⟩,_⟩:=I.list h;obtain⟨its',r',⟨o',n',e',_,_,d'⟩,_⟩:=I.list h';rw[e]at e';cases e';rw[d]at d';injection d' with d1 _
 have:its=its':=by simpa using congrArg Array.toList d1
 subst this;exact r.inj r'
theorem z5.tuple_inj (I:z5 X pins σ H s)(h:xM X.K H a xs)(h':xM X.K H a ys):xs=ys:=by
 obtain⟨its,r,⟨o,e,_,n,d⟩,_⟩:=I.tuple h;obtain⟨its',r',⟨o',e',_,n',d'⟩,_⟩:=I.tuple h';rw[e]at e';cases e';rw[d]at d';injection d' with d1 _
 have:its=its':=by simpa using congrArg Array.toList d1
 subst this;exact r.inj r'
end
abbrev Cx.wish (X:Cx)(E:Value->Shared->Prop):Cx:= {X with xe:=E}
abbrev Cx.nox (X:Cx):Cx:=X.wish λ_ _=>False
theorem Cx.Ok.wish {X:Cx}(ok:X.Ok)(E:Value->Shared->Prop):(X.wish E).Ok:=
 ⟨ok.mod,ok.kind,ok.glob,ok.blt,ok.above,ok.inj,ok.has,ok.cab,ok.hd,ok.frames,ok.stk,ok.exf,ok.bs,ok.bsz,ok.noex,ok.exfs,ok.funs,ok.frf⟩
theorem Cx.Ok.unwish {X:Cx}{E:Value->Shared->Prop}(ok:(X.wish E).Ok):X.Ok:=
 ⟨ok.mod,ok.kind,ok.glob,ok.blt,ok.above,ok.inj,ok.has,ok.cab,ok.hd,ok.frames,ok.stk,ok.exf,ok.bs,ok.bsz,ok.noex,ok.exfs,ok.funs,ok.frf⟩
section
variable {X:Cx} {pins:List (Addr×Obj)} {σ:St} {H:Hp} {s:Shared} {E:Value->Shared->Prop}
theorem z5.wish (I:z5 X pins σ H s)(E:Value->Shared->Prop):z5 (X.wish E) pins σ H s:=⟨I.ok.wish E,I.os,I.bare,I.base,I.loc,I.cell,I.free,I.freeC,I.pin,I.hok,I.len⟩
theorem z5.unwish (I:z5 (X.wish E) pins σ H s):z5 X pins σ H s:=⟨I.ok.unwish,I.os,I.bare,I.base,I.loc,I.cell,I.free,I.freeC,I.pin,I.hok,I.len⟩
theorem SP.unwish {D:tX}{f:Flow}{s':Shared}(h:SP (X.wish E) pins D f s'):SP X pins D f s':=by
 cases f with
 | next=>obtain⟨σ',H',I,q⟩:=h;exact⟨σ',H',I.unwish,q⟩
 | brk=>obtain⟨σ',H',I,q⟩:=h;exact⟨σ',H',I.unwish,q⟩
 | cont=>obtain⟨σ',H',I,q⟩:=h;exact⟨σ',H',I.unwish,q⟩
 | ret u=>obtain⟨v,σ',H',I,r,q⟩:=h;exact⟨v,σ',H',I.unwish,r,q⟩
theorem xJ.nox {st:List Stmt}{t:TS}(h:xJ X.nox st t):xJ X st t:=⟨λpins s σ H D I hw=>
 wpAny_mono (h pins s σ H D (I.wish _) hw) (λ_ _ q=>q.unwish) λ_ _ z=>False.elim z⟩
end
section
variable {X:Cx} {st:Stmt} {wN:List Stmt} {t u:TS} {e:Expr} {te:TE} {pos:Pos}
def zo4:TS:=λD σ H=>D.nx σ H
def zoB (t u:TS):TS:=λD σ H=>t {D with nx:=u D} σ H
theorem zne:xJ X [] zo4:=⟨λ_ _ σ H _ I h=>wpAny_execs_nil ⟨σ,H,I,h⟩⟩
theorem mW (h1:PS X st t)(h2:xJ X wN u):xJ X (st::wN) (zoB t u):=by
 (first | refine⟨?_⟩ | skip)
 intro pins s σ H D I h;refine wpAny_execs_cons (y0 (h1 pins s σ H {D with nx:=u D} I h) λf s1 q=> ?_);cases f with
 | next=>
  obtain⟨σ',H',I',q⟩:=q;exact h2 pins s1 σ' H' D I' q
 | ret v=>exact q
 | brk=>exact q
 | cont=>exact q
theorem znf (h1:PS X st t):xJ X [st] t:=by
 (first | refine⟨?_⟩ | skip)
 intro pins s σ H D I h;refine wpAny_execs_cons (y0 (h1 pins s σ H D I h) λf s1 q=> ?_);cases f with
 | next=>exact wpAny_execs_nil q
 | ret v=>exact q
 | brk=>exact q
 | cont=>exact q
theorem z5.quiet {pins:List (Addr×Obj)}{σ:St}{H:Hp}{s:Shared}(I:z5 X pins σ H s):interactive X.env=false:=by simp[interactive,I.ok.kind]
def zoy (te:TE):TS:=λD σ H=>te σ H λ_ H1=>D.nx σ H1
theorem zmY (he:PE X e te)(hs:swapsWith e none pos.line X.env=pure false:=by rfl):PS X (.Expr e pos) (zoy te):=by
 (first | refine⟨?_⟩ | skip)
 intro pins s σ H D I h;exact wpAny_Expr_any (y0 (he pins s σ H _ I h) λv s1 ⟨x,H1,I1,r1,q1⟩=>⟨σ,H1,I1,q1⟩) I.quiet hs
def zo_ (te:TE):TS:=λD σ H=>te σ H D.rt
theorem znc (he:PE X e te):PS X (.Return (some e) pos) (zo_ te):=by
 (first | refine⟨?_⟩ | skip)
 intro pins s σ H D I h;exact wpAny_Return_some (y0 (he pins s σ H _ I h) λv s1 ⟨x,H1,I1,r1,q1⟩=>⟨x,σ,H1,I1,r1,q1⟩)
def zo0 (c:TT)(t u:TS):TS:=λD σ H=>c σ H λb H1=>if b=true then t D σ H1 else u D σ H1
theorem zna {c:Expr}{a b:List Stmt}{tc:TT}(hc:PT X c tc)(ha:xJ X a t)(hb:xJ X b u):PS X (.If c a b pos) (zo0 tc t u):=by
 (first | refine⟨?_⟩ | skip)
 intro pins s σ H D I h;refine wpAny_If (y0 (hc pins s σ H _ I h) λd s1 ⟨H1,I1,q1⟩=> ?_);cases d with
 | true=>exact ha pins s1 σ H1 D I1 q1
 | false=>exact hb pins s1 σ H1 D I1 q1
end
abbrev TG:=V->St->Hp->(St->Hp->Prop)->Prop
abbrev uA:=List V->St->Hp->(St->Hp->Prop)->Prop
structure PG (X:Cx)(target:Expr)(t:TG):Prop where
 run:
  ∀(pins:List (Addr×Obj)) (s:Shared) (σ:St) (H:Hp) (v:V) (u:Value) (Q:St->Hp->Prop),z5 X pins σ H s->zS v u->t v σ H Q->
   wpAny (model X.prog X.w) X.A (assign target X.env u) (λ_ s'=> ∃σ' H',z5 X pins σ' H' s'/\Q σ' H') X.xe s
instance {X:Cx} {target:Expr} {t:TG} :CoeFun (PG X target t) λ_=>
 ∀(pins:List (Addr×Obj)) (s:Shared) (σ:St) (H:Hp) (v:V) (u:Value) (Q:St->Hp->Prop),z5 X pins σ H s->zS v u->t v σ H Q->
  wpAny (model X.prog X.w) X.A (assign target X.env u) (λ_ s'=> ∃σ' H',z5 X pins σ' H' s'/\Q σ' H') X.xe s
  :=⟨PG.run⟩
structure vS (X:Cx)(ts:List Expr)(t:uA):Prop where
 run:
  ∀(pins:List (Addr×Obj)) (s:Shared) (σ:St) (H:Hp) (vs:List V) (us:List Value) (Q:St->Hp->Prop),z5 X pins σ H s->zM vs us->t vs σ H Q->
   wpAny (model X.prog X.w) X.A (assignInOrder ((assignEach ts X.env).map (·.2)) us) (λ_ s'=> ∃σ' H',z5 X pins σ' H' s'/\Q σ' H') X.xe s
instance {X:Cx} {ts:List Expr} {t:uA} :CoeFun (vS X ts t) λ_=>
 ∀(pins:List (Addr×Obj)) (s:Shared) (σ:St) (H:Hp) (vs:List V) (us:List Value) (Q:St->Hp->Prop),z5 X pins σ H s->zM vs us->t vs σ H Q->
  wpAny (model X.prog X.w) X.A (assignInOrder ((assignEach ts X.env).map (·.2)) us) (λ_ s'=> ∃σ' H',z5 X pins σ' H' s'/\Q σ' H') X.xe s
  :=⟨vS.run⟩
abbrev gD:=V->V->V->Hp->(Hp->Prop)->Prop
def kL (X:Cx)(t:gD):Prop:=
 ∀(pins:List (Addr×Obj)) (s:Shared) (σ:St) (H:Hp) (o i v:V) (ov iv u:Value) (Q:Hp->Prop),z5 X pins σ H s->zS o ov->zS i iv->zS v u->t o i v H Q->
  wpAny (model X.prog X.w) X.A (setItem ov iv u) (λ_ s'=> ∃H',z5 X pins σ H' s'/\Q H') X.xe s
section
variable {X:Cx} {pos:Pos}
def j9 (i:Nat):TG:=λv σ H Q=>Q (σ.set i (some v)) H
theorem zmJ {i:Nat}{x:Str}(hN:X.N.Nodup)(hi:X.N[i]?=some x)(hx:tZ X.env.scope x)(hf:X.fn x=true∨X.env.scope.names.lookup x=some .local:=by first | exact .inl rfl | exact .inr rfl | assumption):PG X (.Name x pos) (j9 i):=by
 (first | refine⟨?_⟩ | skip)
 intro pins s σ H v u Q I r h;exact wpAny_assign_Name (i8 I hN hi hx r (λs' I'=>⟨_,H,I',h⟩) hf)
def zez:uA:=λvs σ H Q=>vs= []/\Q σ H
def zay (t:TG)(u:uA):uA:=λvs σ H Q=> ∃v r,vs=v::r/\t v σ H λσ' H'=>u r σ' H' Q
theorem zf5:vS X [] zez:=by
 (first | refine⟨?_⟩ | skip)
 intro pins s σ H vs us Q I r h;obtain⟨e,h⟩:=h;subst e;cases r;exact assignInOrder_nil ⟨σ,H,I,h⟩
theorem zbe {e:Expr}{es:List Expr}{t:TG}{u:uA}(h1:PG X e t)(h2:vS X es u)
  (hs:(assignEach (e::es) X.env).map (·.2)=assign e X.env::(assignEach es X.env).map (·.2):=by rfl):vS X (e::es) (zay t u):=by
 (first | refine⟨?_⟩ | skip)
 intro pins s σ H vs us Q I r h;obtain⟨v,vr,e1,h⟩:=h;subst e1;cases r with
 | cons r rr=>
  rw[hs];refine assignInOrder_cons (y0 (h1 pins s σ H _ _ _ I r h) λ_ s1 ⟨σ1,H1,I1,q1⟩=> ?_);exact h2 pins s1 σ1 H1 _ _ Q I1 rr q1
def ze0 (K:Frag)(n:Nat)(t:uA):TG:=λv σ H Q=> ∃a xs,v= .ref a/\xM K H a xs/\xs.length=n/\t xs σ H Q
theorem zf4 {es:List Expr}{k:Nat}{t:uA}{n:Nat}(hc:X.calm=true)(h:vS X es t)
  (hn:(assignEach es X.env).length=n:=by rfl) (hst:(assignEach es X.env).findIdx? (·.1)=none:=by rfl):PG X (.Tuple es k pos) (ze0 X.K n t):=by
 (first | refine⟨?_⟩ | skip)
 intro pins s σ H v u Q I r hw;obtain⟨a,xs,e1,hq,hl,hw⟩:=hw;subst e1;cases r;obtain⟨its,rv,ht,hz⟩:=I.tuple hq;refine assign_Tuple_tuple (I.ok.hd hc) ht (by simp[hn,<- hl,rv.length]) hst λh' hx=> ?_;have I1:z5 X pins σ H {s with heap:=h'} :=I.kept (t':=s.toks) λb o e=>hx b o (Nat.ne_of_lt (Heap.lt_size e)) e;exact h pins _ σ H xs _ Q I1 (by simpa using rv) hw
def zaz (to ti:TE)(t:gD):TG:=λv σ H Q=>to σ H λo H1=>ti σ H1 λi H2=>t o i v H2 λH3=>Q σ H3
theorem zbc {o i:Expr}{to ti:TE}{t:gD}(ho:PE X o to)(hi:PE X i ti)(hs:kL X t)
  (ha: ∀v,assign (.Subscript o i pos) X.env v=(do
   let ov <- holding [v] (eval o X.env)
   let iv <- holding [v,ov] (eval i X.env)
   standAt pos
   holding [v,ov,iv] (setItem ov iv v)
   release [v,ov,iv] []):=by intro _;rfl):PG X (.Subscript o i pos) (zaz to ti t):=by
 (first | refine⟨?_⟩ | skip)
 intro pins s σ H v u Q I r h;rw[ha];refine wpAny_bind (wpAny_holding (y0 (ho pins s σ H _ I h) λov s1 ⟨x,H1,I1,r1,q1⟩=> ?_));refine wpAny_bind (wpAny_holding (y0 (hi pins s1 σ H1 _ I1 q1) λiv s2 ⟨y,H2,I2,r2,q2⟩=> ?_));refine wpAny_bind (wpAny_standAt (wpAny_bind (wpAny_holding (y0 (hs pins s2 σ H2 x y v ov iv u _ I2 r1 r2 r q2) λ_ s3 ⟨H3,I3,q3⟩=> ?_))));exact wpAny_release ⟨σ,H3,I3,q3⟩
def lR (te:TE)(g:TG):TS:=λD σ H=>te σ H λx H1=>g x σ H1 D.nx
theorem zf_ {tg e:Expr}{te:TE}{g:TG}(he:PE X e te)(hg:PG X tg g)(hs:swapsWithSole [tg] e pos.line X.env=pure false:=by rfl)(hw:swappedStores [tg] e X.env=pure none:=by rfl)
  (h1:(assignEach [tg] X.env).map (·.2)= [assign tg X.env]:=by rfl):PS X (.Assign [tg] e pos) (lR te g):=by
 (first | refine⟨?_⟩ | skip)
 intro pins s σ H D I h;refine wpAny_Assign_stores (y0 (he pins s σ H _ I h) λv s1 ⟨x,H1,I1,r1,q1⟩=> ?_) hs hw;rw[h1];exact y0 (hg pins s1 σ H1 x v _ I1 r1 q1) λ_ s2 q=>q
theorem zfA {i:Nat}{x:Str}{e:Expr}{te:TE}{pos':Pos}(hN:X.N.Nodup)(hi:X.N[i]?=some x)(hx:tZ X.env.scope x)(he:PE X e te)(hs:swapsWith e (some (.Name x pos')) pos.line X.env=pure false:=by rfl)(hf:X.fn x=true∨X.env.scope.names.lookup x=some .local:=by first | exact .inl rfl | exact .inr rfl | assumption):
  PS X (.Assign [.Name x pos'] e pos) (lR te (j9 i)):=by
 (first | refine⟨?_⟩ | skip)
 intro pins s σ H D I h;refine wpAny_Assign_Name (y0 (he pins s σ H _ I h) λv s1 ⟨y,H1,I1,r1,q1⟩=> ?_) hs;exact i8 I1 hN hi hx r1 (λs2 I2=>⟨_,H1,I2,q1⟩) hf
def zo8 (i j:Nat)(ta:TA):TS:=λD σ H=>ta σ H λvs H1=> ∃v w,vs= [v,w]/\D.nx ((σ.set i (some v)).set j (some w)) H1
theorem znb {i j:Nat}{x y:Str}{a b:Expr}{ta:TA}{px py pt:Pos}{kt k2 pt2}(hc:X.calm=true)(hN:X.N.Nodup)(hi:X.N[i]?=some x)(hj:X.N[j]?=some y)(hij:i≠j)
  (hx:X.env.scope.names.lookup x=some .local) (hy:X.env.scope.names.lookup y=some .local) (ha:PA X [a,b] ta)
  (hw:swappedStores [.Tuple [.Name x px,.Name y py] kt pt] (.Tuple [a,b] k2 pt2) X.env=pure (some [x,y]))
  (hs:swapsWithSole [.Tuple [.Name x px,.Name y py] kt pt] (.Tuple [a,b] k2 pt2) pos.line X.env=pure false:=by rfl):
  PS X (.Assign [.Tuple [.Name x px,.Name y py] kt pt] (.Tuple [a,b] k2 pt2) pos) (zo8 i j ta):=by
 (first | refine⟨?_⟩ | skip)
 intro pins s σ H D I h;rw[exec_Assign_arm];refine wpAny_bind (wpAny_standAt ?_);rw[hs];refine wpAny_bind (wpAny_pure ?_);rw[if_neg (by decide)];refine wpAny_bind (Tuple_ (y0 (ha _ pins s σ H _ I h) λus s1 ⟨vs,H1,I1,r1,q1⟩=> ?_));obtain⟨v,w,e1,q1⟩:=q1;subst e1;obtain⟨u1,u2,rfl,rv,rw'⟩: ∃u1 u2,us= [u1,u2]/\zS v u1/\zS w u2:=by
  cases r1 with
  | cons p q=>
   cases q with
   | cons p' q'=>
    cases q';exact⟨_,_,rfl,p,p'⟩
 refine wpAny_newObj_type ?_ (by show 2<=sizeLine;decide);have I2:z5 X pins σ H1 {s1 with heap:=s1.heap.push {cls:= .type "tuple",data:= .seq [u1,u2].toArray}} :=I1.kept (t':=s1.toks) λb o e=>Heap.get?_push_of_some _ e;rw[hw];refine wpAny_bind (wpAny_pure ?_);show wpAny (model X.prog X.w) X.A (do rule "assign.swapped-stores";let items <- unpackItems (.ref s1.heap.objs.size) 2 none;assignInOrder [λv=>bindName X.env y v,λv=>bindName X.env x v] items.reverse;pure Flow.next) _ _ _;refine wpAny_bind (wpAny_rule (wpAny_bind (unpackItems_tuple (items:= #[u1,u2]) (I.ok.hd hc) (IsTup.new s1.heap _) λh' hx'=> ?_)));have I3:=I2.kept (h':=h') (t':=s1.toks) λb o e=>hx' b o (Nat.ne_of_lt (Heap.lt_size e)) e;show wpAny _ _ (assignInOrder [λv=>bindName X.env y v,λv=>bindName X.env x v] [u2,u1] >>= λ_=>pure Flow.next) _ _ _;refine wpAny_bind (assignInOrder_cons (wpAny_bindName (i8 I3 hN hj (.inl hy) rw' (λs2 I4=> ?_) (.inr hy))));refine assignInOrder_cons (wpAny_bindName (i8 I4 hN hi (.inl hx) rv (λs3 I5=>assignInOrder_nil (wpAny_pure ?_)) (.inr hx)));rw[List.set_comm _ _ (Ne.symm hij)]at I5;exact⟨_,H1,I5,q1⟩
end
section
variable {X:Cx} {pos:Pos}
def zoD (c:TT)(tb:TS):TS:=λD σ H=> ∃W:Nat->St->Hp->Prop,(∃m,W m σ H)/\∀m σ H,W m σ H->
 c σ H λb H1=>if b=true then ∃N:St->Hp->Prop,(∀σ' H',N σ' H'->∃m',m' < m/\W m' σ' H')/\tb {D with nx:=N,ct:=N,bk:=D.nx} σ H1 else D.nx σ H1
theorem znd {c:Expr}{body:List Stmt}{tc:TT}{tb:TS}(hp:PassesOwn (model X.prog X.w) X.A X.env X.xe)(hc:PT X c tc)(hb:xJ X body tb):PS X (.While c body [] pos) (zoD tc tb):=by
 (first | refine⟨?_⟩ | skip)
 intro pins s σ H D I h;obtain⟨W,⟨m0,w0⟩,turn⟩:=h;refine wpAny_While (codeAny_whileLoop (λn s'=> ∃σ' H',z5 X pins σ' H' s'/\W n σ' H') ?_ m0 ⟨σ,H,I,w0⟩);rintro n s1 ⟨σ1,H1,I1,w1⟩;refine wpAny_passesOwn hp (y0 (hc pins s1 σ1 H1 _ I1 (turn n σ1 H1 w1)) λb s2 ⟨H2,I2,q2⟩=> ?_);cases b with
 | true=>
  obtain⟨N,hN,q2⟩:=q2;rw[if_pos rfl];refine wpAny_passesOwn hp (y0 (hb pins s2 σ1 H2 _ I2 q2) λf s3 q3=> ?_);cases f with
  | next=>
   obtain⟨σ3,H3,I3,n3⟩:=q3;obtain⟨m',hm,w3⟩:=hN σ3 H3 n3;exact⟨m',hm,σ3,H3,I3,w3⟩
  | cont=>
   obtain⟨σ3,H3,I3,n3⟩:=q3;obtain⟨m',hm,w3⟩:=hN σ3 H3 n3;exact⟨m',hm,σ3,H3,I3,w3⟩
  | brk=>exact q3
  | ret v=>exact q3
 | false=>
  rw[if_neg Bool.false_ne_true];exact wpAny_execs_nil ⟨σ1,H2,I2,q2⟩
end
structure It where
 go:Nat->Hp->Prop
 yld:Nat->Hp->V->Hp->Prop
 stop:Nat->Hp->Prop
def tY (X:Cx)(pins:List (Addr×Obj))(H:Hp)(b:Addr):Prop:=
 H b=none/\b≠X.env.locals/\b∉X.fs/\(b∈X.ex∨X.s₀.heap.objs.size<=b)/\(∀x c,X.env.cells.lookup x=some c->c≠b)/\∀p∈X.pn++pins,p.1≠b
theorem z5.fpOk {X:Cx}{pins:List (Addr×Obj)}{σ:St}{H H':Hp}{s:Shared}{b:Addr}(I:z5 X pins σ H s)(hb:s.heap.objs.size<=b)(hn:H' b=none):tY X pins H' b:=by
 refine⟨hn,Nat.ne_of_gt (Nat.lt_of_lt_of_le I.lt hb),I.nofs hb,.inr (Nat.le_trans I.sz hb),λx c e z=> ?_,λp hp z=> ?_⟩
 ·obtain⟨v,q⟩:=I.cell x c e
  exact absurd (Nat.lt_of_lt_of_le q.lt (by rw[z];exact hb)) (Nat.lt_irrefl _)
 ·exact absurd (Nat.lt_of_lt_of_le (Heap.lt_size (I.pin p hp).1) (by rw[z];exact hb)) (Nat.lt_irrefl _)
structure qQ (P:Program)(w:World)(K:Frag)(tg:Expr)(J:It)(fp:List Addr)(it:Addr)(tn:Nat->Heap->Prop):Prop where
 mem:it∈fp
 obj: ∀i h,tn i h->∀b∈fp,∃o,h.get? b=some o/\∀v,o.data≠ .cell v
 keep: ∀i h h',tn i h->(∀b∈fp,∀o,h.get? b=some o->h'.get? b=some o)->tn i h'
 item: ∀(X:Cx),X.prog=P->X.w=w->X.K=K->X.calm=true->∀(i:Nat) (pins:List (Addr×Obj)) (s:Shared) (σ:St) (H:Hp) (E:Value->Shared->Prop),z5 X pins σ H s->(∀b∈fp,tY X pins H b)->tn i s.heap->J.go i H->
  wpAny (model P w) X.A (pyNext (.ref it)) (λr s1=> ∃u,r=some u/\
   wpAny (model P w) X.A (letOwnedTupleGo tg (.ref it) u) (λ_ s2=> ∃x H',z5 X pins σ H' s2/\zS x u/\J.yld i H x H'/\tn (i+1) s2.heap/\∀b∈fp,H' b=none) E s1) E s
 done: ∀(X:Cx),X.prog=P->X.w=w->X.K=K->X.calm=true->∀(i:Nat) (pins:List (Addr×Obj)) (s:Shared) (σ:St) (H:Hp) (E:Value->Shared->Prop),z5 X pins σ H s->(∀b∈fp,tY X pins H b)->tn i s.heap->J.stop i H->
  wpAny (model P w) X.A (pyNext (.ref it)) (λr s1=>r=none/\z5 X pins σ H s1) E s
 self: ∀(A:Around) (i:Nat) (s:Shared) (Q:Value->Shared->Prop) (E:Value->Shared->Prop),tn i s.heap->Q (.ref it) s->wpAny (model P w) A (pyIter (.ref it)) Q E s
abbrev TI:=St->Hp->(It->Hp->Prop)->Prop
def kK (X:Cx)(pins:List (Addr×Obj))(σ:St)(tg:Expr)(R:It->Hp->Prop)(itv:Value)(s2:Shared):Prop:=
 ∃(it:Addr) (fp:List Addr) (tn:Nat->Heap->Prop) (J:It) (H':Hp),itv= .ref it/\z5 X pins σ H' s2/\qQ X.prog X.w X.K tg J fp it tn/\tn 0 s2.heap/\(∀b∈fp,tY X pins H' b)/\R J H'
structure PI (X:Cx)(tg iter:Expr)(wi:TI):Prop where
 run:
  ∀(pins:List (Addr×Obj)) (s:Shared) (σ:St) (H:Hp) (R:It->Hp->Prop),z5 X pins σ H s->wi σ H R->
   wpAny (model X.prog X.w) X.A (eval iter X.env) (λv s1=>wpAny (model X.prog X.w) X.A (pyIter v) (kK X pins σ tg R) X.xe s1) X.xe s
instance {X:Cx} {tg iter:Expr} {wi:TI} :CoeFun (PI X tg iter wi) λ_=>
 ∀(pins:List (Addr×Obj)) (s:Shared) (σ:St) (H:Hp) (R:It->Hp->Prop),z5 X pins σ H s->wi σ H R->
  wpAny (model X.prog X.w) X.A (eval iter X.env) (λv s1=>wpAny (model X.prog X.w) X.A (pyIter v) (kK X pins σ tg R) X.xe s1) X.xe s
  :=⟨PI.run⟩
theorem jA {M:Model}{A:Around}{E:Value->Shared->Prop}{s:Shared}{tg:Expr}{it:Addr}{u:Value}{o:Obj}{n:String}{vs:Array Value}{Q:Unit->Shared->Prop}(ho:s.heap.get? it=some o)(hc:o.cls= .type n)(hd:o.data= .fields vs)
  (hn: ["enumerate","zip","dict_itemiterator","dict_reverseitemiterator","odict_iterator","itertools.zip_longest","itertools.pairwise"].contains n=false) (hQ:Q () s):wpAny M A (letOwnedTupleGo tg (.ref it) u) Q E s:=by
 unfold letOwnedTupleGo;cases tg <;> first
  | exact wpAny_pure hQ
  | (cases u <;> first
    | exact wpAny_pure hQ
    | (refine wpAny_bind (wpAny_load ho ?_)
       rw[hc,hd];show wpAny M A (if(["enumerate","zip","dict_itemiterator","dict_reverseitemiterator","odict_iterator","itertools.zip_longest","itertools.pairwise"].contains n&&vs[0]?==some (rawInt _))=true then _ else _) Q E s;rw[if_neg (by intro h;rw[hn,Bool.false_and]at h;cases h)];exact wpAny_pure hQ))
def kI (K:Frag)(a:Addr):It:=
 ⟨λi H=> ∃xs x,yX K H a xs/\xs[i]?=some x,λi H x H'=>H'=H/\∀xs,yX K H a xs->xs[i]?=some x,λi H=> ∃xs,yX K H a xs/\xs.length<=i⟩
def iY (K:Frag)(a:Addr):It:=
 ⟨λi H=> ∃xs x,xM K H a xs/\xs[i]?=some x,λi H x H'=>H'=H/\∀xs,xM K H a xs->xs[i]?=some x,λi H=> ∃xs,xM K H a xs/\xs.length<=i⟩
def nX (lo:Int)(n:Nat):It:=⟨λi _=>i < n,λi H x H'=>H'=H/\x= .int (lo+i),λi _=>n<=i⟩
theorem zoL {P:Program}{w:World}{K:Frag}{tg:Expr}(a it:Addr):qQ P w K tg (kI K a) [it] it (λi h=>h.IsListIter it a i) where
 mem:=by simp
 obj:=λi h st b hb=>by
  have e:b=it:=by simpa using hb
  subst e;obtain⟨o,e,c,d⟩:=st;exact⟨o,e,λv z=>by rw[d]at z;cases z⟩
 keep:=λi h h' st k=>st.at λo e=>k it (by simp) o e
 item:=by
  intro X hP hw hK hc i pins s σ H E I hf st hg;subst hP hw hK;obtain⟨xs,x,hq,hx⟩:=hg;obtain⟨its,rv,p,hz⟩:=I.list hq;obtain⟨u,hu,ru⟩:=rv.get hx;obtain⟨f0,f1,f2,f3,f4,f5⟩:=hf it (by simp);refine wpAny_pyNext_list_item st p.isList (x:=u) (by simpa using hu) λh' st' sb=> ?_;have I1:z5 X pins σ H {s with heap:=h'} :=I.turned (t':=s.toks) (λb o hb e=>(sb.2 b hb).trans e) f0 f1 f3 f4 f5;obtain⟨o,e,c,d⟩:=id st';exact⟨u,rfl,jA (s:= {s with heap:=h'}) e c d (by decide) ⟨x,H,I1,ru,⟨rfl,λys hy=>by rw[I.list_inj hy hq];exact hx⟩,st',λb hb=>(hf b hb).1⟩⟩
 done:=by
  intro X hP hw hK hc i pins s σ H E I hf st hg;subst hP hw hK;obtain⟨xs,hq,hx⟩:=hg;obtain⟨its,rv,p,hz⟩:=I.list hq;obtain⟨f0,f1,f2,f3,f4,f5⟩:=hf it (by simp);have hl:=rv.length;exact wpAny_pyNext_list_end (I.ok.hd hc) st p.isList (by simp;omega) λh' eb=>⟨rfl,I.turned (t':=s.toks) (λb o hb e=>eb b o hb e) f0 f1 f3 f4 f5⟩
 self:=λ_ _ _ _ _ st h=>wpAny_pyIter_listiter st h
theorem zoN {P:Program}{w:World}{K:Frag}{tg:Expr}(a it:Addr):qQ P w K tg (iY K a) [it] it (λi h=>h.IsTupleIter it a i) where
 mem:=by simp
 obj:=λi h st b hb=>by
  have e:b=it:=by simpa using hb
  subst e;obtain⟨o,e,c,d⟩:=st;exact⟨o,e,λv z=>by rw[d]at z;cases z⟩
 keep:=λi h h' st k=>st.at λo e=>k it (by simp) o e
 item:=by
  intro X hP hw hK hc i pins s σ H E I hf st hg;subst hP hw hK;obtain⟨xs,x,hq,hx⟩:=hg;obtain⟨its,rv,p,hz⟩:=I.tuple hq;obtain⟨u,hu,ru⟩:=rv.get hx;obtain⟨f0,f1,f2,f3,f4,f5⟩:=hf it (by simp);refine wpAny_pyNext_tuple_item st (show s.heap.IsTuple a its.toArray from p) (x:=u) (by simpa using hu) λh' st' sb=> ?_;have I1:z5 X pins σ H {s with heap:=h'} :=I.turned (t':=s.toks) (λb o hb e=>(sb.2 b hb).trans e) f0 f1 f3 f4 f5;obtain⟨o,e,c,d⟩:=id st';exact⟨u,rfl,jA (s:= {s with heap:=h'}) e c d (by decide) ⟨x,H,I1,ru,⟨rfl,λys hy=>by rw[I.tuple_inj hy hq];exact hx⟩,st',λb hb=>(hf b hb).1⟩⟩
 done:=by
  intro X hP hw hK hc i pins s σ H E I hf st hg;subst hP hw hK;obtain⟨xs,hq,hx⟩:=hg;obtain⟨its,rv,p,hz⟩:=I.tuple hq;obtain⟨f0,f1,f2,f3,f4,f5⟩:=hf it (by simp);have hl:=rv.length;exact wpAny_pyNext_tuple_end (I.ok.hd hc) st (show s.heap.IsTuple a its.toArray from p) (by simp;omega) λh' eb=>⟨rfl,I.turned (t':=s.toks) (λb o hb e=>eb b o hb e) f0 f1 f3 f4 f5⟩
 self:=λ_ _ _ _ _ st h=>wpAny_pyIter_tupleiter st h
theorem zoM {P:Program}{w:World}{K:Frag}{tg:Expr}(it:Addr)(lo:Int)(n:Nat):qQ P w K tg (nX lo n) [it] it (λi h=>IsRangeIter h it (lo+(i:Nat) * 1) ((n:Int) - (i:Nat)) 1) where
 mem:=by simp
 obj:=λi h st b hb=>by
  have e:b=it:=by simpa using hb
  subst e;exact⟨_,st,λv z=>by
   have z':Data.fields _=Data.cell v:=z;cases z'⟩
 keep:=λi h h' st k=>k it (by simp) _ st
 item:=by
  intro X hP hw hK hc i pins s σ H E I hf st hg;subst hP hw hK;obtain⟨f0,f1,f2,f3,f4,f5⟩:=hf it (by simp);have W:=Walks.range (prog:=X.prog) (w:=X.w) (I.ok.hd hc) it lo 1 n;refine W.item i s _ _ hg st λv h' tk hv st' kk=> ?_;obtain⟨t,rfl⟩:=hv;have I1:z5 X pins σ H {s with heap:=h',toks:=tk} :=I.turned (λb o hb e=>kk b o (by simpa using hb) e) f0 f1 f3 f4 f5;refine⟨_,rfl,jA (s:= {s with heap:=h',toks:=tk}) (n:= "range_iterator") st' rfl rfl (by decide) ⟨.int (lo+i),H,I1,⟨t,?_⟩,⟨rfl,rfl⟩,st',λb hb=>(hf b hb).1⟩⟩;rw[Int.mul_one]
 done:=by
  intro X hP hw hK hc i pins s σ H E I hf st hg;subst hP hw hK;obtain⟨f0,f1,f2,f3,f4,f5⟩:=hf it (by simp);exact wpAny_pyNext_range_end (I.ok.hd hc) st (by have:n<=i:=hg;omega) λh' eb=>⟨rfl,I.turned (t':=s.toks) (λb o hb e=>eb b o hb e) f0 f1 f3 f4 f5⟩
 self:=λ_ _ _ _ _ st h=>wpAny_pyIter_rangeiter st h
end L2
namespace L2
open PySem PySem.Spec PyProof.Rows
section
variable {X:Cx} {tg:Expr}
theorem zfL {pins:List (Addr×Obj)}{σ:St}{H:Hp}{s:Shared}{R:It->Hp->Prop}{E:Value->Shared->Prop}{lo hi:Int}{t u v:Tok}{tk:Nat}(I:z5 X pins σ H s)(h1: -(2 ^ 62)<=lo)(h2:lo < 2 ^ 62)(h3: -(2 ^ 62)<=hi)(h4:hi < 2 ^ 62)
  (q:R (nX lo (hi - lo).toNat) H):wpAny (model X.prog X.w) X.A (pyIter (.ref s.heap.objs.size)) (kK X pins σ tg R) E {s with heap:=s.heap.push {cls:= .type "range",data:= .fields #[.int lo t,.int hi u,.int 1 v]},toks:=tk} :=by
 refine wpAny_pyIter_range (IsRange.new ..) (small_one h1 h2 h3 h4) ?_;have I1:z5 X pins σ H {s with heap:=s.heap.push {cls:= .type "range",data:= .fields #[.int lo t,.int hi u,.int 1 v]},toks:=tk} :=I.kept λb o e=>Heap.get?_push_of_some _ e;refine⟨(s.heap.push {cls:= .type "range",data:= .fields #[.int lo t,.int hi u,.int 1 v]}).objs.size,[(s.heap.push {cls:= .type "range",data:= .fields #[.int lo t,.int hi u,.int 1 v]}).objs.size],_,_,H,rfl,
  I1.kept (t':=tk) λb o e=>Heap.get?_push_of_some _ e,zoM _ lo (hi - lo).toNat,?_,λb hb=> ?_,q⟩
 ·have e1:lo+((0:Nat):Int) * 1=lo:=by simp
  have e2:(((hi - lo).toNat:Nat):Int) - ((0:Nat):Int)=Builtin.Range.rangeSize lo hi 1:=by rw[rangeSize_one];split <;> omega
  show IsRangeIter _ _ (lo+((0:Nat):Int) * 1) ((((hi - lo).toNat:Nat):Int) - ((0:Nat):Int)) 1;rw[e1,e2];exact Heap.get?_push_size _ rfl
 ·have e:b=(s.heap.push {cls:= .type "range",data:= .fields #[.int lo t,.int hi u,.int 1 v]}).objs.size:=by simpa using hb
  subst e;exact I1.fpOk (Nat.le_refl _) (I1.hok.fresh (Nat.le_refl _))
def zkp (ta:TA):TI:=λσ H R=>ta σ H λvs H1=> ∃j:Int,vs= [.int j]/\ -(2 ^ 62)<=j/\j < 2 ^ 62/\R (nX 0 j.toNat) H1
def zkq (ta:TA):TI:=λσ H R=>ta σ H λvs H1=> ∃i j:Int,vs= [.int i,.int j]/\(-(2 ^ 62)<=i/\i < 2 ^ 62/\ -(2 ^ 62)<=j/\j < 2 ^ 62)/\R (nX i (j - i).toNat) H1
theorem zmO {a:Expr}{ta:TA}{p pos:Pos}(hg:Gl X "range")(hm:X.mg "range" =none)(ha:PA X [a] ta)(hs:starEach [a] X.env= [(false,eval a X.env)]:=by rfl):PI X tg (.Call (.Name "range" p) [a] [] pos) (zkp ta):=by
 (first | refine⟨?_⟩ | skip)
 intro pins s σ H R I h;refine Call_ (sJ I hg hm boot_range (callWith_type1 (y0 (ha pos pins s σ H _ I h) λus s1 ⟨vs,H1,I1,r1,q1⟩=> ?_) hs rfl));obtain⟨j,e,q1,q2,q⟩:=q1;subst e;cases r1 with
 | cons r rr=>
  cases rr;obtain⟨t,rfl⟩:=r;exact call_range_1 (zfL I1 (by omega) (by omega) q1 q2 (by simpa using q))
theorem zmP {a b:Expr}{ta:TA}{p pos:Pos}(hg:Gl X "range")(hm:X.mg "range" =none)(ha:PA X [a,b] ta)(hs:starEach [a,b] X.env= [(false,eval a X.env),(false,eval b X.env)]:=by rfl)(hs2:starEach [b] X.env= [(false,eval b X.env)]:=by rfl):
  PI X tg (.Call (.Name "range" p) [a,b] [] pos) (zkq ta):=by
 (first | refine⟨?_⟩ | skip)
 intro pins s σ H R I h;refine Call_ (sJ I hg hm boot_range (callWith_type1 (y0 (ha pos pins s σ H _ I h) λus s1 ⟨vs,H1,I1,r1,q1⟩=> ?_) (by rw[hs,hs2]) (by rw[hs2];rfl)));obtain⟨i,j,e,⟨q1,q2,q3,q4⟩,q⟩:=q1;subst e;cases r1 with
 | cons r rr=>
  cases rr with
  | cons r' rr=>
   cases rr;obtain⟨t,rfl⟩:=r;obtain⟨t',rfl⟩:=r';exact call_range_2 (zfL I1 q1 q2 q3 q4 q)
def zoz (wi:TI)(g:TG)(tb:TS):TS:=λD σ H=>wi σ H λJ H1=> ∃W:Nat->Nat->St->Hp->Prop,(∃m,W 0 m σ H1)/\∀i m σ H,W i m σ H->
 (J.stop i H/\D.nx σ H)∨(J.go i H/\∃N:St->Hp->Prop,(∀σ' H',N σ' H'->∃m',m' < m/\W (i+1) m' σ' H')/\∀x H',J.yld i H x H'->g x σ H' λσ2 H2=>tb {D with nx:=N,ct:=N,bk:=D.nx} σ2 H2)
def sN (fp:List Addr)(h:Heap):List (Addr×Obj):=fp.filterMap λb=>(h.get? b).map λo=>(b,o)
theorem oU {fp:List Addr}{h:Heap}{b:Addr}{o:Obj}(hb:b∈fp)(e:h.get? b=some o):(b,o)∈sN fp h:=List.mem_filterMap.mpr ⟨b,hb,by rw[e];rfl⟩
theorem zaQ {fp:List Addr}{h:Heap}{p:Addr×Obj}(hp:p∈sN fp h):p.1∈fp/\h.get? p.1=some p.2:=by
 obtain⟨b,hb,e⟩:=List.mem_filterMap.mp hp;cases q:h.get? b with
 | none=>rw[q]at e;cases e
 | some o=>
  rw[q]at e;have e':(b,o)=p:=Option.some.inj e;subst e';exact⟨hb,q⟩
theorem z5.pinned {pins:List (Addr×Obj)}{σ:St}{H:Hp}{s:Shared}{fp:List Addr}(I:z5 X pins σ H s)(hf: ∀b∈fp,tY X pins H b)(ho: ∀b∈fp,∃o,s.heap.get? b=some o/\∀v,o.data≠ .cell v):z5 X (pins++sN fp s.heap) σ H s:=
 I.pins_of λp hp=>(List.mem_append.mp hp).elim (λz=>I.pin p (List.mem_append_right _ z)) λz=>by
  obtain⟨hb,e⟩:=zaQ z;obtain⟨f0,f1,f2,_⟩:=hf p.1 hb;obtain⟨o,e',d⟩:=ho p.1 hb;rw[e]at e';cases e';exact⟨e,f0,f1,f2,d⟩
theorem z5.unpinned {pins pl:List (Addr×Obj)}{σ:St}{H:Hp}{s:Shared}(I:z5 X (pins++pl) σ H s):z5 X pins σ H s:=I.pins_of λp hp=>I.pin p (List.mem_append_right _ (List.mem_append_left _ hp))
theorem zmZ {iter:Expr}{body:List Stmt}{wi:TI}{g:TG}{tb:TS}{pos:Pos}(hp:PassesOwn (model X.prog X.w) X.A X.env X.xe)(hc:X.calm=true)(hi:PI X tg iter wi)(hg:PG X tg g)(hb:xJ X body tb)
  (hs: ∀x,foldedSetIterable iter X.env x=pure x:=by intro _;rfl):PS X (.For tg iter body [] pos) (zoz wi g tb):=by
 (first | refine⟨?_⟩ | skip)
 intro pins s σ H D I h;refine wpAny_For (y0 (hi pins s σ H _ I h) λv s1 h1=>y0 h1 λitv s2 h2=> ?_) hs;obtain⟨it,fp,tn,J,H2,e,I2,T,st2,f2,W,⟨m0,w0⟩,turn⟩:=h2;subst e;have stat: ∀{H':Hp},(∀b∈fp,H' b=none)->∀b∈fp,tY X pins H' b:=λhn b hb=>⟨hn b hb,(f2 b hb).2⟩;refine codeAny_forLoop_any (λn s'=> ∃i σ' H',z5 X pins σ' H' s'/\tn i s'.heap/\(∀b∈fp,H' b=none)/\W i n σ' H') ?_ m0 ⟨0,σ,H2,I2,st2,λb hb=>(f2 b hb).1,w0⟩;rintro n s3 ⟨i,σ3,H3,I3,st3,fr3,w3⟩;rcases turn i n σ3 H3 w3 with⟨stop,qn⟩ | ⟨go,N,hN,step⟩
 ·refine wpAny_passesOwn hp (y0 (T.done X rfl rfl rfl hc i pins s3 σ3 H3 X.xe I3 (stat fr3) st3 stop) λr s4 ⟨hr,I4⟩=> ?_)
  subst hr;exact wpAny_execs_nil ⟨σ3,H3,I4,qn⟩
 ·refine wpAny_passesOwn hp (y0 (T.item X rfl rfl rfl hc i pins s3 σ3 H3 X.xe I3 (stat fr3) st3 go) λr s4 ⟨u,hr,h4⟩=> ?_)
  subst hr;refine wpAny_passesOwn hp (y0 h4 λ_ s5 ⟨x,H5,I5,r5,y5,st5,fr5⟩=> ?_);have I5':=I5.pinned (stat fr5) (T.obj _ _ st5);refine wpAny_passesOwn hp (y0 (hg _ s5 σ3 H5 x u _ I5' r5 (step x H5 y5)) λ_ s6 ⟨σ6,H6,I6,q6⟩=> ?_);refine wpAny_passesOwn hp (y0 (hb _ s6 σ6 H6 _ I6 q6) λf s7 q7=> ?_);have again: ∀{σ7:St} {H7:Hp},z5 X (pins++sN fp s5.heap) σ7 H7 s7->N σ7 H7->∃m,m < n/\∃i σ' H',z5 X pins σ' H' s7/\tn i s7.heap/\(∀b∈fp,H' b=none)/\W i m σ' H':=λ{σ7 H7} I7 n7=>by
   obtain⟨m',hm,w7⟩:=hN σ7 H7 n7;refine⟨m',hm,i+1,σ7,H7,I7.unpinned,T.keep _ _ _ st5 λb hb o e=>(I7.pin (b,o) (List.mem_append_right _ (List.mem_append_right _ (oU hb e)))).1,λb hb=> ?_,w7⟩;obtain⟨o,e,d⟩:=T.obj _ _ st5 b hb;exact(I7.pin (b,o) (List.mem_append_right _ (List.mem_append_right _ (oU hb e)))).2.1
  cases f with
  | next=>obtain⟨σ7,H7,I7,n7⟩:=q7;exact again I7 n7
  | cont=>obtain⟨σ7,H7,I7,n7⟩:=q7;exact again I7 n7
  | brk=>obtain⟨σ7,H7,I7,q7⟩:=q7;exact⟨σ7,H7,I7.unpinned,q7⟩
  | ret v=>obtain⟨x7,σ7,H7,I7,r7,q7⟩:=q7;exact⟨x7,σ7,H7,I7.unpinned,r7,q7⟩
end
end L2
namespace L2
open PySem PySem.Spec PyProof.Rows
abbrev R2:=V->V->Hp->VK->Prop
def yG (X:Cx)(f:Value->Value->Sem Value)(r:R2):Prop:=
 ∀(pins:List (Addr×Obj)) (s:Shared) (σ:St) (H:Hp) (x y:V) (v u:Value) (Q:VK),z5 X pins σ H s->zS x v->zS y u->r x y H Q->
  wpAny (model X.prog X.w) X.A (f v u) (EP X pins σ Q) X.xe s
def mC (X:Cx)(f:Value->Sem Value)(r:V->Hp->VK->Prop):Prop:=
 ∀(pins:List (Addr×Obj)) (s:Shared) (σ:St) (H:Hp) (x:V) (v:Value) (Q:VK),z5 X pins σ H s->zS x v->r x H Q->
  wpAny (model X.prog X.w) X.A (f v) (EP X pins σ Q) X.xe s
def wF (X:Cx)(f:Value)(r:List V->Hp->VK->Prop):Prop:=
 ∀(pins:List (Addr×Obj)) (s:Shared) (σ:St) (H:Hp) (xs:List V) (us:List Value) (Q:VK),z5 X pins σ H s->zM xs us->r xs H Q->
  wpAny (model X.prog X.w) X.A (call f us) (EP X pins σ Q) X.xe s
def zhX (X:Cx)(r:V->Hp->(Bool->Hp->Prop)->Prop):Prop:=
 ∀(pins:List (Addr×Obj)) (s:Shared) (σ:St) (H:Hp) (x:V) (v:Value) (Q:Bool->Hp->Prop),z5 X pins σ H s->zS x v->r x H Q->
  wpAny (model X.prog X.w) X.A (truthy v) (TP X pins σ Q) X.xe s
def lS (r:R2)(ta tb:TE):TE:=λσ H Q=>ta σ H λx H1=>tb σ H1 λy H2=>r x y H2 Q
def tUn (r:V->Hp->VK->Prop)(ta:TE):TE:=λσ H Q=>ta σ H λx H1=>r x H1 Q
def rI (C:Int->Int->Prop)(g:Int->Int->V):R2:=λx y H Q=> ∃i j,x= .int i/\y= .int j/\C i j/\Q (g i j) H
def q9 (g:Int->Int->V):R2:=λx y H Q=> ∃i j,x= .int i/\y= .int j/\Q (g i j) H
def rU (g:Int->V):V->Hp->VK->Prop:=λx H Q=> ∃i,x= .int i/\Q (g i) H
section
variable {X:Cx} {a b c:Expr} {ta tb tc:TE} {pos:Pos}
theorem gQ (ha:PE X a ta)(hb:PE X b tb){pins:List (Addr×Obj)}{s:Shared}{σ:St}{H:Hp}{R:V->V->Hp->Prop}(I:z5 X pins σ H s)
  (h:ta σ H λx H1=>tb σ H1 λy H2=>R x y H2) {Q:Value->Shared->Prop} {f:Value->Value->Sem Value}
  (hf: ∀v u s2 x y H2,z5 X pins σ H2 s2->zS x v->zS y u->R x y H2->wpAny (model X.prog X.w) X.A (f v u) Q X.xe s2):
  wpAny (model X.prog X.w) X.A (eval a X.env) (λv s₁=>wpAny (model X.prog X.w) X.A (eval b X.env) (λu s₂=>wpAny (model X.prog X.w) X.A (f v u) Q X.xe s₂) X.xe s₁) X.xe s:=by
 refine y0 (ha pins s σ H _ I h) λv s1 ⟨x,H1,I1,r1,q1⟩=> ?_;refine y0 (hb pins s1 σ H1 _ I1 q1) λu s2 ⟨y,H2,I2,r2,q2⟩=> ?_;exact hf v u s2 x y H2 I2 r1 r2 q2
theorem zmB {op:Operator}{r:R2}(ho:yG X (binaryOp op) r)(ha:PE X a ta)(hb:PE X b tb):PE X (.BinOp a op b pos) (lS r ta tb):=by
 (first | refine⟨?_⟩ | skip)
 intro pins s σ H Q I h;exact wpAny_BinOp (gQ ha hb I h λv u s2 x y H2 I2 rx ry q=>ho pins s2 σ H2 x y v u Q I2 rx ry q)
theorem zmE {op:UnaryOp}{r:V->Hp->VK->Prop}(ho:mC X (unaryOp op) r)(ha:PE X a ta):PE X (.UnaryOp op a pos) (tUn r ta):=by
 (first | refine⟨?_⟩ | skip)
 intro pins s σ H Q I h;exact UnaryOp_ (y0 (ha pins s σ H _ I h) λv s1 ⟨x,H1,I1,r1,q1⟩=>ho pins s1 σ H1 x v Q I1 r1 q1)
theorem jL {f:Value->Value->Sem Value}{C:Int->Int->Prop}{g:Int->Int->Int}
  (rule: ∀(i j:Int) (t u:Tok) (s:Shared) (Q:Value->Shared->Prop) (E:Value->Shared->Prop),C i j->Q (.int (g i j) s.toks) {s with toks:=s.toks+1} ->wpAny (model X.prog X.w) X.A (f (.int i t) (.int j u)) Q E s):
  yG X f (rI C λi j=> .int (g i j)):=by
 (first | refine⟨?_⟩ | skip)
 intro pins s σ H x y v u Q I rx ry h;obtain⟨i,j,rfl,rfl,hc,q⟩:=h;obtain⟨t,rfl⟩:=rx;obtain⟨t',rfl⟩:=ry;exact rule i j t t' s _ _ hc ⟨.int (g i j),H,I.tok _,⟨_,rfl⟩,q⟩
theorem zfr {f:Value->Value->Sem Value}{g:Int->Int->Int}
  (rule: ∀(i j:Int) (t u:Tok) (s:Shared) (Q:Value->Shared->Prop) (E:Value->Shared->Prop),Q (.int (g i j) s.toks) {s with toks:=s.toks+1} ->wpAny (model X.prog X.w) X.A (f (.int i t) (.int j u)) Q E s):
  yG X f (q9 λi j=> .int (g i j)):=by
 (first | refine⟨?_⟩ | skip)
 intro pins s σ H x y v u Q I rx ry h;obtain⟨i,j,rfl,rfl,q⟩:=h;obtain⟨t,rfl⟩:=rx;obtain⟨t',rfl⟩:=ry;exact rule i j t t' s _ _ ⟨.int (g i j),H,I.tok _,⟨_,rfl⟩,q⟩
theorem zaT {f:Value->Value->Sem Value}{g:Int->Int->Bool}
  (rule: ∀(i j:Int) (t u:Tok) (s:Shared) (Q:Value->Shared->Prop) (E:Value->Shared->Prop),Q (.bool (g i j)) s->wpAny (model X.prog X.w) X.A (f (.int i t) (.int j u)) Q E s):
  yG X f (q9 λi j=> .bl (g i j)):=by
 (first | refine⟨?_⟩ | skip)
 intro pins s σ H x y v u Q I rx ry h;obtain⟨i,j,rfl,rfl,q⟩:=h;obtain⟨t,rfl⟩:=rx;obtain⟨t',rfl⟩:=ry;exact rule i j t t' s _ _ ⟨.bl (g i j),H,I,rfl,q⟩
def lX (i j:Int):Prop:=0<=j/\j<=1000000/\i.natAbs < 2 ^ 64
def iL (i j:Int):Prop:=(-(2 ^ 64) < i/\i < 2 ^ 64)∨(-(2 ^ 64) < j/\j < 2 ^ 64)
theorem iL.ok {i j:Int}(h:iL i j):IntMulOk i j:=by
 rcases h with⟨h1,h2⟩ | ⟨h1,h2⟩
 ·exact .of_left (intBits_le_64 h1 h2)
 ·exact .of_right (intBits_le_64 h1 h2)
theorem zlY:yG X (binaryOp .Add) (q9 λi j=> .int (i+j)):=zfr λ_ _ _ _ _ _ _ q=>add_int q
theorem zmq:yG X (binaryOp .Sub) (q9 λi j=> .int (i - j)):=zfr λ_ _ _ _ _ _ _ q=>sub_int q
theorem zml:yG X (binaryOp .Mult) (rI iL λi j=> .int (i * j)):=jL λ_ _ _ _ _ _ _ hc q=>mul_int q hc.ok
theorem zmk:yG X (binaryOp .Mod) (rI (λ_ j=>0 < j) λi j=> .int (i % j)):=jL λi j _ _ _ _ _ hc q=>by
 have h1:(0:Int) < j:=hc;exact mod_int' (by omega) (by rw[Int.fmod_eq_emod_of_nonneg i (by omega)];exact q)
theorem zmp:yG X (binaryOp .Pow) (rI lX λi j=> .int (i ^ j.toNat)):=jL λ_ _ _ _ _ _ _ hc q=>pow_int_small hc.1 hc.2.1 hc.2.2 q
theorem unI {f:Value->Sem Value}{g:Int->Int}
  (rule: ∀(i:Int) (t:Tok) (s:Shared) (Q:Value->Shared->Prop) (E:Value->Shared->Prop),Q (.int (g i) s.toks) {s with toks:=s.toks+1} ->wpAny (model X.prog X.w) X.A (f (.int i t)) Q E s):
  mC X f (rU λi=> .int (g i)):=by
 (first | refine⟨?_⟩ | skip)
 intro pins s σ H x v Q I rx h;obtain⟨i,rfl,q⟩:=h;obtain⟨t,rfl⟩:=rx;exact rule i t s _ _ ⟨.int (g i),H,I.tok _,⟨_,rfl⟩,q⟩
theorem zoQ:mC X (unaryOp .USub) (rU λi=> .int (-i)):=unI λ_ _ _ _ _ q=>neg_int q
end
section
variable {X:Cx} {a b c:Expr} {ta tb tc:TE} {pos:Pos}
theorem zat {pins:List (Addr×Obj)}{σ:St}{H:Hp}{s:Shared}{Q:VK}{k k':Bool}(I:z5 X pins σ H s)(q:Q (.bl k) H)(e:k=k'):EP X pins σ Q (.bool k') s:=by
 subst e;exact⟨.bl k,H,I,rfl,q⟩
theorem zmj:yG X (compareOp .Lt) (q9 λi j=> .bl (decide (i < j))):=zaT λ_ _ _ _ _ _ _ q=>lt_int q
theorem zmf:yG X (compareOp .Gt) (q9 λi j=> .bl (decide (j < i))):=zaT λ_ _ _ _ _ _ _ q=>gt_int q
theorem zme:yG X (compareOp .GtE) (q9 λi j=> .bl (decide (j<=i))):=zaT λ_ _ _ _ _ _ _ q=>ge_int q
theorem zmh:yG X (compareOp .In) (λx y H Q=> ∃i j,x= .str i/\y= .str j/\Q (.bl (!(Builtin.Str.occurrences j i 0 j.length 1).isEmpty)) H):=by
 (first | refine⟨?_⟩ | skip)
 intro pins s σ H x y v u Q I rx ry h;obtain⟨i,j,rfl,rfl,q⟩:=h;obtain⟨t,rfl⟩:=rx;obtain⟨t',rfl⟩:=ry;exact in_str (zat I q rfl)
theorem zmi:yG X (compareOp .Is) (λx y H Q=>y= .non/\Q (.bl (decide (x= .non))) H):=by
 (first | refine⟨?_⟩ | skip)
 intro pins s σ H x y v u Q I rx ry h;obtain⟨rfl,q⟩:=h;cases ry;refine is_none_gen (zat I q ?_);cases x <;> first
  | (cases rx;rfl)
  | (obtain⟨t,rfl⟩:=rx;rfl)
theorem zmo:yG X (compareOp .IsNot) (λx y H Q=>y= .non/\Q (.bl (!decide (x= .non))) H):=by
 (first | refine⟨?_⟩ | skip)
 intro pins s σ H x y v u Q I rx ry h;obtain⟨rfl,q⟩:=h;cases ry;refine isnot_none_gen (zat I q ?_);cases x <;> first
  | (cases rx;rfl)
  | (obtain⟨t,rfl⟩:=rx;rfl)
theorem y3 (b:Expr){op:CmpOp}(h:op≠ .In:=by decide)(h2:op≠ .NotIn:=by decide):behindInMarks op b=false:=by
 have e1:(op==CmpOp.In)=false:=by cases op <;> first | rfl | exact absurd rfl h
 have e2:(op==CmpOp.NotIn)=false:=by cases op <;> first | rfl | exact absurd rfl h2
 cases b <;> simp[behindInMarks,e1,e2]
theorem zm4 {op:CmpOp}{r:R2}(ho:yG X (compareOp op) r)(ha:PE X a ta)(hb:PE X b tb)(hm:behindInMarks op b=false):PE X (.Compare a [op] [b] pos) (lS r ta tb):=by
 (first | refine⟨?_⟩ | skip)
 intro pins s σ H Q I h;exact wpAny_Compare1 (gQ ha hb I h λv u s2 x y H2 I2 rx ry q=>ho pins s2 σ H2 x y v u Q I2 rx ry q) hm
def zgH (t:TE):TT:=λσ H Q=>t σ H λx H'=> ∃k,x= .bl k/\Q k H'
theorem zng {op:CmpOp}{r:R2}(ho:yG X (compareOp op) r)(ha:PE X a ta)(hb:PE X b tb)(hm:behindInMarks op b=false):PT X (.Compare a [op] [b] pos) (zgH (lS r ta tb)):=by
 (first | refine⟨?_⟩ | skip)
 intro pins s σ H Q I h;refine wpAny_isTrue_Compare1 (y0 (ha pins s σ H _ I h) λv s1 ⟨x,H1,I1,r1,q1⟩=>y0 (hb pins s1 σ H1 _ I1 q1) λu s2 ⟨y,H2,I2,r2,q2⟩=>
  y0 (ho pins s2 σ H2 x y v u _ I2 r1 r2 q2) λc s3 ⟨z,H3,I3,r3,k,e,q3⟩=> ?_) hm
 subst e;cases r3;exact wpAny_truthy_bool ⟨H3,I3,q3⟩
def gF (K:Frag)(x:V)(H:Hp)(k:Bool):Prop:=
 match x with
 | .non=>k=false
 | .bl b=>k=b
 | .int i=>k=(i !=0)
 | .str y=>y.length<=sizeLine/\k=((y.length:Int) !=0)
 | .byt y=>y.size<=sizeLine/\k=((y.size:Int) !=0)
 | .ref p=>(∃xs,yX K H p xs/\k= !xs.isEmpty)∨(∃xs,xM K H p xs/\k= !xs.isEmpty)∨∃kvs,H p=some (.dK kvs)/\k= !kvs.isEmpty
 | _=>False
theorem zku {κ:Type}{kvs:List (κ×V)}{vs:List (κ×Value)}(r:KV kvs vs):(!vs.isEmpty)= !kvs.isEmpty:=by
 cases r <;> rfl
theorem ze_ {xs:List V}{its:List Value}(r:zM xs its):(!its.toArray.isEmpty)= !xs.isEmpty:=by
 cases r <;> simp
theorem oS:(sizeLine:Nat) < 2 ^ 63:=by rw[sizeLine_eq];decide
theorem zoJ:zhX X (λx H Q=> ∃k,gF X.K x H k/\Q k H):=by
 (first | refine⟨?_⟩ | skip)
 intro pins s σ H x v Q I rx h;obtain⟨k,e,q⟩:=h;have hl:=oS;have hs:sizeLine=16777216:=sizeLine_eq;cases x with
 | non=>
  cases rx;have e':k=false:=e;subst e';exact truthy_none ⟨H,I,q⟩
 | bl b=>
  cases rx;have e':k=b:=e;subst e';exact wpAny_truthy_bool ⟨H,I,q⟩
 | int i=>
  obtain⟨t,rfl⟩:=rx;have e':k=(i !=0):=e;subst e';exact PySem.P.truthy_int ⟨H,I,q⟩
 | str y=>
  obtain⟨t,rfl⟩:=rx;obtain⟨hy,e'⟩:y.length<=sizeLine/\k=((y.length:Int) !=0):=e;subst e';exact PySem.P.truthy_str (by omega) ⟨H,I.tok _,q⟩
 | byt y=>
  obtain⟨t,rfl⟩:=rx;obtain⟨hy,e'⟩:y.size<=sizeLine/\k=((y.size:Int) !=0):=e;subst e';exact PySem.W.truthy_bytes (by omega) ⟨H,I.tok _,q⟩
 | ref p=>
  cases rx;have e':(∃xs,yX X.K H p xs/\k= !xs.isEmpty)∨(∃xs,xM X.K H p xs/\k= !xs.isEmpty)∨∃kvs,H p=some (.dK kvs)/\k= !kvs.isEmpty:=e;rcases e' with⟨xs,hx,e'⟩ | ⟨xs,hx,e'⟩ | ⟨kvs,hx,e'⟩
  ·subst e'
   obtain⟨its,r,pl,hz⟩:=I.list hx;have hlen:=r.length;exact wpAny_truthy_list pl.isList (by simp only[List.size_toArray];omega) ⟨H,I.tok _,by rw[ze_ r];exact q⟩
  ·subst e'
   obtain⟨its,r,pl,hz⟩:=I.tuple hx;have hlen:=r.length;exact truthy_tuple pl (by simp only[List.size_toArray];omega) ⟨H,I.tok _,by rw[ze_ r];exact q⟩
  ·subst e'
   obtain⟨hz,hS,vs,r,m⟩:kvs.length<=sizeLine/\(p==sysModules)=false/\∃vs,KV kvs vs/\s.heap.DictOf (xK X.prog X.w) p vs:=I.hok p _ hx;have hlen:kvs.length=vs.length:=Paired.length r;exact wpAny_truthy_dict hS m (by omega) ⟨H,I.tok _,by rw[zku r];exact q⟩
 | _=>exact(show False from e).elim
theorem zni (ha:PE X a ta)(he: ∀whole,isTrue a X.env whole=(do let v <- whole;standAt a.pos;holding [v] (truthy v))):
  PT X a (λσ H Q=>ta σ H λx H'=> ∃k,gF X.K x H' k/\Q k H'):=by
 (first | refine⟨?_⟩ | skip)
 intro pins s σ H Q I h;exact isTrue_plain (y0 (ha pins s σ H _ I h) λv s1 ⟨x,H1,I1,r1,q1⟩=>zoJ pins s1 σ H1 x v Q I1 r1 q1) (he _)
theorem zlZ:yG X (binaryOp .Add) (λx y H Q=> ∃i j,x= .str i/\y= .str j/\i.length+j.length<=sizeLine/\Q (.str (i++j)) H):=by
 (first | refine⟨?_⟩ | skip)
 intro pins s σ H x y v u Q I rx ry h;obtain⟨i,j,rfl,rfl,hz,q⟩:=h;obtain⟨t,rfl⟩:=rx;obtain⟨t',rfl⟩:=ry;exact add_str (λt' tk=>⟨.str (i++j),H,I.tok _,⟨_,rfl⟩,q⟩) hz
theorem tW {x:V}{us:List Value}(r:zM [x] us): ∃u,us= [u]/\zS x u:=by
 cases r with
 | cons r1 r2=>cases r2;exact⟨_,rfl,r1⟩
theorem zpg {x y:V}{us:List Value}(r:zM [x,y] us): ∃u w',us= [u,w']/\zS x u/\zS y w':=by
 cases r with
 | cons r1 r2=>
  cases r2 with
  | cons r3 r4=>cases r4;exact⟨_,_,rfl,r1,r3⟩
theorem zcK:wF X (.type "int") (λxs H Q=>(∃i,xs= [.int i]/\Q (.int i) H)∨∃k,xs= [.bl k]/\Q (.int (if k then 1 else 0)) H):=by
 (first | refine⟨?_⟩ | skip)
 intro pins s σ H xs us Q I r h;rcases h with⟨i,rfl,q⟩ | ⟨k,rfl,q⟩
 ·obtain⟨u,rfl,t,rfl⟩:=tW r
  exact call_int_int ⟨.int i,H,I,⟨_,rfl⟩,q⟩
 ·obtain⟨u,rfl,r1⟩:=tW r
  cases r1;exact call_int_bool ⟨.int (if k then 1 else 0),H,I.tok _,⟨_,rfl⟩,q⟩
def zhT (K:Frag)(x:V)(H:Hp)(n:Nat):Prop:=
 match x with
 | .str y=>y.length<=sizeLine/\n=y.length
 | .byt y=>y.size<=sizeLine/\n=y.size
 | .ref p=>(∃xs,yX K H p xs/\n=xs.length)∨∃xs,xM K H p xs/\n=xs.length
 | _=>False
theorem kS:wF X (.builtin "len") (λxs H Q=> ∃x n,xs= [x]/\zhT X.K x H n/\Q (.int n) H):=by
 (first | refine⟨?_⟩ | skip)
 intro pins s σ H xs us Q I r h;obtain⟨x,n,rfl,e,q⟩:=h;obtain⟨u,rfl,rx⟩:=tW r;have hl:=oS;have hs:sizeLine=16777216:=sizeLine_eq;cases x with
 | str y=>
  obtain⟨t,rfl⟩:=rx;obtain⟨hy,e'⟩:y.length<=sizeLine/\n=y.length:=e;subst e';exact len_str (by omega) ⟨.int _,H,I.tok _,⟨_,rfl⟩,q⟩
 | byt y=>
  obtain⟨t,rfl⟩:=rx;obtain⟨hy,e'⟩:y.size<=sizeLine/\n=y.size:=e;subst e';exact PySem.W.len_bytes (by omega) ⟨.int _,H,I.tok _,⟨_,rfl⟩,q⟩
 | ref p=>
  cases rx;have e':(∃xs,yX X.K H p xs/\n=xs.length)∨∃xs,xM X.K H p xs/\n=xs.length:=e;rcases e' with⟨xs,hx,e'⟩ | ⟨xs,hx,e'⟩
  ·subst e'
   obtain⟨its,r',pl,hz⟩:=I.list hx;have hlen:=r'.length;exact Calls.call_len_list pl.isList (by simp only[List.size_toArray];omega) ⟨.int xs.length,H,I.tok _,⟨_,by simp only[List.size_toArray];rw[hlen]⟩,q⟩
  ·subst e'
   obtain⟨its,r',pl,hz⟩:=I.tuple hx;have hlen:=r'.length;exact len_tuple pl (by simp only[List.size_toArray];omega) ⟨.int xs.length,H,I.tok _,⟨_,by simp only[List.size_toArray];rw[hlen]⟩,q⟩
 | _=>exact(show False from e).elim
end
end L2
namespace L2
open PySem PySem.Spec PyProof.Rows
section
variable {prog:Program} {w:World} {A:Around} {E:Value->Shared->Prop} {s:Shared} {K:Frag} {x dx C f:Addr} {mA:Str->Option Value} {name:Str} {v:Value}
end
theorem uV.some_of {v:V}{o:Option Value}(r:uV (some v) o): ∃u,o=some u/\zS v u:=by
 cases o with
 | none=>exact(show False from r).elim
 | some u=>exact⟨u,rfl,r⟩
section
variable {P:Program} {w:World} {H H':Hp} {h h':Heap} {a C dx:Addr} {fs fs':List (Str×V)}
end
section
variable {X:Cx} {pins:List (Addr×Obj)} {σ:St} {H:Hp} {s:Shared} {a C dx:Addr} {fs:List (Str×V)} {f:Str} {v:V} {A:Around} {E:Value->Shared->Prop}
end
section
variable {X:Cx} {o e value:Expr} {f:Str} {pos pos' tpos:Pos} {ta tv:TE}
end
section
variable {X:Cx} {pins:List (Addr×Obj)} {σ:St} {H:Hp} {s:Shared} {A:Around} {E:Value->Shared->Prop} {Q:Value->Shared->Prop} {c:Value} {b:Bool}
end
end L2
namespace L2
open PySem PySem.Spec PyProof.Rows
structure zY (k:Nat)(A:Around):Prop where
 hd:A.handled=none
 dp:A.depth+3 * k+5 < recursionLimit
 un:A.units+16 * k+200 < cLine
theorem zY.mono {j k:Nat}{A:Around}(r:zY k A)(h:j<=k):zY j A:=⟨r.hd,by have:=r.dp;omega,by have:=r.un;omega⟩
theorem zY.deeper {k:Nat}{A:Around}(r:zY (k+1) A)(env:Env):zY k (A.deeper env):=
 ⟨r.hd,by have:=r.dp;show A.depth+1+3 * k+5 < _;omega,by have:=r.un;show A.units+3+16 * k+200 < _;omega⟩
theorem zY.depth {k:Nat}{A:Around}(r:zY k A):A.depth < recursionLimit:=by have:=r.dp;omega
theorem zY.units {k:Nat}{A:Around}(r:zY k A):A.units+64 < cLine:=by have:=r.un;omega
def zgF:TA:=λ_ H Q=>Q [] H
def zbJ (ta:TE)(tr:TA):TA:=λσ H Q=>ta σ H λx H1=>tr σ H1 λxs H2=>Q (x::xs) H2
section
variable {X:Cx} {e:Expr} {es:List Expr} {te:TE} {t:TA} {pos:Pos}
theorem zfv:PA X [] zgF:=⟨λ_ _ _ _ H Q I h=>Calls.spliced_nil ⟨[],H,I,.nil,h⟩⟩
theorem zaX (ha:PE X e te)(hr:PA X es t)(hs:starEach (e::es) X.env=(false,eval e X.env)::starEach es X.env:=by rfl):PA X (e::es) (zbJ te t):=by
 (first | refine⟨?_⟩ | skip)
 intro pos pins s σ H Q I h;rw[hs];show wpAny _ _ (spliced ((false,eval e X.env)::backTo pos (starEach es X.env))) _ _ s;refine Calls.spliced_cons (y0 (ha pins s σ H _ I h) λu s1 ⟨x,H1,I1,r1,q1⟩=> ?_);exact y0 (hr pos pins s1 σ H1 _ I1 q1) λus s2 ⟨xs,H2,I2,r2,q2⟩=>⟨x::xs,H2,I2,.cons r1 r2,q2⟩
def zgI (t:TA):TE:=λσ H Q=>t σ H λxs H1=>xs.length<=sizeLine/\∀p,H1 p=none->Q (.ref p) (zQ H1 p (.tup xs))
def zo1 (t:TA):TE:=λσ H Q=>t σ H λxs H1=>xs.length<=sizeLine/\∀p,H1 p=none->Q (.ref p) (zQ H1 p (.lst xs))
theorem zf3 {x1}(h:PA X es t):PE X (.Tuple es x1 pos) (zgI t):=by
 (first | refine⟨?_⟩ | skip)
 intro pins s σ H Q I hq;refine wpAny_Tuple_spliced (y0 (h pos pins s σ H _ I hq) λus s1 ⟨xs,H1,I1,r,z,q⟩=>⟨by rw[<- r.length];exact z,?_⟩);have hf:H1 s1.heap.objs.size=none:=I1.hok.fresh (Nat.le_refl _);refine⟨.ref s1.heap.objs.size,zQ H1 s1.heap.objs.size (.tup xs),I1.laid (t':=s1.toks) (λb u e=>Heap.get?_push_of_some _ e) (Nat.le_refl _) ?_,rfl,q _ hf⟩;exact⟨z,us,r,⟨_,Heap.get?_push_size _ rfl,rfl,_,rfl,rfl⟩⟩
theorem zf2 (h:PA X es t):PE X (.List es pos) (zo1 t):=by
 (first | refine⟨?_⟩ | skip)
 intro pins s σ H Q I hq;refine wpAny_List_spliced (y0 (h pos pins s σ H _ I hq) λus s1 ⟨xs,H1,I1,r,z,q⟩=>⟨by rw[<- r.length];exact z,?_⟩);have hf:H1 s1.heap.objs.size=none:=I1.hok.fresh (Nat.le_refl _);refine⟨.ref s1.heap.objs.size,zQ H1 s1.heap.objs.size (.lst xs),I1.laid (t':=s1.toks) (λb u e=>Heap.get?_push_of_some _ e) (Nat.le_refl _) ?_,rfl,q _ hf⟩;exact⟨z,us,0,r,Heap.get?_push_size _ rfl⟩
end
abbrev Sp:=List V->Hp->VK->XK->Prop
abbrev uS:=List Env->Hp->Shared->XK->Value->Shared->Prop
structure lY (P:Program)(w:World)(K:Frag)(mg:Str->Option Value)(base:Heap)(A:Around)(outer:List Env)(s:Shared)(H:Hp):Prop where
 frames:A.frames=some outer
 mod:Mod K mg base
 bs: ∀b o,base.get? b=some o->s.heap.get? b=some o/\H b=none
 bsz:base.objs.size<=s.heap.objs.size
 funs:s.heap.FunFrames base outer
 frf: ∀b∈vK outer,H b=none
 hok:xI P w H s.heap
 bare:AllBare s.gens
def CE (outer:List Env)(P:Program)(w:World)(H:Hp)(s:Shared)(Q:VK)(u:Value)(s':Shared):Prop:=
 ∃v H',s'.os=s.os/\AllBare s'.gens/\Un (vK outer) [] H H' s.heap s'.heap/\xI P w H' s'.heap/\zS v u/\Q v H'
def CR (CX:uS)(outer:List Env)(P:Program)(w:World)(H:Hp)(s:Shared)(Q:VK)(E:XK)(r:Result)(s':Shared):Prop:=
 match r with
 | .ok (.ret u)=>CE outer P w H s Q u s'
 | .ok _=>False
 | .error e=>CX outer H s E e s'
structure zJ (P:Program)(w:World)(K:Frag)(mg:Str->Option Value)(base:Heap)(CX:uS)(k:Nat)(f:Addr)(fd:FuncData)(ps:List Str)(sp:Sp):Prop where
 len: ∀vs H Q E,sp vs H Q E->vs.length=ps.length
 run: ∀(A:Around) (outer:List Env) (s:Shared) (H:Hp) (args:Args) (us:List Value) (vs:List V) (Q:VK) (E:XK),zY k A->lY P w K mg base A outer s H->BindsTo s fd args (ps.zip us)->zM vs us->sp vs H Q E->
  codeAny (model P w) A (.call (.ref f) args) (CR CX outer P w H s Q E) s
section
variable {X:Cx} {pins:List (Addr×Obj)} {σ:St} {H:Hp} {s s':Shared}
theorem z5.env0 (I:z5 X pins σ H s):lY X.prog X.w X.K X.mg X.base X.A X.stack s H:=
 ⟨I.ok.frames,I.ok.mod,I.bs,Nat.le_trans I.ok.bsz I.sz,I.stack,I.stkFree,I.hok,I.bare⟩
theorem z5.after {Q:VK}{u:Value}(I:z5 X pins σ H s)(h:CE X.stack X.prog X.w H s Q u s'):EP X pins σ Q u s':=by
 obtain⟨v,H',os,bare,un,hok,r,q⟩:=h;obtain⟨hh,g,d,t,os'⟩:=s';obtain rfl:os'=s.os:=os;exact⟨v,H',I.call (h':=hh) (g':=g) (d':=d) (t':=t) (ch:= []) un hok bare (λb z=>absurd z (by simp)),r,q⟩
end
def zow (sp:Sp)(dvs:List V)(E:XK)(t:TA):TE:=λσ H Q=>t σ H λvs H1=>sp (vs++dvs) H1 Q E
def yM (K:Frag)(fd:FuncData)(ps:List Str)(ds:List Value):Prop:=
 ∀(s:Shared) (us:List Value),K.In s.heap->(us++ds).length=ps.length->BindsTo s fd ⟨us,[]⟩ (ps.zip (us++ds))
theorem yM.all {K:Frag}{fd:FuncData}{ps:List Str}(h: ∀us:List Value,us.length=ps.length->bindArgs fd ⟨us,[]⟩=pure (ps.zip us)):yM K fd ps []:=λs us _ hl=>by
 rw[List.append_nil]at hl⊢
 exact .of_eq (h us hl)
def gA (CX:uS)(X:Cx)(E:XK):Prop:= ∀(pins:List (Addr×Obj)) (σ:St) (H:Hp) (s:Shared) (e:Value) (s':Shared),z5 X pins σ H s->CX X.stack H s E e s'->X.xe e s'
section
variable {X:Cx} {CX:uS} {k:Nat} {f C:Addr} {fd:FuncData} {ps:List Str} {sp:Sp} {dvs:List V} {ds:List Value} {E:XK} {x m:Str} {p pos apos:Pos} {e o:Expr} {es:List Expr} {ta:TE} {t:TA}
theorem znV {pins:List (Addr×Obj)}{σ:St}{H:Hp}{s:Shared}{Q:VK}{us:List Value}{vs:List V}(F:zJ X.prog X.w X.K X.mg X.base CX k f fd ps sp)(hr:zY k X.A)(hb:yM X.K fd ps ds)(hd:zM dvs ds)(hx:gA CX X E)
  (I:z5 X pins σ H s) (r:zM vs us) (h:sp (vs++dvs) H Q E):wpAny (model X.prog X.w) X.A (call (.ref f) us) (EP X pins σ Q) X.xe s:=by
 have r2:zM (vs++dvs) (us++ds):=r.append hd;have hl:(us++ds).length=ps.length:=by rw[<- r2.length];exact F.len _ _ _ _ h
 refine wpAny_call (codeAny_mono (F.run X.A X.stack s H ⟨us,[]⟩ (us++ds) (vs++dvs) Q E hr I.env0 (hb s us I.kIn hl) r2 h) λr s' hq=> ?_);cases r with
 | error e=>exact hx pins σ H s e s' I hq
 | ok fl=>
  cases fl with
  | ret u=>exact I.after hq
  | next=>exact False.elim hq
  | brk=>exact False.elim hq
  | cont=>exact False.elim hq
theorem zm1 (F:zJ X.prog X.w X.K X.mg X.base CX k f fd ps sp)(hr:zY k X.A)(hg:Gl X x)(hm:X.mg x=some (.ref f))(hk:keepIn X.K (.ref f)=true)(hb:yM X.K fd ps ds)(hd:zM dvs ds)(hx:gA CX X E)
  (ha:PA X (e::es) t) (hdb:(x==("__debug__" :Str))=false:=by decide) (he:starEach (e::es) X.env=(false,eval e X.env)::starEach es X.env:=by rfl) (hpl:(backTo pos (starEach es X.env)).any (·.1)=false:=by rfl):
  PE X (.Call (.Name x p) (e::es) [] pos) (zow sp dvs E t):=by
 (first | refine⟨?_⟩ | skip)
 intro pins s σ H Q I h;refine wpAny_Call_Name_kw (zkF I hg hm ?_ hdb);refine PySem.W.callWith_K (h₀:=X.base) I.ok.mod.kin hk (y0 (ha pos pins s σ H _ I h) λus s1 ⟨vs,H1,I1,r,q⟩=>⟨I1.kIn,?_⟩) he hpl;exact znV F hr hb hd hx I1 r q
end
structure PK (X:Cx)(kws:List Keyword)(t:TA):Prop where
 run:
  ∀(pos:Pos) (pins:List (Addr×Obj)) (s:Shared) (σ:St) (H:Hp) (Q:List V->Hp->Prop),z5 X pins σ H s->t σ H Q->wpAny (model X.prog X.w) X.A (evalAll ((backToKw pos (keywordEach kws X.env)).map (·.2))) (AP X pins σ Q) X.xe s
instance {X:Cx} {kws:List Keyword} {t:TA} :CoeFun (PK X kws t) λ_=>
 ∀(pos:Pos) (pins:List (Addr×Obj)) (s:Shared) (σ:St) (H:Hp) (Q:List V->Hp->Prop),z5 X pins σ H s->t σ H Q->wpAny (model X.prog X.w) X.A (evalAll ((backToKw pos (keywordEach kws X.env)).map (·.2))) (AP X pins σ Q) X.xe s
  :=⟨PK.run⟩
section
variable {X:Cx} {CX:uS} {k:Nat} {f C:Addr} {fd:FuncData} {ps ks:List Str} {sp:Sp} {E:XK} {x m:Str} {p pos apos kpos:Pos} {e o:Expr} {es:List Expr} {kws:List Keyword} {te ta:TE} {t tk:TA} {nm:Option Str}
variable {g:List Value->List Value->List Value} {gV:List V->List V->List V}
end
structure yS (N P:List Str)(sc:Scope):Prop where
 kind:sc.kind= .function
 co:sc.isCoroutine=false
 gen:sc.isGenerator=false
 nd:N.Nodup
 pre:N.take P.length=P
 par: ∀x∈P,sc.names.lookup x=some .local∨sc.names.lookup x=some .cell
 nofree: ∀y∈sc.names,y.2≠ .free
theorem zcG {kindOf:Str->Option NameKind}{x:Str} : ∀{binds:List (Str×Value)} {m:Str->Option Value},(∀v,(x,v)∉binds)->bindL kindOf binds m x=m x
 | [],_,_=>rfl
 | (n,v)::r,m,h=>by
  unfold bindL;rw[zcG λw hw=>h w (List.mem_cons_of_mem _ hw)]
  split
  ·have:x≠n:=by rintro rfl;exact h v List.mem_cons_self
   simp[this]
  ·rfl
theorem zcE {kindOf:Str->Option NameKind}{x:Str} : ∀{binds:List (Str×Value)} {m:Str->Option Value},(∀v,(x,v)∉binds)->bindC kindOf binds m x=m x
 | [],_,_=>rfl
 | (n,v)::r,m,h=>by
  unfold bindC;rw[zcE λw hw=>h w (List.mem_cons_of_mem _ hw)]
  split
  ·rfl
  ·have:x≠n:=by rintro rfl;exact h v List.mem_cons_self
   simp[this]
theorem zcF {kindOf:Str->Option NameKind}{x:Str}{v:Value} : ∀{P:List Str} {vs:List Value} {i:Nat} {m:Str->Option Value},P.Nodup->P[i]?=some x->vs[i]?=some v->kindOf x=some .local->
  bindL kindOf (P.zip vs) m x=some v
 | [],_,_,_,_,h,_,_=>by simp at h
 | _::_,[],_,_,_,_,h,_=>by simp at h
 | p::P,w::vs,0,m,nd,h1,h2,hk=>by
  simp at h1 h2;subst h1;subst h2;show bindL kindOf ((p,w)::P.zip vs) m p=_;unfold bindL;rw[zcG λv hv=>(List.nodup_cons.mp nd).1 (List.of_mem_zip hv).1,if_pos hk];simp
 | p::P,w::vs,i+1,m,nd,h1,h2,hk=>by
  show bindL kindOf ((p,w)::P.zip vs) m x=_;unfold bindL;exact zcF (i:=i) (List.nodup_cons.mp nd).2 (by simpa using h1) (by simpa using h2) hk
theorem zcD {kindOf:Str->Option NameKind}{x:Str}{v:Value} : ∀{P:List Str} {vs:List Value} {i:Nat} {m:Str->Option Value},P.Nodup->P[i]?=some x->vs[i]?=some v->kindOf x≠some .local->
  bindC kindOf (P.zip vs) m x=some v
 | [],_,_,_,_,h,_,_=>by simp at h
 | _::_,[],_,_,_,_,h,_=>by simp at h
 | p::P,w::vs,0,m,nd,h1,h2,hk=>by
  simp at h1 h2;subst h1;subst h2;show bindC kindOf ((p,w)::P.zip vs) m p=_;unfold bindC;rw[zcE λv hv=>(List.nodup_cons.mp nd).1 (List.of_mem_zip hv).1,if_neg hk];simp
 | p::P,w::vs,i+1,m,nd,h1,h2,hk=>by
  show bindC kindOf ((p,w)::P.zip vs) m x=_;unfold bindC;exact zcD (i:=i) (List.nodup_cons.mp nd).2 (by simpa using h1) (by simpa using h2) hk
def start (N:List Str)(vs:List V):St:=vs.map some++List.replicate (N.length - vs.length) none
def qW (CX:uS)(P:Program)(w:World)(K:Frag)(mg:Str->Option Value)(base:Heap)(N:List Str)(qual:Str)(scope:Scope)(f:Addr)(cd:Value)(A:Around)(outer:List Env)(s:Shared)(H:Hp)(E:XK):Cx where
 prog:=P
 w:=w
 K:=K
 mg:=mg
 base:=base
 A:=A.deeper (envOfC qual scope s.heap.objs.size f cd)
 N:=N
 s₀:=s
 H₀:=H
 env:=envOfC qual scope s.heap.objs.size f cd
 outer:=outer
 stack:=envOfC qual scope s.heap.objs.size f cd::outer
 ex:= []
 calm:=true
 fn:=λ_=>true
 pn:= []
 xe:=λe s'=>wpAny (model P w) (A.deeper (envOfC qual scope s.heap.objs.size f cd)) (leaving (envOfC qual scope s.heap.objs.size f cd) e) (λ_ s''=>CX outer H s E e s'') (λe' s''=>CX outer H s E e' s'') s'
theorem zcQ {sc:Scope}{n:Nat}{x:Str}(h:sc.names.lookup x=some .cell): ∃c,(cellsFrom n sc.names []).lookup x=some c:=by
 have q:=PySem.W.cellsFrom_some sc.names n [] (.inl h);exact Option.isSome_iff_exists.mp q
theorem zkt {CX:uS}{P:Program}{w:World}{K:Frag}{mg:Str->Option Value}{base:Heap}{N ps:List Str}{qual:Str}{scope:Scope}{f:Addr}{cd:Value}{A:Around}{outer:List Env}{s s1:Shared}{H:Hp}{E:XK}{us:List Value}{vs:List V}
  (S:yS N ps scope) (hd:A.handled=none) (e0:lY P w K mg base A outer s H) (hl:vs.length=ps.length) (r:zM vs us)
  (x:InCallC s s.heap.objs.size (bindL (envOfC qual scope s.heap.objs.size f cd).kindOf (ps.zip us) λ_=>none) (cellsFrom (s.heap.objs.size+1) scope.names []) (bindC (envOfC qual scope s.heap.objs.size f cd).kindOf (ps.zip us) λ_=>none) s1):
  z5 (qW CX P w K mg base N qual scope f cd A outer s H E) [] (start N vs) H s1:=by
 have hpl:ps.length<=N.length:=by have:=congrArg List.length S.pre;rw[List.length_take]at this;omega
 obtain⟨h1,tk,rfl,hk⟩:=x.done;have noA: ∀b:Addr,b∉(qW CX P w K mg base N qual scope f cd A outer s H E).ex:=λb z=>absurd (show b∈([]:List Addr)from z) (by simp);refine⟨⟨e0.mod,S.kind,rfl,rfl,Nat.le_refl _,λy z c h1 h2=> ?_,λy hy=> ?_,λy c _ h=> ?_,λ_=>hd,Around.frames_deeper e0.frames,.inr ⟨rfl,rfl⟩,λb z=>absurd z (noA b),e0.bs,e0.bsz,λb _ _=>noA b,λb z=>absurd z (noA b),e0.funs,e0.frf⟩,
  rfl,e0.bare,Un.kept hk,⟨_,x.toInCall.ns,λi y v h1 h2 h3=> ?_⟩,λy c h=>⟨_,x.cell y c h⟩,e0.hok.fresh (Nat.le_refl _),λy c h=> ?_,λp hp=>absurd (show p∈([]:List (Addr×Obj))from hp) (by simp),e0.hok.kept hk,?_⟩
 ·exact name_of_addr x.apart (PySem.mem_of_lookup h1) (PySem.mem_of_lookup h2)
 ·have hy:scope.names.lookup y=some .cell∨scope.names.lookup y=some .free:=hy
  rcases hy with hy | hy
  ·exact zcQ hy
  ·exact absurd rfl (S.nofree _ (PySem.mem_of_lookup hy))
 ·exact Nat.le_of_lt (x.above y c (PySem.mem_of_lookup h))
 ·have hi:i < vs.length:=by
   unfold start at h2;by_cases hi:i < vs.length
   ·exact hi
   ·rw[List.getElem?_append_right (by simpa using hi)]at h2
    rw[List.getElem?_replicate]at h2
    split at h2 <;> cases h2
  have ha:vs[i]?=some v:=by
   unfold start at h2;rw[List.getElem?_append_left (by simpa using hi),List.getElem?_map]at h2;cases e:vs[i]? with
   | none=>rw[e]at h2;cases h2
   | some a=>rw[e]at h2;cases h2;rfl
  obtain⟨u,hu,rv⟩:=r.get ha;have hp:ps[i]?=some y:=by
   rw[<- S.pre,List.getElem?_take_of_lt (by omega)];exact h1
  have ndP:ps.Nodup:=by rw[<- S.pre];exact S.nd.sublist (List.take_sublist _ _)
  refine⟨u,rv,?_⟩;rcases S.par y (List.mem_of_getElem? hp)with k | k
  ·exact .inl ⟨k,zcF ndP hp hu k⟩
  ·obtain⟨c,e⟩:=zcQ (n:=s.heap.objs.size+1) k
   refine .inr ⟨.inl k,c,e,?_⟩;have q:=x.cell y c e;rw[zcD ndP hp hu (by show scope.names.lookup y≠_;rw[k];decide)]at q;exact q
 ·exact e0.hok.fresh (Nat.le_of_lt (x.above y c (PySem.mem_of_lookup h)))
 ·unfold start
  show _=N.length;rw[List.length_append,List.length_map,List.length_replicate];omega
theorem zjY {CX:uS}{P:Program}{w:World}{K:Frag}{mg:Str->Option Value}{base:Heap}{k:Nat}{f:Addr}{name qual:Str}{params:Arguments}{body:List Stmt}{scope:Scope}{dV kV doc pm cdv ct oc:Value}{an od:Option Addr}
  {osl:Array (Option Value)} {N ps:List Str} {sp:Sp} (lk:K.lookup f=some ⟨oc,od,.func (fnOf name qual params body scope dV kV doc pm an cdv ct),osl⟩) (hcd:codeIn K cdv qual=true) (S:yS N ps scope)
  (len: ∀vs H Q E,sp vs H Q E->vs.length=ps.length)
  (hbody: ∀(A:Around) (outer:List Env) (s:Shared) (H:Hp) (vs:List V) (Q:VK) (E:XK),zY k (A.deeper (envOfC qual scope s.heap.objs.size f cdv))->sp vs H Q E->
   ∃t,xJ (qW CX P w K mg base N qual scope f cdv A outer s H E) body t/\t {nx:=λ_ H'=>Q .non H',rt:=Q} (start N vs) H):
  zJ P w K mg base CX (k+1) f (fnOf name qual params body scope dV kV doc pm an cdv ct) ps sp:=by
 refine⟨len,λA outer s H args us vs Q E hr e0 hb r hsp=> ?_⟩;have hl:=len _ _ _ _ hsp;have KX:K.In s.heap:=e0.mod.kin.keeps λb o e=>(e0.bs b o e).1;have lim:s.heap.NoLimit:=e0.mod.nolimit.keeps λb o e=>(e0.bs b o e).1;have hkind: ∀y∈ps.zip us,scope.names.lookup y.1=some .local∨(scope.names.lookup y.1=some .cell/\((cellsFrom (s.heap.objs.size+1) scope.names []).lookup y.1).isSome=true):=λ⟨n,v⟩ hy=>by
  rcases S.par n (List.of_mem_zip hy).1 with q | q
  ·exact .inl q
  ·exact .inr ⟨q,PySem.W.cellsFrom_some _ _ _ (.inl q)⟩
 refine codeAny_call_function hr.depth (KX _ _ lk) rfl S.co S.gen rfl (PySem.W.codeRec_of KX hcd) (hb _ _ _ _ ?_);refine wpAny_newFunctionEnv_cells S.kind hkind λenv he s1 x=> ?_;subst he;refine⟨lim.keeps x.toInCall.keep,codeAny_func ?_⟩;obtain⟨t,ht,hq⟩:=hbody A outer s H vs Q E (hr.deeper _) hsp;have I:z5 (qW CX P w K mg base N qual scope f cdv A outer s H E) [] (start N vs) H s1:=zkt S hr.hd e0 hl r x;refine wpAny_mono (ht [] s1 (start N vs) H _ I hq) (λfl s' hs=> ?_) λe s' hs=>hs;have fin: ∀{σ':St} {H':Hp} {v:V} {u:Value},z5 (qW CX P w K mg base N qual scope f cdv A outer s H E) [] σ' H' s'->zS v u->Q v H'->CE outer P w H s Q u s':=
  λ{σ' H' v u} J rv q=>⟨v,H',J.os,J.bare,J.base,J.hok,rv,q⟩
 cases fl with
 | ret u=>
  obtain⟨v,σ',H',J,rv,q⟩:=hs;exact fin J rv q
 | next=>
  obtain⟨σ',H',J,q⟩:=hs;exact fin (v:=V.non) (u:=Value.none) J rfl q
 | brk=>
  obtain⟨_,_,_,q⟩:=hs;exact False.elim q
 | cont=>
  obtain⟨_,_,_,q⟩:=hs;exact False.elim q
end L2
namespace L2
open PySem PySem.Spec PyProof.Rows
section
variable {X:Cx} {x:Str} {p pos:Pos} {e:Expr} {es:List Expr} {t:TA} {id T:String} {r:List V->Hp->VK->Prop}
def tCB (r:List V->Hp->VK->Prop)(t:TA):TE:=λσ H Q=>t σ H λvs H1=>r vs H1 Q
theorem zm2 (hc:wF X (.builtin id) r)(hg:Gl X x)(hm:X.mg x=none)(hv:bootBuiltins x=some (.builtin id))(ha:PA X (e::es) t)(hn:x≠ "__name__" :=by decide)(hdb:(x==("__debug__" :Str))=false:=by decide)
  (he:starEach (e::es) X.env=(false,eval e X.env)::starEach es X.env:=by rfl) (hpl:(backTo pos (starEach es X.env)).any (·.1)=false:=by rfl):PE X (.Call (.Name x p) (e::es) [] pos) (tCB r t):=by
 (first | refine⟨?_⟩ | skip)
 intro pins s σ H Q I h;refine wpAny_Call_Name_kw (sJ I hg hm hv ?_ hn hdb);exact PyProof.Rows.callWith_builtin1 (y0 (ha pos pins s σ H _ I h) λus s1 ⟨vs,H1,I1,r1,q1⟩=>hc pins s1 σ H1 vs us Q I1 r1 q1) he hpl
theorem zm3 (hc:wF X (.type T) r)(hg:Gl X x)(hm:X.mg x=none)(hv:bootBuiltins x=some (.type T))(ha:PA X (e::es) t)(hn:x≠ "__name__" :=by decide)(hdb:(x==("__debug__" :Str))=false:=by decide)
  (he:starEach (e::es) X.env=(false,eval e X.env)::starEach es X.env:=by rfl) (hpl:(backTo pos (starEach es X.env)).any (·.1)=false:=by rfl):PE X (.Call (.Name x p) (e::es) [] pos) (tCB r t):=by
 (first | refine⟨?_⟩ | skip)
 intro pins s σ H Q I h;refine wpAny_Call_Name_kw (sJ I hg hm hv ?_ hn hdb);exact callWith_type1 (y0 (ha pos pins s σ H _ I h) λus s1 ⟨vs,H1,I1,r1,q1⟩=>hc pins s1 σ H1 vs us Q I1 r1 q1) he hpl
end
end L2
namespace HT
open PySem PyProof.Rows
section
open PySem.SeqAt
open PySem.AutoSeq1 (wpAny_loadPart')
open PySem.MeetsSeq PySem.MeetsSeq2 PySem.MeetsSeq3
end
section
variable {prog:Program} {w:World} {A:Around} {E:Value->Shared->Prop} {s:Shared}
theorem cat_tup {t b:Addr}{vs ws:List Value}{Q:Value->Shared->Prop}(ht:IsTup s.heap t vs.toArray)(hb:IsTup s.heap b ws.toArray)(hv:vs≠ [])
  (h1:ws= []->Q (.ref t) s) (h2:ws≠ []->Q (.ref s.heap.objs.size) {s with heap:=s.heap.push {cls:= .type "tuple",data:= .seq (vs++ws).toArray}})
  (hsz:vs.length+ws.length<=sizeLine):wpAny (model prog w) A (binaryOp .Add (.ref t) (.ref b)) Q E s:=by
 obtain⟨⟨cls,dd,data,sl⟩,ho,hc,n,hd⟩:=id ht;obtain⟨⟨cls2,dd2,data2,sl2⟩,ho2,hc2,n2,hd2⟩:=id hb;simp only at hc hd hc2 hd2;subst hc hd hc2 hd2;have e:vs.toArray++ws.toArray=(vs++ws).toArray:=by simp
 by_cases hw:ws= []
 ·exact concat_meets ⟨_,ho,rfl⟩ ⟨_,ho2,rfl⟩ noFill_tuple_add seq_tuple_add PySem.F.slot_tuple_add PySem.F.entry_tuple_add (PySem.F.args_tuple_add_2 _ _)
   (tuple_addW1 t b vs.toArray ws.toArray n n2 dd dd2 sl sl2 (by simpa using hv) (by simp[hw])) ⟨ho,ho2,h1 hw⟩
 ·refine concat_meets ⟨_,ho,rfl⟩ ⟨_,ho2,rfl⟩ noFill_tuple_add seq_tuple_add PySem.F.slot_tuple_add PySem.F.entry_tuple_add (PySem.F.args_tuple_add_2 _ _)
   (tuple_addW2 t b vs.toArray ws.toArray n n2 dd dd2 sl sl2 (by simpa using hv) (by simpa using hw) (by rw[List.size_toArray,List.size_toArray];exact hsz)) ⟨ho,ho2,?_⟩
  rw[e];exact h2 hw
def sIx (n d:Nat):Option Int->Nat
 | none=>d
 | some v=>if v < 0 then(v+(n:Int)).toNat else min v.toNat n
theorem sIx_none (n d:Nat):sIx n d none=d:=rfl
theorem sIx_nat (n d k:Nat):sIx n d (some (k:Int))=min k n:=by
 show(if(k:Int) < 0 then((k:Int)+(n:Int)).toNat else min (k:Int).toNat n)=min k n;rw[if_neg (by omega),Int.toNat_natCast]
theorem znW (n d:Nat)(hd:d<=n)(o:Option Int):sIx n d o<=n:=by
 cases o with
 | none=>exact hd
 | some v=>
  show(if v < 0 then(v+(n:Int)).toNat else min v.toNat n)<=n;by_cases hv:v < 0
  ·rw[if_pos hv];omega
  ·rw[if_neg hv];exact Nat.min_le_right _ _
theorem zcV (v:Int)(n d:Nat):(if v < 0 then max (v+(n:Int)) 0 else min v (n:Int))=((sIx n d (some v):Nat):Int):=by
 show(if v < 0 then max (v+(n:Int)) 0 else min v (n:Int))=(((if v < 0 then(v+(n:Int)).toNat else min v.toNat n):Nat):Int);by_cases hv:v < 0
 ·simp only[if_pos hv];omega
 ·simp only[if_neg hv];omega
theorem zia (lo hi:Option Int)(n:Nat):Builtin.Slice.sliceAdjust lo hi 1 (n:Int)=(((sIx n 0 lo:Nat):Int),((sIx n n hi:Nat):Int)):=by
 have h1: ¬ ((1:Int) < 0):=by omega
 unfold Builtin.Slice.sliceAdjust;simp only[h1,if_false];refine Prod.ext ?_ ?_
 ·cases lo with
  | none=>rfl
  | some v=>exact zcV v n 0
 ·cases hi with
  | none=>rfl
  | some v=>exact zcV v n n
theorem zmS (i j:Nat):Builtin.Slice.slicePlaces (i:Int) (j:Int) 1=j - i:=by
 unfold Builtin.Slice.slicePlaces;have h1:(1:Int) > 0:=by omega
 simp only[h1,if_true,Int.ediv_one]
 split <;> omega
theorem zge {v:Value}{o:Option Int}{Q:Option Int->Shared->Prop}(p:IsPart v o)(h:Q o s):wpAny (model prog w) A (Builtin.Slice.slicePartIndex v) Q E s:=by
 cases p with
 | none=>exact slicePart_none h
 | int i t=>exact slicePart_int h
theorem sliceApplied_gen {sl:Addr}{vl vu:Value}{lo hi:Option Int}{n:Nat}{Q:Int×Int×Nat->Shared->Prop}(hs:s.heap.IsSliceOf sl vl vu .none)(pl:IsPart vl lo)(pu:IsPart vu hi)
  (h:Q (((sIx n 0 lo:Nat):Int),1,sIx n n hi - sIx n 0 lo) s):wpAny (model prog w) A (Builtin.Slice.sliceApplied (.ref sl) (pure (n:Int))) Q E s:=by
 obtain⟨os,hos,hcs,hds⟩:=id hs;unfold Builtin.Slice.sliceApplied Builtin.Slice.sliceFields;refine wpAny_bind (wpAny_bind (wpAny_field hos hds (x:=vl) rfl (wpAny_bind (wpAny_field hos hds (x:=vu) rfl (wpAny_bind (wpAny_field hos hds (x:= .none) rfl (wpAny_pure ?_)))))));refine wpAny_bind (slicePart_none ?_);show wpAny _ _ (if((1:Int)==0)=true then _ else _) _ _ s;rw[if_neg (by decide)];refine wpAny_bind (zge pl (wpAny_bind (zge pu (wpAny_bind (wpAny_pure ?_)))));show wpAny _ _ (match Builtin.Slice.sliceAdjust lo hi 1 (n:Int)with | (lo,hi)=>pure (lo,(1:Int),Builtin.Slice.slicePlaces lo hi 1)) _ _ s;rw[zia lo hi n];show wpAny _ _ (pure (((sIx n 0 lo:Nat):Int),(1:Int),Builtin.Slice.slicePlaces ((sIx n 0 lo:Nat):Int) ((sIx n n hi:Nat):Int) 1)) _ _ s;rw[zmS];exact wpAny_pure h
theorem zmQ (xs:Array Value)(i k:Nat):((List.range k).filterMap λ(m:Nat)=>xs[((i:Int)+(m:Int) * 1).toNat]?).toArray=((xs.toList.drop i).take k).toArray:=by
 have e:(λ(m:Nat)=>xs[((i:Int)+(m:Int) * 1).toNat]?)=λm=>xs[i+m]?:=by
  funext m
  have:((i:Int)+(m:Int) * 1).toNat=i+m:=by omega
  rw[this]
 rw[e];have:=pick_run xs i k;rw[List.filterMap_map]at this;have e2:((λx=>xs[x]?) ∘ λx=>i+x)=λm=>xs[i+m]?:=rfl;rw[e2]at this;rw[this]
theorem getItem_tuple_cut {t sl:Addr}{items:Array Value}{vl vu:Value}{lo hi:Option Int}{Q:Value->Shared->Prop}(ht:IsTup s.heap t items)(hs:s.heap.IsSliceOf sl vl vu .none)(pl:IsPart vl lo)(pu:IsPart vu hi)
  (hw: ¬ (sIx items.size 0 lo=0/\sIx items.size items.size hi=items.size))
  (h:Q (.ref s.heap.objs.size) {s with heap:=s.heap.push {cls:= .type "tuple",data:= .seq ((items.toList.drop (sIx items.size 0 lo)).take (sIx items.size items.size hi - sIx items.size 0 lo)).toArray}})
  (hsz:items.size<=sizeLine):wpAny (model prog w) A (getItem (.ref t) (.ref sl)) Q E s:=by
 have htake:sizeOk (.seq ((items.toList.drop (sIx items.size 0 lo)).take (sIx items.size items.size hi - sIx items.size 0 lo)).toArray):=by
  show((items.toList.drop (sIx items.size 0 lo)).take (sIx items.size items.size hi - sIx items.size 0 lo)).toArray.size<=sizeLine;rw[List.size_toArray,List.length_take,List.length_drop,Array.length_toList];omega
 have hj:sIx items.size items.size hi<=items.size:=znW _ _ (Nat.le_refl _) hi;obtain⟨os,hos,hcs,hds⟩:=id hs;have hTs:s.TypeIs (.ref sl) "slice" :=⟨os,hos,hcs⟩;unfold getItem
 try with_reducible refine wpAny_holding ?_
 first | refine wpAny_bind (wpAny_pure ?_) | skip
 refine wpAny_bind (wpAny_sequenceKey ht.typeIs (by decide) ?_);refine wpAny_bind (wpAny_callSpecial?_slot (name:=Str.ofString "__getitem__") ht.typeIs PyProof.Rows.slot_tuple_getitem
  (wpAny_call_entry PyProof.Rows.slot_tuple_getitem ht.typeIs entry_tuple_getitem ?_ (args_tuple_getitem _ _)))
 show wpAny _ _ (Builtin.Tuple.tupleItemsOf (.ref t) >>= _) _ _ s;refine wpAny_bind (tupleItemsOf_ ht ?_);refine wpAny_bind (wpAny_typeOf hTs ?_);rw[if_pos (by decide)];refine wpAny_bind (sliceApplied_gen hs pl pu ?_);have hno: ¬ ((((sIx items.size 0 lo:Nat):Int)==0&&(1:Int)==1&&(sIx items.size items.size hi - sIx items.size 0 lo)==items.size)=true):=by
  intro q;rw[Bool.and_eq_true,Bool.and_eq_true]at q;have q1:((sIx items.size 0 lo:Nat):Int)=0:=eq_of_beq q.1.1;have q2:sIx items.size items.size hi - sIx items.size 0 lo=items.size:=eq_of_beq q.2;exact hw ⟨by omega,by omega⟩
 show wpAny _ _ (if(((sIx items.size 0 lo:Nat):Int)==0&&(1:Int)==1&&(sIx items.size items.size hi - sIx items.size 0 lo)==items.size)=true then _ else _) _ _ s;rw[if_neg hno,zmQ]
 first
  | exact wpAny_bind (m:=Builtin.Tuple.tupleExact _) (wpAny_newObj_type (wpAny_pure ⟨_,rfl,wpAny_pure h⟩) htake)
  | exact wpAny_bind (m:=Builtin.Tuple.tupleExact _) (wpAny_newObj_type (wpAny_bind (wpAny_pure (wpAny_pure ⟨_,rfl,wpAny_pure h⟩))) htake)
  | exact wpAny_bind (wpAny_bind (m:=Builtin.Tuple.tupleExact _) (wpAny_newObj_type (wpAny_pure (wpAny_pure ⟨_,rfl,wpAny_pure h⟩)) htake))
  | exact wpAny_bind (wpAny_bind (m:=Builtin.Tuple.tupleExact _) (wpAny_newObj_type (wpAny_pure ⟨_,rfl,wpAny_pure h⟩) htake))
end
end HT
namespace L2
open PySem PySem.Spec PyProof.Rows
abbrev TO:=St->Hp->(Option Int->Hp->Prop)->Prop
structure PO (X:Cx)(e:Option Expr)(t:TO):Prop where
 run:
  ∀(pins:List (Addr×Obj)) (s:Shared) (σ:St) (H:Hp) (Q:Option Int->Hp->Prop),z5 X pins σ H s->t σ H Q->
   wpAny (model X.prog X.w) X.A (evalPart e X.env) (λu s'=> ∃o H',z5 X pins σ H' s'/\IsPart u o/\Q o H') X.xe s
instance {X:Cx} {e:Option Expr} {t:TO} :CoeFun (PO X e t) λ_=>
 ∀(pins:List (Addr×Obj)) (s:Shared) (σ:St) (H:Hp) (Q:Option Int->Hp->Prop),z5 X pins σ H s->t σ H Q->
  wpAny (model X.prog X.w) X.A (evalPart e X.env) (λu s'=> ∃o H',z5 X pins σ H' s'/\IsPart u o/\Q o H') X.xe s
  :=⟨PO.run⟩
def zo5:TO:=λ_ H Q=>Q none H
def zo9 (t:TE):TO:=λσ H Q=>t σ H λx H1=> ∃i,x= .int i/\Q (some i) H1
section
variable {X:Cx} {e:Expr} {te:TE} {lo hi:Option Expr} {tl th:TO} {pos p2:Pos}
theorem zmT:PO X none zo5:=by
 (first | refine⟨?_⟩ | skip)
 intro pins s σ H Q I h;rw[evalPart_none];exact wpAny_pure ⟨none,H,I,.none,h⟩
theorem zmU (h:PE X e te):PO X (some e) (zo9 te):=by
 (first | refine⟨?_⟩ | skip)
 intro pins s σ H Q I hw;rw[evalPart_some];refine y0 (h pins s σ H _ I hw) λu s1 ⟨x,H1,I1,r1,q1⟩=> ?_;obtain⟨i,rfl,q⟩:=q1;obtain⟨t,rfl⟩:=r1;exact⟨some i,H1,I1,.int i t,q⟩
def mB (X:Cx)(r:V->Option Int->Option Int->Hp->VK->Prop):Prop:=
 ∀(pins:List (Addr×Obj)) (s:Shared) (σ:St) (H:Hp) (x:V) (v vl vu:Value) (lo hi:Option Int) (sl:Addr) (Q:VK),z5 X pins σ H s->zS x v->s.heap.IsSliceOf sl vl vu .none->IsPart vl lo->IsPart vu hi->r x lo hi H Q->
  ∃T id,typeLookup (.type T) "__getitem__" =pure (some (.builtin id))/\s.TypeIs v T/\wpAny (model X.prog X.w) X.A (getItem v (.ref sl)) (EP X pins σ Q) X.xe s
def tSl (r:V->Option Int->Option Int->Hp->VK->Prop)(te:TE)(tl th:TO):TE:=λσ H Q=>te σ H λx H1=>tl σ H1 λl H2=>th σ H2 λu H3=>r x l u H3 Q
theorem zmD {r:V->Option Int->Option Int->Hp->VK->Prop}(hr:mB X r)(he:PE X e te)(hl:PO X lo tl)(hu:PO X hi th):PE X (.Subscript e (.Slice lo hi none p2) pos) (tSl r te tl th):=by
 (first | refine⟨?_⟩ | skip)
 intro pins s σ H Q I h;refine Subscript_ (y0 (he pins s σ H _ I h) λv s1 ⟨x,H1,I1,r1,q1⟩=> ?_);refine wpAny_Slice (y0 (hl pins s1 σ H1 _ I1 q1) λvl s2 ⟨l,H2,I2,pl,q2⟩=>y0 (hu pins s2 σ H2 _ I2 q2) λvu s3 ⟨u,H3,I3,pu,q3⟩=> ?_);rw[evalPart_none];refine wpAny_pure ?_;have I4:z5 X pins σ H3 {s3 with heap:=s3.heap.push {cls:= .type "slice",data:= .fields #[vl,vu,.none]}} :=I3.kept (t':=s3.toks) λb ob q=>Heap.get?_push_of_some _ q;obtain⟨T,id,hT,ht,hg⟩:=hr pins {s3 with heap:=s3.heap.push {cls:= .type "slice",data:= .fields #[vl,vu,.none]}} σ H3 x v vl vu l u s3.heap.objs.size Q I4 r1 (Heap.IsSliceOf.new ..) pl pu q3;show wpAny (model X.prog X.w) X.A (subscriptTail e (.Slice lo hi none p2) v (.ref s3.heap.objs.size)) (EP X pins σ Q) X.xe {s3 with heap:=s3.heap.push {cls:= .type "slice",data:= .fields #[vl,vu,.none]}};exact tail_any (ops:= [.ref s3.heap.objs.size,v]) ht hT hg (by with_unfolding_all rfl)
def rR (xs:List V)(lo hi:Option Int):List V:=(xs.drop (HT.sIx xs.length 0 lo)).take (HT.sIx xs.length xs.length hi - HT.sIx xs.length 0 lo)
theorem kY (xs:List V)(lo hi:Option Int):(rR xs lo hi).length<=xs.length:=by
 unfold rR;rw[List.length_take,List.length_drop];omega
def znN (K:Frag):V->Option Int->Option Int->Hp->VK->Prop:=λx lo hi H Q=> ∃a xs,x= .ref a/\xM K H a xs/\
 ¬ (HT.sIx xs.length 0 lo=0/\HT.sIx xs.length xs.length hi=xs.length)/\∀p,H p=none->Q (.ref p) (zQ H p (.tup (rR xs lo hi)))
theorem zon:mB X (znN X.K):=by
 (first | refine⟨?_⟩ | skip)
 intro pins s σ H x v vl vu lo hi sl Q I rx hs pl pu h;obtain⟨a,xs,rfl,hx,hw,q⟩:=h;cases rx;obtain⟨its,r,ht,hz⟩:=I.tuple hx;have hlen:its.toArray.size=xs.length:=by rw[List.size_toArray];exact r.length.symm
 refine⟨"tuple",_,PyProof.Rows.slot_tuple_getitem.lookup,ht.typeIs,?_⟩;refine HT.getItem_tuple_cut ht hs pl pu (by rw[hlen];exact hw) ?_ (by rw[hlen];exact hz);rw[hlen];refine⟨.ref s.heap.objs.size,_,I.laid (t':=s.toks) (o:= .tup (rR xs lo hi)) (λb ob q=>Heap.get?_push_of_some _ q) (Nat.le_refl _) ?_,rfl,q _ (I.hok.fresh (Nat.le_refl _))⟩;exact⟨Nat.le_trans (kY xs lo hi) hz,_,(r.drop (HT.sIx xs.length 0 lo)).take (HT.sIx xs.length xs.length hi - HT.sIx xs.length 0 lo),tH.new _ _⟩
def znA (K:Frag):R2:=λx y H Q=> ∃a b xs ys,x= .ref a/\y= .ref b/\xM K H a xs/\xM K H b ys/\xs≠ []/\xs.length+ys.length<=sizeLine/\
 (ys= []->Q (.ref a) H)/\(ys≠ []->∀p,H p=none->Q (.ref p) (zQ H p (.tup (xs++ys))))
theorem zM.nil_iff {xs:List V}{us:List Value}(r:zM xs us):us= []↔xs= []:=by
 cases r with
 | nil=>simp
 | cons _ _=>simp
theorem zmc:yG X (binaryOp .Add) (znA X.K):=by
 (first | refine⟨?_⟩ | skip)
 intro pins s σ H x y v u Q I rx ry h;obtain⟨a,b,xs,ys,rfl,rfl,ha,hb,hx,hz,q1,q2⟩:=h;cases rx;cases ry;obtain⟨its,r1,p1,_⟩:=I.tuple ha;obtain⟨its2,r2,p2,_⟩:=I.tuple hb;refine HT.cat_tup p1 p2 (λz=>hx (r1.nil_iff.mp z)) (λz=>⟨.ref a,H,I,rfl,q1 (r2.nil_iff.mp z)⟩) (λz=> ?_) (by rw[<- r1.length,<- r2.length];exact hz);refine⟨.ref s.heap.objs.size,_,I.laid (t':=s.toks) (o:= .tup (xs++ys)) (λb ob q=>Heap.get?_push_of_some _ q) (Nat.le_refl _) ?_,rfl,q2 (λw=>z (r2.nil_iff.mpr w)) _ (I.hok.fresh (Nat.le_refl _))⟩;exact⟨by rw[List.length_append];exact hz,_,r1.append r2,tH.new _ _⟩
end
end L2
namespace L2
open PySem PySem.Spec PyProof.Rows
def wJ (n:Nat)(i:Int):Option Nat:=if 0<=i then(if i < n then some i.toNat else none)else if -(n:Int)<=i then some (i+n).toNat else none
def atI {α:Type}(xs:List α)(i:Int):Option α:=(wJ xs.length i).bind λj=>xs[j]?
theorem zeE {n:Nat}{i:Int}{j:Nat}(h:wJ n i=some j):seqIndex? i n=some j/\j < n/\ -(n:Int)<=i/\i < n:=by
 unfold wJ at h;by_cases h0:0<=i
 ·rw[if_pos h0]at h
  by_cases h1:i < n
  ·rw[if_pos h1]at h
   have e:i.toNat=j:=Option.some.inj h;exact⟨by rw[seqIndex_of h0 h1,e],by omega,by omega,h1⟩
  ·rw[if_neg h1]at h;cases h
 ·rw[if_neg h0]at h
  by_cases h1: -(n:Int)<=i
  ·rw[if_pos h1]at h
   have e:(i+n).toNat=j:=Option.some.inj h;exact⟨by rw[seqIndex_neg (by omega) h1,e],by omega,h1,by omega⟩
  ·rw[if_neg h1]at h;cases h
theorem gI {α:Type}{xs:List α}{i:Int}{v:α}(h:atI xs i=some v): ∃j,seqIndex? i xs.length=some j/\xs[j]?=some v/\j < xs.length/\ -(xs.length:Int)<=i/\i < xs.length:=by
 unfold atI at h;cases e:wJ xs.length i with
 | none=>rw[e]at h;cases h
 | some j=>
  rw[e]at h;obtain⟨h1,h2,h3,h4⟩:=zeE e;exact⟨j,h1,h,h2,h3,h4⟩
theorem vT {α:Type}{xs:List α}{j:Nat}{v:α}(h:xs[j]?=some v):atI xs (j:Int)=some v:=by
 have hj:j < xs.length:=(List.getElem?_eq_some_iff.mp h).1;have e:wJ xs.length (j:Int)=some j:=by
  unfold wJ;rw[if_pos (by omega),if_pos (by omega)];simp
 unfold atI;rw[e];exact h
def zc4 (b:Expr):Prop:= ∀o i,subscripted b false o i=operate [o,i] (getItem o i)
def rP (X:Cx)(r:R2):Prop:=
 ∀(value slice:Expr) (pins:List (Addr×Obj)) (s:Shared) (σ:St) (H:Hp) (x y:V) (v u:Value) (Q:VK),z5 X pins σ H s->zS x v->zS y u->r x y H Q->
  subscripted slice false v u=operate [v,u] (getItem v u)->wpAny (model X.prog X.w) X.A (subscriptTail value slice v u) (EP X pins σ Q) X.xe s
def tI (X:Cx)(id:String)(r:V->List V->Hp->VK->Prop):Prop:=
 ∀(pins:List (Addr×Obj)) (s:Shared) (σ:St) (H:Hp) (x:V) (xs:List V) (v:Value) (us:List Value) (Q:VK),z5 X pins σ H s->zS x v->zM xs us->r x xs H Q->
  wpAny (model X.prog X.w) X.A (call (.builtin id) (v::us)) (EP X pins σ Q) X.xe s
section
variable {X:Cx} {a b:Expr} {ta tb:TE} {pos:Pos}
theorem zm6 {r:R2}(hr:rP X r)(ha:PE X a ta)(hb:PE X b tb)(hs:zc4 b):PE X (.Subscript a b pos) (lS r ta tb):=by
 (first | refine⟨?_⟩ | skip)
 intro pins s σ H Q I h;exact Subscript_ (gQ ha hb I h λv u s2 x y H2 I2 rx ry q=>hr a b pins s2 σ H2 x y v u Q I2 rx ry q (hs _ _))
def znB (K:Frag):R2:=λx y H Q=> ∃p xs i v,x= .ref p/\y= .int i/\yX K H p xs/\atI xs i=some v/\Q v H
def znD (K:Frag):R2:=λx y H Q=> ∃p xs i v,x= .ref p/\y= .int i/\xM K H p xs/\atI xs i=some v/\Q v H
def znC:R2:=λx y H Q=> ∃z i c,x= .str z/\y= .int i/\z.length<=sizeLine/\atI z.cps.toList i=some c/\Q (.str ⟨#[c]⟩) H
theorem zeF:rP X (znB X.K):=by
 intro value slice pins s σ H x y v u Q I rx ry h hs;obtain⟨p,xs,i,z,rfl,rfl,hq,he,q⟩:=h;cases rx;obtain⟨t,rfl⟩:=ry;obtain⟨its,r,pl,hz⟩:=I.list hq;obtain⟨j,h1,h2,h3,h4,h5⟩:=gI he;obtain⟨w,ew,rw'⟩:=r.get h2;have hl:=r.length;have hn:=oS;have fin:EP X pins σ Q w s:=⟨z,H,I,rw',q⟩;by_cases h0:0<=i
 ·have hj:i.toNat=j:=by
   rw[seqIndex_of h0 h5]at h1;exact Option.some.inj h1
  exact item_listR pl.isList h0 (by omega) (by rw[hj];simpa using ew) fin hs
 ·have hj:(i+(its.toArray.size:Int)).toNat=j:=by
   rw[seqIndex_neg (by omega) h4]at h1;rw[List.size_toArray,<- hl];exact Option.some.inj h1
  exact subscriptTail_builtinR (x:=w) pl.isList.typeIs slot_list_getitem.lookup
   (wpAny_getItem_list_neg (Q:=λr s'=>r=w/\EP X pins σ Q r s') pl.isList (by omega) (by rw[List.size_toArray] <;> omega) (by omega) (by rw[hj];simpa using ew) ⟨rfl,fin⟩) hs
theorem zk5:rP X (znD X.K):=by
 intro value slice pins s σ H x y v u Q I rx ry h hs;obtain⟨p,xs,i,z,rfl,rfl,hq,he,q⟩:=h;cases rx;obtain⟨t,rfl⟩:=ry;obtain⟨its,r,pl,hz⟩:=I.tuple hq;obtain⟨j,h1,h2,h3,h4,h5⟩:=gI he;obtain⟨w,ew,rw'⟩:=r.get h2;have hl:=r.length;have hn:=oS;have fin:EP X pins σ Q w s:=⟨z,H,I,rw',q⟩;exact subscriptTail_builtinR (x:=w) pl.typeIs slot_tuple_getitem.lookup
  (getItem_tuple (j:=j) (Q:=λr s'=>r=w/\EP X pins σ Q r s') pl (by omega) (by omega) (by rw[List.size_toArray,<- hl];exact h1) (by simpa using ew) ⟨rfl,fin⟩) hs
theorem zk4:rP X znC:=by
 intro value slice pins s σ H x y v u Q I rx ry h hs;obtain⟨z,i,c,rfl,rfl,hz,he,q⟩:=h;obtain⟨t,rfl⟩:=rx;obtain⟨t',rfl⟩:=ry;obtain⟨j,h1,h2,h3,h4,h5⟩:=gI he;have hl:z.cps.toList.length=z.length:=by simp[Str.length]
 rw[hl]at h1 h4 h5;have hn:=oS;exact tail_any (typeIs_str s z t) slot_str_getitem.lookup (getItem_str (c:=c) (by
  have e1:decide (i < -(2 ^ 63:Int))=false:=decide_eq_false (by omega);have e2:decide (i≥2 ^ 63)=false:=decide_eq_false (by omega);rw[e1,e2,Bool.or_false]) (by rw[h1];simpa using h2) ⟨.str ⟨#[c]⟩,H,I.tok _,⟨_,rfl⟩,q⟩) hs
theorem zkX (its:List Value)(n j:Nat)(u:Value):Obj.mapSeq (·.setIfInBounds j u) {cls:= .type "list",data:= .seq its.toArray n} = {cls:= .type "list",data:= .seq (its.set j u).toArray n} :=by
 simp[Obj.mapSeq]
theorem z5.lst {pins:List (Addr×Obj)}{σ:St}{H:Hp}{s:Shared}{p:Addr}{xs:List V}(I:z5 X pins σ H s)(h:H p=some (.lst xs)):
  ∃(its:List Value) (n:Nat),zM xs its/\s.heap.get? p=some {cls:= .type "list",data:= .seq its.toArray n} /\xs.length<=sizeLine:=by
 obtain⟨z,its,n,r,e⟩:=I.hok p _ h;exact⟨its,n,r,e,z⟩
theorem z5.lstUpd {pins:List (Addr×Obj)}{σ:St}{H:Hp}{s:Shared}{p:Addr}{xs ys:List V}{its its':List Value}{n n':Nat}{f:Obj->Obj}(I:z5 X pins σ H s)(h:H p=some (.lst xs))
  (ho:s.heap.get? p=some {cls:= .type "list",data:= .seq its.toArray n}) (hf:f {cls:= .type "list",data:= .seq its.toArray n} = {cls:= .type "list",data:= .seq its'.toArray n'}) (r:zM ys its') (hz:ys.length<=sizeLine) (t:Nat):
  z5 X pins σ (zQ H p (.lst ys)) {s with heap:=s.heap.update p f,toks:=t} :=by
 have e:(s.heap.update p f).get? p=some {cls:= .type "list",data:= .seq its'.toArray n'} :=by
  rw[Heap.get?_update_self f ho (by rw[hf] <;> rfl),hf]
 refine I.write (x:=p) (e:=p) (by rw[h];trivial) (.inl rfl) (λb u hb q=>(Heap.get?_update_other _ _ (Ne.symm hb)).trans q) ⟨_,e⟩ ?_;exact⟨hz,its',n',r,e⟩
def znK:V->V->V->Hp->(Hp->Prop)->Prop:=λo i v H Q=> ∃p xs k j,o= .ref p/\i= .int k/\H p=some (.lst xs)/\wJ xs.length k=some j/\Q (zQ H p (.lst (xs.set j v)))
theorem zoh:kL X znK:=by
 (first | refine⟨?_⟩ | skip)
 intro pins s σ H o i v ov iv u Q I ro ri rv h;obtain⟨p,xs,k,j,rfl,rfl,hp,hj,q⟩:=h;cases ro;obtain⟨t,rfl⟩:=ri;obtain⟨its,n,r,ho,hz⟩:=I.lst hp;obtain⟨h1,h2,h3,h4⟩:=zeE hj;have hl:=r.length;have hn:=oS;have I':z5 X pins σ (zQ H p (.lst (xs.set j v))) {s with heap:=s.heap.update p (Obj.mapSeq (·.setIfInBounds j u))} :=
  I.lstUpd hp ho (zkX its n j u) (r.set rv j) (by rw[List.length_set];exact hz) s.toks
 by_cases h0:0<=k
 ·have hk:k.toNat=j:=by
   rw[seqIndex_of h0 h4]at h1;exact Option.some.inj h1
  exact PySem.W.ki_setAt ho h0 (by omega) (by rw[List.size_toArray,<- hl];exact h4) (by rw[hk];exact⟨_,I',q⟩)
 ·have hk:(k+(its.toArray.size:Int)).toNat=j:=by
   rw[seqIndex_neg (by omega) h3]at h1;rw[List.size_toArray,<- hl];exact Option.some.inj h1
  exact PySem.W.ki_setBack ho (by omega) (by rw[List.size_toArray,<- hl];exact h3) (by omega) (by rw[hk];exact⟨_,I',q⟩)
theorem zop (lo hi:Option Int)(n:Nat):(sliceBounds lo hi none n).1=((HT.sIx n 0 lo:Nat):Int)/\(sliceBounds lo hi none n).2.1=((HT.sIx n n hi:Nat):Int)/\(sliceBounds lo hi none n).2.2=1:=by
 refine⟨?_,?_,rfl⟩
 ·cases lo with
  | none=>simp[sliceBounds,HT.sIx]
  | some i=>
   simp only[sliceBounds,HT.sIx,Option.getD_none,show(1:Int) > 0 by decide,if_true];by_cases h:i < 0
   ·simp only[h,if_true] <;> omega
   ·simp only[h,if_false] <;> omega
 ·cases hi with
  | none=>simp[sliceBounds,HT.sIx]
  | some i=>
   simp only[sliceBounds,HT.sIx,Option.getD_none,show(1:Int) > 0 by decide,if_true];by_cases h:i < 0
   ·simp only[h,if_true] <;> omega
   ·simp only[h,if_false] <;> omega
theorem zoo (its:List Value)(lo hi:Option Int):slicePick its.toArray lo hi none=((its.drop (HT.sIx its.length 0 lo)).take (HT.sIx its.length its.length hi - HT.sIx its.length 0 lo)).toArray:=by
 obtain⟨h1,h2,h3⟩:=zop lo hi its.toArray.size;unfold slicePick;rw[h1,h2,h3];simp only[sliceRange_one,pick_run,List.size_toArray] <;> rfl
def znL (K:Frag):V->Option Int->Option Int->Hp->VK->Prop:=λx lo hi H Q=> ∃a xs,x= .ref a/\yX K H a xs/\∀p,H p=none->Q (.ref p) (zQ H p (.lst (rR xs lo hi)))
theorem zol:mB X (znL X.K):=by
 (first | refine⟨?_⟩ | skip)
 intro pins s σ H x v vl vu lo hi sl Q I rx hs pl pu h;obtain⟨a,xs,rfl,hx,q⟩:=h;cases rx;obtain⟨its,r,ht,hz⟩:=I.list hx;have hlen:=r.length;refine⟨"list",_,slot_list_getitem.lookup,ht.isList.typeIs,?_⟩;refine wpAny_getItem_list_slice ht.isList hs pl pu .none (by simp) ?_ (by rw[List.size_toArray] <;> omega);rw[zoo,<- hlen];refine⟨.ref s.heap.objs.size,_,I.laid (t':=s.toks) (o:= .lst (rR xs lo hi)) (λb ob q=>Heap.get?_push_of_some _ q) (Nat.le_refl _) ?_,rfl,q _ (I.hok.fresh (Nat.le_refl _))⟩;exact⟨Nat.le_trans (kY xs lo hi) hz,_,0,(r.drop (HT.sIx xs.length 0 lo)).take (HT.sIx xs.length xs.length hi - HT.sIx xs.length 0 lo),Heap.get?_push_size _ rfl⟩
def sF:V->Bool
 | .non=>true
 | .bl _=>true
 | .int _=>true
 | .str _=>true
 | _=>false
def sE:V->V->Bool
 | .non,.non=>true
 | .bl a,.bl b=>a==b
 | .bl a,.int b=>(if a then 1 else 0)==b
 | .int a,.bl b=>a==(if b then 1 else 0)
 | .int a,.int b=>a==b
 | .str a,.str b=>a==b
 | _,_=>false
theorem zjg {A:Around}{s:Shared}{y x:V}{u v:Value}(ry:zS y u)(rx:zS x v)(fy:sF y=true)(fx:sF x=true):SeqAt.EqAt A s u v (sE y x):=by
 cases y with
 | non=>
  cases ry;cases x with
  | non=>cases rx;exact SeqAt.EqAt.same _
  | bl b=>cases rx;exact SeqAt.EqAt.none_bool b
  | int b=>obtain⟨t,rfl⟩:=rx;exact SeqAt.EqAt.none_int b t
  | str b=>obtain⟨t,rfl⟩:=rx;exact SeqAt.EqAt.none_str b t
  | _=>exact absurd (show false=true from fx) Bool.false_ne_true
 | bl a=>
  cases ry;cases x with
  | non=>cases rx;exact SeqAt.EqAt.bool_none a
  | bl b=>cases rx;exact SeqAt.EqAt.bool_bool a b
  | int b=>obtain⟨t,rfl⟩:=rx;exact SeqAt.EqAt.bool_int a b t
  | str b=>obtain⟨t,rfl⟩:=rx;exact SeqAt.EqAt.bool_str a b t
  | _=>exact absurd (show false=true from fx) Bool.false_ne_true
 | int a=>
  obtain⟨t',rfl⟩:=ry;cases x with
  | non=>cases rx;exact SeqAt.EqAt.int_none a t'
  | bl b=>cases rx;exact SeqAt.EqAt.int_bool a t' b
  | int b=>obtain⟨t,rfl⟩:=rx;exact SeqAt.EqAt.int_int a t' b t
  | str b=>obtain⟨t,rfl⟩:=rx;exact SeqAt.EqAt.int_str a t' b t
  | _=>exact absurd (show false=true from fx) Bool.false_ne_true
 | str a=>
  obtain⟨t',rfl⟩:=ry;cases x with
  | non=>cases rx;exact SeqAt.EqAt.str_none a t'
  | bl b=>cases rx;exact SeqAt.EqAt.str_bool a t' b
  | int b=>obtain⟨t,rfl⟩:=rx;exact SeqAt.EqAt.str_int a t' b t
  | str b=>obtain⟨t,rfl⟩:=rx;exact SeqAt.EqAt.str_str a t' b t
  | _=>exact absurd (show false=true from fx) Bool.false_ne_true
 | _=>exact absurd (show false=true from fy) Bool.false_ne_true
def vV (x:V)(u:Value):Bool:=match u with
 | .none=>sE .non x
 | .bool b=>sE (.bl b) x
 | .int i _=>sE (.int i) x
 | .str z _=>sE (.str z) x
 | _=>false
theorem zdn {x y:V}{u:Value}(r:zS y u)(f:sF y=true):vV x u=sE y x:=by
 cases y with
 | non=>cases r;rfl
 | bl b=>cases r;rfl
 | int i=>obtain⟨t,rfl⟩:=r;rfl
 | str z=>obtain⟨t,rfl⟩:=r;rfl
 | _=>exact absurd (show false=true from f) Bool.false_ne_true
theorem mE {x:V} : ∀{xs:List V} {us:List Value},zM xs us->xs.all sF=true->us.any (vV x)=xs.any λy=>sE y x
 | _,_,.nil,_=>rfl
 | y::xs,u::us,.cons r t,f=>by
  rw[List.all_cons,Bool.and_eq_true]at f;rw[List.any_cons,List.any_cons,zdn r f.1,mE t f.2]
theorem mS {A:Around}{s:Shared}{x:V}{v:Value}(rx:zS x v)(fx:sF x=true): ∀{xs:List V} {us:List Value},zM xs us->xs.all sF=true->∀u∈us,SeqAt.EqAt A s u v (vV x u)
 | _,_,.nil,_=>λu hu=>by cases hu
 | y::xs,u::us,.cons r t,f=>λu' hu=>by
  rw[List.all_cons,Bool.and_eq_true]at f;rcases List.mem_cons.mp hu with rfl | hu
  ·rw[zdn r f.1];exact zjg r rx f.1 fx
  ·exact mS rx fx t f.2 u' hu
def rX (x:V)(xs:List V):Bool:=xs.any λy=>sE y x
def rIn (K:Frag)(neg:Bool):R2:=λx y H Q=> ∃p xs,y= .ref p/\(yX K H p xs∨xM K H p xs)/\sF x=true/\xs.all sF=true/\Q (.bl (if neg then !rX x xs else rX x xs)) H
theorem zmg:yG X (compareOp .In) (rIn X.K false):=by
 (first | refine⟨?_⟩ | skip)
 intro pins s σ H x y v u Q I rx ry h;obtain⟨p,xs,rfl,hq,fx,fs,q⟩:=h;cases ry;rcases hq with hq | hq
 ·obtain⟨its,r,pl,hz⟩:=I.list hq
  refine SeqAt.in_listAt (vV x) pl.isList (λw hw=>mS rx fx r fs w (by simpa using hw)) ⟨.bl _,H,I,rfl,?_⟩;rw[show its.toArray.any (vV x)=its.any (vV x) by simp,mE r fs];exact q
 ·obtain⟨its,r,pl,hz⟩:=I.tuple hq
  refine SeqAt.in_tupleAt (vV x) pl (λw hw=>mS rx fx r fs w (by simpa using hw)) ⟨.bl _,H,I,rfl,?_⟩;rw[show its.toArray.any (vV x)=its.any (vV x) by simp,mE r fs];exact q
theorem zmm:yG X (compareOp .NotIn) (rIn X.K true):=by
 (first | refine⟨?_⟩ | skip)
 intro pins s σ H x y v u Q I rx ry h;obtain⟨p,xs,rfl,hq,fx,fs,q⟩:=h;cases ry;rcases hq with hq | hq
 ·obtain⟨its,r,pl,hz⟩:=I.list hq
  refine SeqAt.notIn_listAt (vV x) pl.isList (λw hw=>mS rx fx r fs w (by simpa using hw)) ⟨.bl _,H,I,rfl,?_⟩;rw[show its.toArray.any (vV x)=its.any (vV x) by simp,mE r fs];exact q
 ·obtain⟨its,r,pl,hz⟩:=I.tuple hq
  refine SeqAt.notIn_tupleAt (vV x) pl (λw hw=>mS rx fx r fs w (by simpa using hw)) ⟨.bl _,H,I,rfl,?_⟩;rw[show its.toArray.any (vV x)=its.any (vV x) by simp,mE r fs];exact q
theorem zmn:yG X (compareOp .NotIn) (λx y H Q=> ∃i j,x= .str i/\y= .str j/\Q (.bl (!(!(Builtin.Str.occurrences j i 0 j.length 1).isEmpty))) H):=by
 (first | refine⟨?_⟩ | skip)
 intro pins s σ H x y v u Q I rx ry h;obtain⟨i,j,rfl,rfl,q⟩:=h;obtain⟨t,rfl⟩:=rx;obtain⟨t',rfl⟩:=ry;exact notIn_str ⟨.bl _,H,I,rfl,q⟩
theorem gW:wF X (.type "list") (λxs H Q=> ∃p ys,xs= [.ref p]/\(yX X.K H p ys∨xM X.K H p ys)/\∀l,H l=none->Q (.ref l) (zQ H l (.lst ys))):=by
 (first | refine⟨?_⟩ | skip)
 intro pins s σ H xs us Q I r h;obtain⟨p,ys,rfl,hq,q⟩:=h;obtain⟨u,rfl,rx⟩:=tW r;cases rx;have fin: ∀(its:List Value),zM ys its->ys.length<=sizeLine->∀(h':Heap) (c':Nat),(∀b o',s.heap.get? b=some o'->h'.get? b=some o')->
   h'.get? s.heap.objs.size=some {cls:= .type "list",dict:=none,data:= .seq its.toArray c',slots:= #[]} ->EP X pins σ Q (.ref s.heap.objs.size) {s with heap:=h'} :=λits r' hz h' c' kp e=>
  ⟨.ref s.heap.objs.size,_,I.laid (t':=s.toks) kp (Nat.le_refl _) (show wB X.prog X.w _ h' _ (.lst ys)from⟨hz,its,c',r',e⟩),rfl,q _ (I.hok.fresh (Nat.le_refl _))⟩
 rcases hq with hq | hq
 ·obtain⟨its,r',pl,hz⟩:=I.list hq
  have hlen:=r'.length;obtain⟨o,ho,hc,n,hd⟩:=pl.isList;exact call_list_seq p (.inl rfl) ho hc hd (λh' c' kp e=>fin its r' hz h' c' kp e) (by simp only[List.size_toArray] <;> omega)
 ·obtain⟨its,r',pl,hz⟩:=I.tuple hq
  have hlen:=r'.length;obtain⟨o,ho,hc,n,hd⟩:=pl;exact call_list_seq p (.inr rfl) ho hc hd (λh' c' kp e=>fin its r' hz h' c' kp e) (by simp only[List.size_toArray] <;> omega)
theorem gX:wF X (.type "tuple") (λxs H Q=> ∃p ys,xs= [.ref p]/\((yX X.K H p ys/\∀l,H l=none->Q (.ref l) (zQ H l (.tup ys)))∨(xM X.K H p ys/\Q (.ref p) H))):=by
 (first | refine⟨?_⟩ | skip)
 intro pins s σ H xs us Q I r h;obtain⟨p,ys,rfl,h⟩:=h;obtain⟨u,rfl,rx⟩:=tW r;cases rx;rcases h with⟨hq,q⟩ | ⟨hq,q⟩
 ·obtain⟨its,r',pl,hz⟩:=I.list hq
  have hlen:=r'.length;refine call_tuple_list pl.isList (λh' kp=> ?_) (by simp only[List.size_toArray] <;> omega);have I1:z5 X pins σ H {s with heap:=h'} :=I.kept (t':=s.toks) kp;have I2:z5 X pins σ (zQ H h'.objs.size (.tup ys)) {s with heap:=h'.push {cls:= .type "tuple",data:= .seq its.toArray}} :=
   I1.laid (t':=s.toks) (λb o e=>Heap.get?_push_of_some _ e) (Nat.le_refl _) (show wB X.prog X.w _ _ _ (.tup ys)from⟨hz,its,r',tH.new _ _⟩)
  exact⟨.ref h'.objs.size,_,I2,rfl,q _ (I1.hok.fresh (Nat.le_refl _))⟩
 ·obtain⟨its,r',pl,hz⟩:=I.tuple hq
  exact call_tuple_same pl ⟨.ref p,H,I,rfl,q⟩
def iF (K:Frag)(T:String)(x:V)(H:Hp):Prop:=match x with
 | .str _=>T= "str"
 | .int _=>T= "int"
 | .ref p=>(T= "list" /\∃xs,yX K H p xs)∨(T= "tuple" /\∃o,K.lookup p=some o/\o.cls= .type "tuple" /\o.dict=none)∨
   (T= "dict" /\((∃kvs,H p=some (.dK kvs))∨∃kvs,H p=some (.dT kvs)))∨(T= "set" /\∃S n,H p=some (.set S n))
 | _=>False
theorem zgR {pins:List (Addr×Obj)}{σ:St}{H:Hp}{s:Shared}{T:String}{x:V}{v:Value}(I:z5 X pins σ H s)(r:zS x v)(ty:iF X.K T x H):
  s.TypeIs v T/\∀a,v= .ref a->∃ob,s.heap.get? a=some ob/\ob.dict=none:=by
 cases x with
 | str z=>
  obtain⟨t,rfl⟩:=r;cases(show T= "str" from ty);exact⟨typeIs_str s z t,λ_ e=>nomatch e⟩
 | int i=>
  obtain⟨t,rfl⟩:=r;cases(show T= "int" from ty);exact⟨typeIs_int s i t,λ_ e=>nomatch e⟩
 | ref p=>
  cases r;rcases ty with⟨rfl,xs,hq⟩ | ⟨rfl,o,hk,hc,hd⟩ | ⟨rfl,hk⟩ | ⟨rfl,S,n,hk⟩
  ·obtain⟨its,_,pl,_⟩:=I.list hq
   refine⟨pl.isList.typeIs,λa e=> ?_⟩;cases e;obtain⟨o,n,e,c,hd,_⟩:=pl;exact⟨o,e,hd⟩
  ·refine⟨⟨o,I.kIn p o hk,hc⟩,λa e=> ?_⟩
   cases e;exact⟨o,I.kIn _ o hk,hd⟩
  ·have z: ∃o,s.heap.get? p=some o/\o.ExactDict:=by
    rcases hk with⟨kvs,hk⟩ | ⟨kvs,hk⟩
    ·obtain⟨_,_,_,_,o,_,_,e,ex,_⟩:=I.hok p _ hk
     exact⟨o,e,ex⟩
    ·obtain⟨_,_,_,_,o,_,_,e,ex,_⟩:=I.hok p _ hk
     exact⟨o,e,ex⟩
   obtain⟨o,e,ex⟩:=z;refine⟨⟨o,e,ex.1⟩,λa e2=> ?_⟩;cases e2;exact⟨o,e,ex.2.1⟩
  ·obtain⟨o,_,_,_,e,ex,_⟩:=I.hok p _ hk
   refine⟨⟨o,e,ex.1⟩,λa e2=> ?_⟩;cases e2;exact⟨o,e,ex.2.1⟩
 | _=>exact False.elim ty
def zov (K:Frag)(T:String)(r:V->List V->Hp->VK->Prop)(to:TE):TE:=λσ H Q=>to σ H λx H1=>iF K T x H1/\r x [] H1 Q
def tBM (K:Frag)(T:String)(r:V->List V->Hp->VK->Prop)(to:TE)(t:TA):TE:=λσ H Q=>to σ H λx H1=>iF K T x H1/\t σ H1 λxs H2=>r x xs H2 Q
variable {o e:Expr} {es:List Expr} {to:TE} {t:TA} {name:Str} {apos cpos:Pos} {T id:String} {r:V->List V->Hp->VK->Prop}
theorem zm0 (pa:PlainAttrs T)(slot:Slot T name id)(hty:typeOf (.builtin id)=pure (.type "method_descriptor"))(hm:tI X id r)(ho:PE X o to)
  (hbase:attributeBase o name X.env (eval o X.env)=eval o X.env:=by rfl) (hline:(apos.endLine==cpos.line)=true:=by rfl):PE X (.Call (.Attribute o name apos) [] [] cpos) (zov X.K T r to):=by
 (first | refine⟨?_⟩ | skip)
 intro pins s σ H Q I h;refine wpAny_Call_method0_late hbase hline (y0 (ho pins s σ H _ I h) λv s1 ⟨x,H1,I1,r1,ty,q1⟩=> ?_);obtain⟨h1,h2⟩:=zgR I1 r1 ty;exact⟨T,id,pa,slot,hty,h1,h2,Calls.callWith_builtin rfl (PySem.evalArgs_none (hm pins s1 σ H1 x [] v [] Q I1 r1 .nil q1))⟩
theorem zmz (pa:PlainAttrs T)(slot:Slot T name id)(hty:typeOf (.builtin id)=pure (.type "method_descriptor"))(hm:tI X id r)(ho:PE X o to)(ha:PA X (e::es) t)
  (hbase:attributeBase o name X.env (eval o X.env)=eval o X.env:=by rfl)
  (hfew:((backTo cpos (starEach (e::es) X.env)).all (λx=> !x.1)&&(backToKw cpos (keywordEach [] X.env)).all (λx=>x.1.isSome)
   &&decide ((e::es).length+([]:List Keyword).length+(if([]:List Keyword).isEmpty then 0 else 1) < 30))=true:=by rfl)
  (hline:(apos.endLine==cpos.line)=true:=by rfl) (hs:starEach (e::es) X.env=(false,eval e X.env)::starEach es X.env:=by rfl) (hplain:(backTo cpos (starEach es X.env)).any (·.1)=false:=by rfl):
  PE X (.Call (.Attribute o name apos) (e::es) [] cpos) (tBM X.K T r to t):=by
 (first | refine⟨?_⟩ | skip)
 intro pins s σ H Q I h;refine wpAny_Call_method_late hbase hfew hline rfl (y0 (ho pins s σ H _ I h) λv s1 ⟨x,H1,I1,r1,ty,q1⟩=> ?_);obtain⟨h1,h2⟩:=zgR I1 r1 ty;refine⟨T,id,pa,slot,hty,h1,h2,?_⟩;have hA:=ha cpos pins s1 σ H1 _ I1 q1;rw[hs]at hA⊢
 refine Calls.callWith_builtin (by show(false||(backTo cpos (starEach es X.env)).any (·.1))=false;rw[hplain] <;> rfl) (Calls.evalArgs_plain ?_);exact y0 hA λus s2 ⟨vs,H2,I2,r2,q2⟩=>hm pins s2 σ H2 x vs v us Q I2 r1 r2 q2
end
end L2
namespace L2
open PySem PySem.Spec PyProof.Rows
def hU (X:Cx)(id:String)(r:V->List V->Hp->VK->Prop):Prop:=
 ∀(pins:List (Addr×Obj)) (s:Shared) (σ:St) (H:Hp) (x:V) (xs:List V) (v:Value) (us:List Value) (Q:VK),z5 X pins σ H s->zS x v->zM xs us->r x xs H Q->
  wpAny (model X.prog X.w) X.A (call (.builtin id) (v::us)) (EP X pins σ Q) X.xe s
theorem zM.one: ∀{x:V} {us:List Value},zM [x] us->∃u,us= [u]/\zS x u
 | _,_,.cons r .nil=>⟨_,rfl,r⟩
theorem zM.two {x y:V}{us:List Value}(h:zM [x,y] us): ∃u v,us= [u,v]/\zS x u/\zS y v:=by
 cases h with | cons r t=>cases t with | cons q t2=>cases t2;exact⟨_,_,rfl,r,q⟩
theorem zM.zero: ∀{us:List Value},zM [] us->us= []
 | _,.nil=>rfl
theorem zM.dropLast {xs:List V}{us:List Value}(h:zM xs us):zM xs.dropLast us.dropLast:=by
 induction h with
 | nil=>exact .nil
 | cons r t ih=>
  cases t with
  | nil=>exact .nil
  | cons q t'=>exact .cons r ih
theorem zM.eraseIdx: ∀{xs:List V} {us:List Value} (i:Nat),zM xs us->zM (xs.eraseIdx i) (us.eraseIdx i)
 | _,_,_,.nil=> .nil
 | _,_,0,.cons _ t=>t
 | _,_,i+1,.cons r t=> .cons r (zM.eraseIdx i t)
theorem zM.reverse {xs:List V}{us:List Value}(h:zM xs us):zM xs.reverse us.reverse:=by
 induction h with
 | nil=>exact .nil
 | cons r t ih=>rw[List.reverse_cons,List.reverse_cons];exact zM.append ih (.cons r .nil)
theorem zjj {α:Type}(l:List α):l.eraseIdx (l.length - 1)=l.dropLast:=by
 induction l with
 | nil=>rfl
 | cons a r ih=>
  cases r with
  | nil=>rfl
  | cons b r=>
   have e:(a::b::r).length - 1=((b::r).length - 1)+1:=by
    have h1:(a::b::r).length=r.length+2:=rfl;have h2:(b::r).length=r.length+1:=rfl;omega
   rw[e,List.eraseIdx_cons_succ,ih]
   all_goals rfl
theorem zeL {α:Type} : ∀(l:List α) (i:Nat),(l.eraseIdx i).length<=l.length
 | [],_=>Nat.le_refl _
 | _::_,0=>Nat.le_succ _
 | _::r,i+1=>Nat.succ_le_succ (zeL r i)
section
variable {X:Cx} {pins:List (Addr×Obj)} {σ:St} {H:Hp} {s:Shared} {l b:Addr} {xs ys zs:List V}
theorem z5.lset {its its':List Value}{n:Nat}{f:Array Value->Array Value}{t':Nat}(I:z5 X pins σ H s)(hH:H l=some (.lst xs))
  (e:s.heap.get? l=some {cls:= .type "list",data:= .seq its.toArray n}) (hf:f its.toArray=its'.toArray) (hv:zM ys its') (hz:ys.length<=sizeLine):
  z5 X pins σ (zQ H l (.lst ys)) {s with heap:=s.heap.update l (Obj.mapSeq f),toks:=t'} :=by
 have q:=PySem.IsL.update e f;rw[hf]at q;refine I.write (x:=l) (e:=l) (by rw[hH];exact trivial) (.inl rfl) (λb' u hb hu=>(Heap.get?_update_other s.heap (Obj.mapSeq f) (Ne.symm hb)).trans hu) ⟨_,q⟩ ?_;exact⟨hz,its',_,hv,q⟩
theorem z5.lnew {its:List Value}{t':Nat}(I:z5 X pins σ H s)(hv:zM ys its)(hz:ys.length<=sizeLine):
  z5 X pins σ (zQ H s.heap.objs.size (.lst ys)) {s with heap:=s.heap.push {cls:= .type "list",data:= .seq its.toArray},toks:=t'} :=
 I.laid (λ_ _ q=>Heap.get?_push_of_some _ q) (Nat.le_refl _) ⟨hz,its,0,hv,Heap.get?_push_size _ rfl⟩
theorem z5.fresh (I:z5 X pins σ H s):H s.heap.objs.size=none:=I.hok.fresh (Nat.le_refl _)
theorem z5.lstM (I:z5 X pins σ H s)(hH:H l=some (.lst xs)):xs.length<=sizeLine/\∃(its:List Value) (n:Nat),zM xs its/\xs.length=its.length/\s.heap.get? l=some {cls:= .type "list",data:= .seq its.toArray n} :=by
 obtain⟨z,its,n,r,e⟩:=I.hok l _ hH;exact⟨z,its,n,r,r.length,e⟩
theorem zly {n:Nat}(h:n<=sizeLine):Builtin.List.listTooLong n=false:=by
 unfold Builtin.List.listTooLong;exact decide_eq_false (by omega)
end
section
variable {X:Cx}
def zn_:V->List V->Hp->VK->Prop:=λx vs H Q=> ∃l xs y,x= .ref l/\vs= [y]/\H l=some (.lst xs)/\xs.length < sizeLine/\Q .non (zQ H l (.lst (xs++ [y])))
theorem zlk:hU X "list.append" zn_:=by
 (first | refine⟨?_⟩ | skip)
 intro pins s σ H x vs v us Q I rx rv h;obtain⟨l,xs,y,rfl,rfl,hH,hz,q⟩:=h;cases rx;obtain⟨u,rfl,ru⟩:=rv.one;obtain⟨z,its,n,r,hl,e⟩:=I.lstM hH;refine call_meets F.slot_list_append ⟨_,e,rfl⟩ F.entry_list_append (F.args_list_append_2 _ _) (PySem.list_append l its.toArray n u (by rw[List.size_toArray];omega)) ⟨e,?_⟩;refine⟨.non,_,I.lset (its':=its++ [u]) hH e (by simp) (r.append (.cons ru .nil)) ?_,rfl,q⟩;rw[List.length_append,List.length_singleton];omega
def znI:V->List V->Hp->VK->Prop:=λx vs H Q=> ∃l xs y,x= .ref l/\vs= []/\H l=some (.lst xs)/\xs[xs.length - 1]?=some y/\Q y (zQ H l (.lst xs.dropLast))
theorem zlm:hU X "list.pop" znI:=by
 (first | refine⟨?_⟩ | skip)
 intro pins s σ H x vs v us Q I rx rv h;obtain⟨l,xs,y,rfl,rfl,hH,hy,q⟩:=h;cases rx;have hus:=rv.zero;subst hus;obtain⟨z,its,n,r,hl,e⟩:=I.lstM hH;obtain⟨u,hu,ru⟩:=r.get hy;have hy':its.toArray[its.toArray.size - 1]?=some u:=by
  show its.toArray[its.length - 1]?=some u;rw[<- Array.getElem?_toList,<- hl];exact hu
 refine call_meets F.slot_list_pop ⟨_,e,rfl⟩ F.entry_list_pop (F.args_list_pop_1 _) (MeetsSeq.list_pop_last l its.toArray n u hy' (by rw[List.size_toArray];omega)) ⟨e,?_⟩;refine⟨y,_,I.lset (its':=its.dropLast) hH e ?_ r.dropLast ?_,ru,q⟩
 ·show its.toArray.eraseIdxIfInBounds (its.toArray.size - 1)=its.dropLast.toArray
  rw[List.size_toArray,List.eraseIdxIfInBounds_toArray,zjj]
 ·rw[List.length_dropLast]
  omega
def znJ:V->List V->Hp->VK->Prop:=λx vs H Q=> ∃l xs i k y,x= .ref l/\vs= [.int i]/\H l=some (.lst xs)/\ -(2 ^ 63)<=i/\i < 2 ^ 63/\seqIndex? i xs.length=some k/\xs[k]?=some y/\Q y (zQ H l (.lst (xs.eraseIdx k)))
theorem zln:hU X "list.pop" znJ:=by
 (first | refine⟨?_⟩ | skip)
 intro pins s σ H x vs v us Q I rx rv h;obtain⟨l,xs,i,k,y,rfl,rfl,hH,h1,h2,hk,hy,q⟩:=h;cases rx;obtain⟨u,rfl,ru⟩:=rv.one;obtain⟨t,rfl⟩:=ru;obtain⟨z,its,n,r,hl,e⟩:=I.lstM hH;obtain⟨w,hw,rw'⟩:=r.get hy;refine call_meets F.slot_list_pop ⟨_,e,rfl⟩ F.entry_list_pop (F.args_list_pop_2 _ _)
  (MeetsSeq.list_pop_at l its.toArray n i t k w (fitsIndex_both h1 h2) (by rw[List.size_toArray,<- hl];exact hk) (by rw[<- Array.getElem?_toList];exact hw) (by rw[List.size_toArray];omega)) ⟨e,?_⟩
 refine⟨y,_,I.lset (its':=its.eraseIdx k) hH e ?_ (r.eraseIdx k) ?_,rw',q⟩
 ·show its.toArray.eraseIdxIfInBounds k=(its.eraseIdx k).toArray
  rw[List.eraseIdxIfInBounds_toArray]
 ·have:=zeL xs k
  omega
end
section
variable {prog:Program} {w:World} {A:Around} {E:Value->Shared->Prop} {s:Shared}
end
section
variable {X:Cx}
end
end L2
namespace Att
open PySem PySem.W PySem.Calls PyProof.Rows
theorem zks {P:Params}{h:Heap} : ∀(ns:List Int) (vs:List Value),WellAll P h vs (ns.map WData.int)->IntsAre vs ns:=by
 intro ns
 induction ns with
 | nil=>
  intro vs w;rw[List.map_nil]at w;cases w;exact .nil
 | cons n ns ih=>
  intro vs w;rw[List.map_cons]at w;cases w with
  | cons a b=>
   cases a;exact .cons _ _ (ih _ b)
theorem zoe {l:OpenLaw}{n:Nat}(hn:l.most=some n){P:Params}{h:Heap}{args:List WData}{vals:List Value}
  (hpre:l.row.toRowW.claim.pre args=true) (hwl:WellAll P h vals args):
  ∃a vs ns,vals= [Value.ref a]/\args= [WData.list (ns.map WData.int)]/\h.get? a=some {cls:= .type "list",data:= .seq vs.toArray} /\IntsAre vs ns/\ns.length<=n:=by
 have hsh:WShape.hasAll [] args [.list .int]=true:=(pre_splitW hpre).1;have hc:l.pre.holds [] {args:=args} =true:=(pre_splitW hpre).2;obtain⟨d,r,rfl,h1,h2⟩:=hasAllW_cons hsh;obtain rfl:=hasAllW_nil h2;obtain⟨xs,rfl,h3⟩:=hasW_list h1;obtain⟨ns,rfl⟩:=items_int h3;have hlen:ns.length<=n:=by
  unfold OpenLaw.pre at hc;have h4:(WTm.not (.lt (.lit (.int (n:Int))) (.len (.arg 0)))).holds [] {args:= [.list (ns.map .int)]} =true:=by
   have h4:=(holds_andW hc).1;rw[hn]at h4;exact h4
  have h5:=condW_of h4 (w_not (w_lt w_lit (w_len_list (w_arg rfl))));rw[List.length_map]at h5;refine Nat.le_of_not_lt λq=> ?_;have q':(n:Int) < ((ns.length:Nat):Int):=by omega
  first
   | (rw[decide_eq_true q']at h5;exact absurd h5 (by decide))
   | (simp at h5;omega)
 cases hwl with
 | cons w1 w2=>
  cases w2;cases w1 with
  | list ho hall=>exact⟨_,_,ns,rfl,rfl,ho,zks ns _ hall,hlen⟩
theorem zmV (l:OpenLaw)(args:List WData):l.row.toRowW.claim.post args (.bool true) args=true:=
 postW_of (r:=l.row.toRowW) (X:=(true==true))
  (show WShape.has [] (.bool true) .bool=true by first | rfl | decide | simp[WShape.has,WShape.arms,WShape.armsAll])
  (show(WTm.eq .res (.lit (.bool true))).value [] {args:=args,res:=some (.bool true),after:=args} =some (.bool (true==true))from w_eq_bool (w_res rfl) w_lit) rfl
theorem attach_call {l:OpenLaw}{n:Nat}{q:Program}{loose:List Str}{XP:(Str->Option Value)->Heap->Prop}{YP:World->Heap->Prop}{d:DefRec}
  (hn:l.most=some n) (hdf:d.params.defaults= [])
  (call: ∀(w:World) (s₀ s₁:Shared) (mg mb:Str->Option Value) (fa:Addr) (o:Obj) (pm cd doc:Value) (a:Addr) (vs:List Value) (ns:List Int),
   Ground q loose [] XP w s₀ mg mb s₁.heap->YP w s₁.heap->
   s₁.heap.get? fa=some o->o.data= .func (docDef d.name d.params d.body d.scope pm cd doc)->s₁.heap.CodeRec cd d.name->mg d.name=some (.ref fa)->
   s₁.heap.get? a=some {cls:= .type "list",data:= .seq vs.toArray} ->IntsAre vs ns->ns.length<=n->s₁.gens= #[]->
   codeAny (model l.prog w) callerA (.call (.ref fa) ⟨[.ref a],[]⟩) (λr s'=>r= .ok (.ret (.bool true))/\OldK s₁.heap s'.heap/\s'.os=s₁.os/\AllBare s'.gens) s₁):
  WalkO q loose XP YP l.row.toRowW d [] (λf vs=>PySem.call f vs):=by
 intro w s₀ s₁ mg mb G Y fa o pm cd doc dV kV ho hd hcd hD hmg hg args vals as hpre hlay hrd hwl hlo;obtain rfl:dV= .none:=Dflts.none hD hdf;obtain rfl:kV= .none:=Dflts.noKw hD;obtain⟨a,vs,ns,rfl,rfl,hobj,hints,hlen⟩:=zoe hn hpre hwl;refine enter_call (codeAny_mono (call w s₀ s₁ mg mb fa o pm cd doc a vs ns G Y ho (fd_plain hd) hcd hmg hobj hints hlen hg) λr s' hq=> ?_);obtain⟨rfl,h2,h3,h4⟩:=hq;exact⟨.inl ⟨.bool true,.bool true,[],rfl,λ_=>rfl,.bool true,zmV l _,λ_=>⟨List.Pairwise.nil,λ_ hm=>(nomatch hm)⟩⟩,h2,h3,h4⟩
section
variable {prog:Program} {w:World} {A:Around} {E:Value->Shared->Prop} {s:Shared} {K:Frag}
end
end Att
namespace L2
open PySem PySem.Spec PyProof.Rows
theorem zhp: ∀{vs:List Value} {ns:List Int},IntsAre vs ns->zM (ns.map V.int) vs
 | _,_,.nil=> .nil
 | _,_,.cons n t h=> .cons ⟨t,rfl⟩ (zhp h)
def hV (H:Hp):Prop:= ∀b,H b=none∨∃o xs,H b=some (.frz o (.lst xs))
theorem zkD {P:Program}{w:World}{K:Frag}{mg mb:Str->Option Value}{CX:uS}{k:Nat}{fa a:Addr}{fd:FuncData}{x:Str}{sp:Sp}{s₁:Shared}{vs:List Value}{ns:List Int}
  (KX:K.In s₁.heap) (hns:s₁.heap.Ns mainGlobals mg) (hb:s₁.heap.Ns builtinsNs mb) (hbb: ∀x:Str,x≠ "__name__" ->mb x=bootBuiltins x) (hlim:s₁.heap.NoLimit) (hg:s₁.gens= #[])
  (ha:s₁.heap.get? a=some {cls:= .type "list",data:= .seq vs.toArray}) (hi:IntsAre vs ns) (hl:ns.length<=sizeLine) (hr:zY k callerA)
  (F: ∀base:Heap,K.In base->base.Ns mainGlobals mg->zJ P w K mg base CX k fa fd [x] sp) (hbind: ∀(s:Shared) (u:Value),BindsTo s fd ⟨[u],[]⟩ [(x,u)])
  (hsp: ∀H:Hp,hV H->yX K H a (ns.map V.int)->sp [.ref a] H (λv _=>v= .bl true) λ_ _ _=>False)
  (hCX: ∀H e s',CX [] H s₁ (λ_ _ _=>False) e s'->False):
  codeAny (model P w) callerA (.call (.ref fa) ⟨[.ref a],[]⟩) (λr s'=>r= .ok (.ret (.bool true))/\OldK s₁.heap s'.heap/\s'.os=s₁.os/\AllBare s'.gens) s₁:=by
 have rv:=zhp hi;have lenV:=hi.length;have core: ∀H:Hp,hV H->yX K H a (ns.map V.int)->xI P w H s₁.heap->(∀b,H b≠none->b=a)->(H a≠none->K.lookup a=none)->
   codeAny (model P w) callerA (.call (.ref fa) ⟨[.ref a],[]⟩) (λr s'=>r= .ok (.ret (.bool true))/\OldK s₁.heap s'.heap/\s'.os=s₁.os/\AllBare s'.gens) s₁:=by
  intro H hO hS hok hA hK;have base_of: ∀{b:Addr} {o:Obj},s₁.heap.get? b=some o->H b=none->(sX s₁.heap H).get? b=some o:=λe n=>zkk e n;have noA: ∀{b:Addr} {o:Obj} {es:Array DictEntry} {ep:Nat},s₁.heap.get? b=some o->o.data= .dict es ep->H b=none:=λ{b o es ep} e d=>by
   cases q:H b with
   | none=>rfl
   | some u=>
    have e':b=a:=hA b (by rw[q];simp);subst e';rw[ha]at e;cases e;have d':Data.seq vs.toArray _=Data.dict es ep:=d;cases d'
  have nsK: ∀{b:Addr} {m:Str->Option Value},s₁.heap.Ns b m->(sX s₁.heap H).Ns b m:=λ{b m} ⟨o,es,ep,e,d,r⟩=>⟨o,es,ep,base_of e (noA e d),d,r⟩;have hKb:K.In (sX s₁.heap H):=λb o e=>base_of (KX b o e) (by
   cases q:H b with
   | none=>rfl
   | some u=>
    have e':b=a:=hA b (by rw[q];simp);subst e';rw[hK (by rw[q];simp)]at e;cases e)
  have hM:Mod K mg (sX s₁.heap H):=⟨hKb,nsK hns,⟨mb,nsK hb,hbb⟩,let⟨mc,h1,h2⟩:=hlim;⟨mc,nsK h1,h2⟩⟩;have e0:lY P w K mg (sX s₁.heap H) callerA [] s₁ H:=⟨rfl,hM,λb o e=>zl_ e,Nat.le_of_eq (zkl _ _),trivial,λb hb=>absurd (show b∈([]:List Addr)from hb) (by simp),hok,.of_eq hg⟩;refine codeAny_mono ((F _ hKb (nsK hns)).run callerA [] s₁ H ⟨[.ref a],[]⟩ [.ref a] [.ref a] _ _ hr e0 (hbind s₁ (.ref a)) (.cons rfl .nil) (hsp H hO hS)) λr s' h=> ?_;cases r with
  | error e=>exact(hCX H e s' h).elim
  | ok fl=>
   cases fl with
   | next=>exact False.elim h
   | brk=>exact False.elim h
   | cont=>exact False.elim h
   | ret u=>
    obtain⟨v,H',os,bare,un,hok',r',q⟩:=h;have q':v= .bl true:=q;subst q';obtain rfl:u=Value.bool true:=r';refine⟨rfl,OldK.of_keep λb o e=> ?_,os,bare⟩;cases q:H b with
    | none=>exact un.keep b o e q (by intro z;exact absurd (show b∈([]:List Addr)from z) (by simp)) (by simp)
    | some u=>
     rcases hO b with z | ⟨ob,xs,z⟩
     ·rw[q]at z;cases z
     ·have z2:=un.frzs b ob _ z
      obtain⟨e1,_⟩:=hok b _ z;obtain⟨e2,_⟩:=hok' b _ z2;rw[e]at e1;cases e1;exact e2
 cases hk:K.lookup a with
 | some o=>
  have e:=KX a o hk;rw[ha]at e;cases e;refine core (λ_=>none) (λ_=> .inl rfl) (.inr ⟨_,vs.toArray,_,hk,rfl,rfl,rfl,by rw[List.size_toArray,lenV];exact hl,by simpa using rv,rfl⟩) (λb u z=>by have z':(none:Option HO)=some u:=z;cases z') (λb z=>absurd rfl z) λz=>absurd rfl z
 | none=>
  refine core (λb=>if b=a then some (.frz {cls:= .type "list",data:= .seq vs.toArray} (.lst (ns.map V.int)))else none) (λb=> ?_) (.inl (.inr ⟨{cls:= .type "list",data:= .seq vs.toArray},if_pos rfl⟩)) (λb u z=> ?_) (λb z=> ?_) λ_=>hk
  ·by_cases hb:b=a
   ·exact .inr ⟨_,_,if_pos hb⟩
   ·exact .inl (if_neg hb)
  ·by_cases hb:b=a
   ·have z':=(if_pos hb).symm.trans z
    cases z';subst hb;exact⟨ha,by rw[List.length_map];exact hl,vs,_,rv,ha⟩
   ·have z':=(if_neg hb).symm.trans z
    cases z'
  ·by_cases hb:b=a
   ·exact hb
   ·exact absurd (if_neg hb) z
end L2
namespace L2
open PySem PySem.Spec PyProof.Rows
theorem walk_of {l:PySem.W.OpenLaw}{n k:Nat}{q:Program}{loose:List Str}{XP:(Str->Option Value)->Heap->Prop}{YP:World->Heap->Prop}{d:DefRec}{K:Params->Frag}{CX:World->uS}{sp:World->Sp}{x:Str}
  (hn:l.most=some n) (hn2:n<=sizeLine) (hdf:d.params.defaults= []) (hr:zY k callerA)
  (hY: ∀(w:World) (h:Heap),YP w h->(K w.params).In h)
  (F: ∀(w:World) (mg:Str->Option Value) (fa:Addr) (h:Heap),(K w.params).In h->h.Ns mainGlobals mg->mg d.name=some (.ref fa)->
   ∃fd:FuncData,(∀(s:Shared) (u:Value),BindsTo s fd ⟨[u],[]⟩ [(x,u)])/\
    ∀base:Heap,(K w.params).In base->base.Ns mainGlobals mg->zJ l.prog w (K w.params) mg base (CX w) k fa fd [x] (sp w))
  (hsp: ∀(w:World) (H:Hp) (a:Addr) (ns:List Int),ns.length<=n->hV H->yX (K w.params) H a (ns.map V.int)->sp w [.ref a] H (λv _=>v= .bl true) λ_ _ _=>False)
  (hCX: ∀(w:World) (H:Hp) (s:Shared) (e:Value) (s':Shared),CX w [] H s (λ_ _ _=>False) e s'->False):
  PySem.W.WalkO q loose XP YP l.row.toRowW d [] (λf vs=>PySem.call f vs):=by
 refine Att.attach_call hn hdf λw s₀ s₁ mg mb fa o pm cd doc a vs ns G Y ho hd hcd hmg hobj hints hlen hg=> ?_;have KX:=hY w _ Y;obtain⟨fd,hb,hF⟩:=F w mg fa _ KX G.T.g hmg;exact zkD KX G.T.g G.T.b G.T.builtins G.T.nolimit hg hobj hints (Nat.le_trans hlen hn2) hr hF hb (λH hO hS=>hsp w H a ns hlen hO hS) λH e s'=>hCX w H s₁ e s'
end L2
namespace L2
open PySem PySem.Spec PyProof.Rows
def yP (s:Stmt):Arguments:=match s with
 | .FunctionDef _ a _ _ _ _ _ _ _ _=>a
 | _=> {posonlyargs:= [],args:= [],vararg:=none,kwonlyargs:= [],kw_defaults:= [],kwarg:=none,defaults:= []}
def yN (s:Stmt):List Stmt:=match s with
 | .FunctionDef _ _ b _ _ _ _ _ _ _=>b
 | _=> []
def zO (s:Stmt):Scope:=match s with
 | .FunctionDef _ _ _ _ _ _ sc _ _ _=>sc
 | _=> {kind:= .function,names:= [],isGenerator:=false,isCoroutine:=false}
abbrev zL:uS:=λ_ _ _ _ _ _=>False
abbrev E0:XK:=λ_ _ _=>False
theorem zmu {X:Cx} :gA zL X E0:=λ_ _ _ _ _ _ _ h=>h.elim
structure zV (K:Frag)(x qual:Str)(st:Stmt)(f:Addr)(fd:FuncData):Prop where
 ex: ∃(oc:Value) (od:Option Addr) (kV doc pm:Value) (an:Option Addr) (cdv ct:Value) (osl:Array (Option Value)),
  fd=fnOf x qual (yP st) (yN st) (zO st) .none kV doc pm an cdv ct/\K.lookup f=some ⟨oc,od,.func fd,osl⟩/\codeIn K cdv qual=true
 kp:keepIn K (.ref f)=true
section
variable {P:Program} {w:World} {K:Frag} {mg:Str->Option Value} {base:Heap}
theorem zV.ok {x qual:Str}{st:Stmt}{f:Addr}{fd:FuncData}{N ps:List Str}{k:Nat}{sp:Sp}(F:zV K x qual st f fd)(S:yS N ps (zO st))(len: ∀vs H Q E,sp vs H Q E->vs.length=ps.length)
  (hbody: ∀(cdv:Value) (A:Around) (outer:List Env) (s:Shared) (H:Hp) (vs:List V) (Q:VK) (E:XK),zY k (A.deeper (envOfC qual (zO st) s.heap.objs.size f cdv))->sp vs H Q E->
   ∃t,xJ (qW zL P w K mg base N qual (zO st) f cdv A outer s H E).nox (yN st) t/\t {nx:=λ_ H'=>Q .non H',rt:=Q} (start N vs) H):zJ P w K mg base zL (k+1) f fd ps sp:=by
 obtain⟨oc,od,kV,doc,pm,an,cdv,ct,osl,rfl,lk,hcd⟩:=F.ex;refine zjY lk hcd S len λA outer s H vs Q E hr hsp=> ?_;obtain⟨t,h,q⟩:=hbody cdv A outer s H vs Q E hr hsp;exact⟨t,h.nox,q⟩
theorem zV.binds {x qual:Str}{st:Stmt}{f:Addr}{fd:FuncData}{ps:List Str}(F:zV K x qual st f fd)
  (h: ∀(kV doc pm:Value) (an:Option Addr) (cdv ct:Value) (us:List Value),us.length=ps.length->bindArgs (fnOf x qual (yP st) (yN st) (zO st) .none kV doc pm an cdv ct) ⟨us,[]⟩=pure (ps.zip us)):yM K fd ps []:=by
 obtain⟨oc,od,kV,doc,pm,an,cdv,ct,osl,rfl,lk,hcd⟩:=F.ex;exact .all (h kV doc pm an cdv ct)
theorem yZ {x qual:Str}{st:Stmt}{f:Addr}{oc:Value}{od an:Option Addr}{osl:Array (Option Value)}{kV doc pm cdv ct:Value}(l:K.lookup f=some ⟨oc,od,.func (fnOf x qual (yP st) (yN st) (zO st) .none kV doc pm an cdv ct),osl⟩)
  (c:codeIn K cdv qual=true) (k:keepIn K (.ref f)=true):zV K x qual st f (fnOf x qual (yP st) (yN st) (zO st) .none kV doc pm an cdv ct):=⟨⟨oc,od,kV,doc,pm,an,cdv,ct,osl,rfl,l,c⟩,k⟩
end
section
variable {X:Cx}
end
theorem za7 {c A B:Prop}[Decidable c](h1:c->A)(h2: ¬ c->B):if c then A else B:=by
 by_cases h:c
 ·rw[if_pos h]
  exact h1 h
 ·rw[if_neg h]
  exact h2 h
end L2
namespace L2
open PySem PySem.Spec PyProof.Rows
section
variable {κ:Type} [DecidableEq κ]
def u9 (kvs:List (κ×V))(k:κ):Option V:=(kvs.find? λkv=>decide (kv.1=k)).map (·.2)
def wL (kvs:List (κ×V))(k:κ)(v:V):List (κ×V):=
 if(kvs.any λkv=>decide (kv.1=k))=true then kvs.map (λkv=>if kv.1=k then(kv.1,v)else kv)else kvs++ [(k,v)]
theorem lW {p:κ×V}{r:List (κ×V)}{k:κ}(e:p.1=k):u9 (p::r) k=some p.2:=by simp[u9,List.find?_cons,e]
theorem lV {p:κ×V}{r:List (κ×V)}{k:κ}(e: ¬ p.1=k):u9 (p::r) k=u9 r k:=by simp[u9,List.find?_cons,e]
theorem zhn (k:κ): ∀kvs:List (κ×V),(kvs.any λkv=>decide (kv.1=k))=(u9 kvs k).isSome
 | []=>rfl
 | p::r=>by
  rw[List.any_cons];by_cases e:p.1=k
  ·simp only[lW e,decide_eq_true e,Bool.true_or,Option.isSome_some]
  ·rw[lV e,decide_eq_false e,Bool.false_or];exact zhn k r
theorem jC (kvs:List (κ×V))(k:κ)(v:V):(wL kvs k v).length<=kvs.length+1:=by
 unfold wL
 split
 ·rw[List.length_map];omega
 ·rw[List.length_append,List.length_cons,List.length_nil];omega
theorem uV.isSome_eq {o:Option V}{u:Option Value}(r:uV o u):o.isSome=u.isSome:=by
 cases o with
 | none=>cases u with
  | none=>rfl
  | some _=>exact(show False from r).elim
 | some _=>cases u with
  | none=>exact(show False from r).elim
  | some _=>rfl
theorem uV.getD {o:Option V}{u:Option Value}{d:V}{d':Value}(r:uV o u)(rd:zS d d'):zS (o.getD d) (u.getD d'):=by
 cases o with
 | none=>cases u with
  | none=>exact rd
  | some _=>exact(show False from r).elim
 | some _=>cases u with
  | none=>exact(show False from r).elim
  | some _=>exact r
theorem KV.val {kvs:List (κ×V)}{vs:List (κ×Value)}(r:KV kvs vs)(k:κ):uV (u9 kvs k) (valueAt vs k):=by
 unfold KV at r
 induction r with
 | nil=>exact True.intro
 | @cons p q ps qs h t ih=>
  obtain⟨h1,h2⟩:=h;by_cases e:p.1=k
  ·have e':q.1=k:=h1.symm.trans e
   have b:valueAt (q::qs) k=some q.2:=by simp[valueAt,List.find?_cons,e']
   rw[lW e,b];exact h2
  ·have e': ¬ q.1=k:=λz=>e (h1.trans z)
   have b:valueAt (q::qs) k=valueAt qs k:=by simp[valueAt,List.find?_cons,e']
   rw[lV e,b];exact ih
theorem KV.any {kvs:List (κ×V)}{vs:List (κ×Value)}(r:KV kvs vs)(k:κ):(kvs.any λkv=>decide (kv.1=k))=vs.any λkv=>decide (kv.1=k):=by
 unfold KV at r
 induction r with
 | nil=>rfl
 | cons h t ih=>rw[List.any_cons,List.any_cons,ih,h.1]
theorem KV.repl {kvs:List (κ×V)}{vs:List (κ×Value)}(r:KV kvs vs)(k:κ){y:V}{u:Value}(ry:zS y u):
  KV (kvs.map λkv=>if kv.1=k then(kv.1,y)else kv) (vs.map λkv=>if kv.1=k then(kv.1,u)else kv):=by
 unfold KV at r⊢
 induction r with
 | nil=>exact .nil
 | @cons p q ps qs h t ih=>
  rw[List.map_cons,List.map_cons];refine .cons ?_ ih;obtain⟨h1,h2⟩:=h;by_cases e:p.1=k
  ·rw[if_pos e,if_pos (h1.symm.trans e)];exact⟨h1,ry⟩
  ·rw[if_neg e,if_neg (λz=>e (h1.trans z))];exact⟨h1,h2⟩
theorem KV.put {kvs:List (κ×V)}{vs:List (κ×Value)}(r:KV kvs vs)(k:κ){y:V}{u:Value}(ry:zS y u):KV (wL kvs k y) (stored vs k u):=by
 unfold wL stored;rw[r.any k];by_cases e:(vs.any λkv=>decide (kv.1=k))=true
 ·rw[if_pos e,if_pos e];exact r.repl k ry
 ·rw[if_neg e,if_neg e];exact Paired.snoc r ⟨rfl,ry⟩
theorem KV.length {kvs:List (κ×V)}{vs:List (κ×Value)}(r:KV kvs vs):kvs.length=vs.length:=Paired.length r
end
theorem rZ {P:Program}{w:World}{k:z8}{u:Value}(r:zS (kV k) u):(xK P w).is k u=true:=by
 cases k with
 | inl i=>obtain⟨t,e⟩:=(show ∃t,u=Value.int i t from r);subst e;exact zlf P w i t
 | inr x=>obtain⟨t,e⟩:=(show ∃t,u=Value.str x t from r);subst e;exact zlg P w x t
theorem zeD {P:Program}{w:World} : ∀{ks:List z8} {us:List Value},zM (ks.map kV) us->ItemsAre (xK P w) ks us
 | [],_,r=>by rw[List.map_nil]at r;cases r;exact .nil
 | k::ks,_,r=>by
  rw[List.map_cons]at r;cases r with
  | cons h t=>exact .cons (rZ h) (zeD t)
abbrev KT (H:Hp):List (List z8×V)->List (List z8×Addr×Value)->Prop:=Paired λp q=>p.1=q.1/\H q.2.1=some (.tup (p.1.map kV))/\zS p.2 q.2.2
theorem KT.val {H:Hp}{kvs:List (List z8×V)}{xs:List (List z8×Addr×Value)}(r:KT H kvs xs)(k:List z8):uV (u9 kvs k) ((atKey xs k).map (·.2)):=by
 induction r with
 | nil=>exact True.intro
 | @cons p q ps qs h t ih=>
  obtain⟨h1,_,h2⟩:=h;by_cases e:p.1=k
  ·have e':q.1=k:=h1.symm.trans e
   have b:atKey (q::qs) k=some q.2:=by simp[atKey,List.find?_cons,e']
   rw[lW e,b];exact h2
  ·have e': ¬ q.1=k:=λz=>e (h1.trans z)
   have b:atKey (q::qs) k=atKey qs k:=by simp[atKey,List.find?_cons,e']
   rw[lV e,b];exact ih
theorem KT.repl {H:Hp}{kvs:List (List z8×V)}{xs:List (List z8×Addr×Value)}(r:KT H kvs xs)(k:List z8){y:V}{u:Value}(ry:zS y u):
  KT H (kvs.map λkv=>if kv.1=k then(kv.1,y)else kv) (xs.map (putAt k u)):=by
 induction r with
 | nil=>exact .nil
 | @cons p q ps qs h t ih=>
  rw[List.map_cons,List.map_cons];refine .cons ?_ ih;obtain⟨h1,h2,h3⟩:=h;unfold putAt;by_cases e:p.1=k
  ·rw[if_pos e,if_pos (h1.symm.trans e)];exact⟨h1,h2,ry⟩
  ·rw[if_neg e,if_neg (λz=>e (h1.trans z))];exact⟨h1,h2,h3⟩
theorem KT.put {H:Hp}{kvs:List (List z8×V)}{xs:List (List z8×Addr×Value)}(r:KT H kvs xs)(k:List z8){b:Addr}{y:V}{u:Value}(hb:H b=some (.tup (k.map kV)))(ry:zS y u):
  KT H (wL kvs k y) (storedH xs k b u):=by
 have e:(kvs.any λkv=>decide (kv.1=k))=(atKey xs k).isSome:=by
  rw[zhn,(r.val k).isSome_eq,Option.isSome_map]
 unfold wL storedH;rw[e];by_cases q:(atKey xs k).isSome=true
 ·rw[if_pos q,if_pos q];exact r.repl k ry
 ·rw[if_neg q,if_neg q];exact Paired.snoc r ⟨rfl,hb,ry⟩
theorem KT.keeps {H H':Hp}{kvs:List (List z8×V)}{xs:List (List z8×Addr×Value)}(r:KT H kvs xs)(ht: ∀b ys,H b=some (.tup ys)->H' b=some (.tup ys)):KT H' kvs xs:=
 Paired.mapP r λ_ _ z=>⟨z.1,ht _ _ z.2.1,z.2.2⟩
section
variable {P:Program} {w:World} {H:Hp} {h:Heap} {a:Addr}
theorem zfM {u:HO}(ok:xI P w H h)(e:Rd H a u):wB P w H h a u:=e.ok ok
theorem rS {kvs:List (z8×V)}(ok:xI P w H h)(e:Rd H a (.dK kvs)):kvs.length<=sizeLine/\(a==sysModules)=false/\∃vs,KV kvs vs/\h.DictOf (xK P w) a vs:=
 show wB P w H h a (.dK kvs)from zfM ok e
theorem j0 {kvs:List (z8×V)}(ok:xI P w H h)(e:H a=some (.dK kvs)):kvs.length<=sizeLine/\(a==sysModules)=false/\∃vs,KV kvs vs/\h.DictOf (xK P w) a vs:=rS ok (.inl e)
theorem qZ {ks:List z8}(ok:xI P w H h)(e:H a=some (.tup (ks.map kV))):(tupleKind (xK P w)).is h ks a:=by
 obtain⟨_,its,r,o,h1,h2,n,h3,_⟩:=(show wB P w H h a (.tup (ks.map kV))from ok a _ e);exact⟨o,its.toArray,n,h1,h2,h3,by simpa using zeD r⟩
theorem qX {kvs:List (List z8×V)}(ok:xI P w H h)(e:Rd H a (.dT kvs)):kvs.length<=sizeLine/\(a==sysModules)=false/\
  ∃xs,KT H kvs xs/\h.DictOfH (tupleKind (xK P w)) a xs:=by
 obtain⟨z,y,xs,r,o,es,ep,h1,h2,h3,h4,h5⟩:=(show wB P w H h a (.dT kvs)from zfM ok e);refine⟨z,y,xs,r,o,es,ep,h1,h2,h3,h4,λx hx=> ?_,h5⟩;have all: ∀{l:List (List z8×V)} {m:List (List z8×Addr×Value)},KT H l m->∀x∈m,(tupleKind (xK P w)).is h x.1 x.2.1:=by
  intro l m q
  induction q with
  | nil=>intro x hx;exact nomatch hx
  | @cons p q ps qs hq t ih=>
   intro x hx;rcases List.mem_cons.mp hx with e | hx
   ·subst e
    exact qZ ok (by rw[<- hq.1];exact hq.2.1)
   ·exact ih x hx
 exact all r x hx
theorem zjb {kvs:List (List z8×V)}(ok:xI P w H h)(e:H a=some (.dT kvs)):kvs.length<=sizeLine/\(a==sysModules)=false/\
  ∃xs,KT H kvs xs/\h.DictOfH (tupleKind (xK P w)) a xs:=qX ok (.inl e)
end
def qN (H:Hp)(a:Addr)(y:V)(r:Option V):Prop:=
 (∃kvs k,Rd H a (.dK kvs)/\y=kV k/\r=u9 kvs k)∨∃kvs k b,Rd H a (.dT kvs)/\y= .ref b/\H b=some (.tup (k.map kV))/\r=u9 kvs k
def zht (H:Hp)(a:Addr)(y v:V)(H':Hp):Prop:=
 (∃kvs k,H a=some (.dK kvs)/\y=kV k/\kvs.length < sizeLine/\H'=zQ H a (.dK (wL kvs k v)))∨
 ∃kvs k b,H a=some (.dT kvs)/\y= .ref b/\H b=some (.tup (k.map kV))/\kvs.length < sizeLine/\H'=zQ H a (.dT (wL kvs k v))
section
variable {X:Cx} {pins:List (Addr×Obj)} {σ:St} {H:Hp} {s:Shared} {a:Addr} {y v:V} {u r:Value} {o:Option V} {A:Around} {E:Value->Shared->Prop}
theorem z5.big (I:z5 X pins σ H s):sysModules < s.heap.objs.size:=by
 have h:mainGlobals < s.heap.objs.size:=(I.mod.glob.keeps I.bk).lt;exact Nat.lt_trans (by decide) h
theorem ziR {Q:Value->Shared->Prop}(hu:A.units+1 < cLine)(I:z5 X pins σ H s)(g:qN H a y (some v))(ry:zS y u)(h: ∀w' s',z5 X pins σ H s'->zS v w'->Q w' s'):
  wpAny (model X.prog X.w) A (getItem (.ref a) u) Q E s:=by
 rcases g with⟨kvs,k,e,ey,l⟩ | ⟨kvs,k,b,e,ey,eb,l⟩
 ·subst ey
  obtain⟨z,hd,vs,rel,dd⟩:=rS I.hok e;obtain⟨w',hw,rw'⟩:=uV.some_of (v:=v) (o:=valueAt vs k) (by rw[l];exact rel.val k);exact wpAny_getItem_of (rZ ry) dd.mapOf hw (h w' _ (I.tok _) rw')
 ·subst ey
  cases(show u=Value.ref b from ry);obtain⟨z,hd,xs,rel,dd⟩:=qX I.hok e;obtain⟨w',hw,rw'⟩:=uV.some_of (v:=v) (o:=(atKey xs k).map (·.2)) (by rw[l];exact rel.val k);obtain⟨p,hp,hp2⟩:=Option.map_eq_some_iff.mp hw;refine wpAny_getItem_heap (tupleKind_room_in1 hu) (qZ I.hok eb) dd hp ?_;rw[hp2];exact h w' _ (I.tok _) rw'
theorem ziS {Q:Value->Shared->Prop}(hu:A.units+1 < cLine)(I:z5 X pins σ H s)(g:qN H a y o)(ry:zS y u)(h: ∀s',z5 X pins σ H s'->Q (.bool o.isSome) s'):
  wpAny (model X.prog X.w) A (compareOp .In u (.ref a)) Q E s:=by
 rcases g with⟨kvs,k,e,ey,l⟩ | ⟨kvs,k,b,e,ey,eb,l⟩
 ·subst ey
  obtain⟨z,hd,vs,rel,dd⟩:=rS I.hok e;refine wpAny_in_of (rZ ry) hd dd.mapOf ?_;rw[<- (rel.val k).isSome_eq,<- l];exact h _ (I.tok _)
 ·subst ey
  cases(show u=Value.ref b from ry);obtain⟨z,hd,xs,rel,dd⟩:=qX I.hok e;refine wpAny_in_heap (tupleKind_room_in1 hu) (qZ I.hok eb) hd dd ?_;have q:=(rel.val k).isSome_eq;rw[Option.isSome_map]at q;rw[<- q,<- l];exact h _ (I.tok _)
theorem ziU {Q:Value->Shared->Prop}(hu:A.units+1 < cLine)(I:z5 X pins σ H s)(g:qN H a y o)(ry:zS y u)(h: ∀s',z5 X pins σ H s'->Q (.bool (!o.isSome)) s'):
  wpAny (model X.prog X.w) A (compareOp .NotIn u (.ref a)) Q E s:=by
 rcases g with⟨kvs,k,e,ey,l⟩ | ⟨kvs,k,b,e,ey,eb,l⟩
 ·subst ey
  obtain⟨z,hd,vs,rel,dd⟩:=rS I.hok e;refine wpAny_notIn_of (rZ ry) hd dd.mapOf ?_;rw[<- (rel.val k).isSome_eq,<- l];exact h _ (I.tok _)
 ·subst ey
  cases(show u=Value.ref b from ry);obtain⟨z,hd,xs,rel,dd⟩:=qX I.hok e;refine wpAny_notIn_heap (tupleKind_room_in1 hu) (qZ I.hok eb) hd dd ?_;have q:=(rel.val k).isSome_eq;rw[Option.isSome_map]at q;rw[<- q,<- l];exact h _ (I.tok _)
theorem fC {h':Heap}{t':Nat}{ob:HO}(I:z5 X pins σ H s)(mu:nZ (H a))(hs:Heap.SameBut a s.heap h')(he: ∃q,h'.get? a=some q)(new:wB X.prog X.w (zQ H a ob) h' a ob):
  z5 X pins σ (zQ H a ob) {s with heap:=h',toks:=t'} :=
 I.write (x:=a) (e:=a) mu (.inl rfl) (λb q hb z=>(hs.2 b hb).trans z) he new
theorem zdb {P:Program}{w:World}{H':Hp}{h':Heap}{kvs:List (z8×V)}{vs:List (z8×Value)}(z:kvs.length<=sizeLine)(hd:(a==sysModules)=false)(rel:KV kvs vs)(dd:h'.DictOf (xK P w) a vs):
  wB P w H' h' a (.dK kvs):=⟨z,hd,vs,rel,dd⟩
theorem zcZ {H':Hp}{Q:Unit->Shared->Prop}(hu:A.units+1 < cLine)(I:z5 X pins σ H s)(g:zht H a y v H')(ry:zS y u)(rv:zS v r)(h: ∀s',z5 X pins σ H' s'->Q () s'):
  wpAny (model X.prog X.w) A (setItem (.ref a) u r) Q E s:=by
 rcases g with⟨kvs,k,e,ey,l,eH⟩ | ⟨kvs,k,b,e,ey,eb,l,eH⟩
 ·subst ey eH
  obtain⟨z,hd,vs,rel,dd⟩:=j0 I.hok e;have hz:vs.length<=sizeLine:=by rw[<- rel.length];exact z
  have hl:(wL kvs k v).length<=sizeLine:=by have:=jC kvs k v;omega
  refine wpAny_setItem_pairs (hsz:=hz) (rZ ry) dd λh' dd' hs=>h _ ?_;have he: ∃q,h'.get? a=some q:=let⟨q,_,_,hq,_⟩:=dd';⟨q,hq⟩;exact fC I (by rw[e];exact True.intro) hs he (zdb hl hd (rel.put k rv) dd')
 ·subst ey eH
  cases(show u=Value.ref b from ry);obtain⟨z,hd,xs,rel,dd⟩:=zjb I.hok e;have hz:xs.length<=sizeLine:=by rw[<- Paired.length rel];exact z
  have hl:(wL kvs k v).length<=sizeLine:=by have:=jC kvs k v;omega
  refine wpAny_setItem_heap (hsz:=hz) (tupleKind_room_in1 hu) (qZ I.hok eb) dd λh' dd' hs=>h _ ?_;obtain⟨q,es,ep,hq,h2,h3,h4,_,h5⟩:=dd';refine fC I (by rw[e];exact True.intro) hs ⟨q,hq⟩ ⟨hl,hd,_,(rel.put k eb rv).keeps λc ys ec=> ?_,q,es,ep,hq,h2,h3,h4,h5⟩;rw[yR (zlv ec e (λz=>nomatch z))];exact ec
end
section
variable {X:Cx} {pins:List (Addr×Obj)} {σ:St} {H:Hp} {s:Shared} {a:Addr} {kvs:List (z8×V)} {k:z8} {u:Value} {A:Around} {E:Value->Shared->Prop}
theorem ziT {Q:Value->Shared->Prop}(I:z5 X pins σ H s)(e:Rd H a (.dK kvs))(h: ∀t s',z5 X pins σ H s'->Q (.int kvs.length t) s'):wpAny (model X.prog X.w) A (call (.builtin "len") [.ref a]) Q E s:=by
 obtain⟨z,hd,vs,rel,dd⟩:=rS I.hok e;refine call_len_dict hd dd (by rw[<- rel.length];rw[sizeLine_eq]at z;omega) ?_;rw[<- rel.length];exact h _ _ (I.tok _)
end
theorem ziW {X:Cx}{pins:List (Addr×Obj)}{σ:St}{H:Hp}{s:Shared}{a:Addr}{y:V}{o:Option V}(I:z5 X pins σ H s)(g:qN H a y o):s.TypeIs (.ref a) "dict" :=by
 rcases g with⟨kvs,k,e,_,_⟩ | ⟨kvs,k,b,e,_,_,_⟩
 ·obtain⟨_,_,vs,_,dd⟩:=rS I.hok e
  exact dd.typeIs
 ·obtain⟨_,_,xs,_,dd⟩:=qX I.hok e
  exact dd.typeIs
section
variable {X:Cx} {o i e value:Expr} {pos pos' tpos:Pos} {td ty tv:TE}
end
theorem zda {P:Program}{w:World}{H:Hp}(h:Heap)(hb:sysModules < h.objs.size):wB P w H (h.push {cls:= .type "dict",data:= .dict #[]}) h.objs.size (.dK []):=
 ⟨Nat.zero_le _,beq_eq_false_iff_ne.mpr (Ne.symm (Nat.ne_of_lt hb)),[],.nil,Heap.DictOf.new h⟩
def zbK:TE:=λ_ H Q=> ∀p,H p=none->Q (.ref p) (zQ H p (.dK []))
section
variable {X:Cx} {pos:Pos}
theorem zaZ:PE X (.Dict [] [] pos) zbK:=⟨λpins s σ H Q I h=>
 wpAny_Dict_empty ⟨.ref s.heap.objs.size,_,I.laid (a:=s.heap.objs.size) (o:= .dK []) (t':=s.toks) (λ_ _ q=>Heap.get?_push_of_some _ q) (Nat.le_refl _) (zda s.heap I.big),rfl,h _ (I.hok.fresh (Nat.le_refl _))⟩⟩
end
def iA:List (TE×TE)->St->Hp->(List (V×V)->Hp->Prop)->Prop
 | [],_,H,Q=>Q [] H
 | (tk,tv)::r,σ,H,Q=>tk σ H λx H1=>tv σ H1 λy H2=>iA r σ H2 λps H3=>Q ((x,y)::ps) H3
abbrev VV:List (V×V)->List (Value×Value)->Prop:=Paired λp q=>zS p.1 q.1/\zS p.2 q.2
def sS (X:Cx)(pos:Pos)(keys:List (Option Expr))(values:List Expr)(trs:List (TE×TE)):Prop:=
 ∀(pins:List (Addr×Obj)) (s:Shared) (σ:St) (H:Hp) (Q:List (V×V)->Hp->Prop),z5 X pins σ H s->iA trs σ H Q->
  wpAny (model X.prog X.w) X.A (evalPairs (pairTrees keys values X.env pos)) (λvs s'=> ∃ps H',z5 X pins σ H' s'/\VV ps vs/\Q ps H') X.xe s
theorem zmX {X:Cx}{pos:Pos} :sS X pos [] [] []:=λpins s σ H Q I h=>pairTrees_nil_walk ⟨[],H,I,.nil,h⟩
theorem zmW {X:Cx}{pos:Pos}{k v:Expr}{ks:List (Option Expr)}{vs:List Expr}{tk tv:TE}{trs:List (TE×TE)}(hk:PE X k tk)(hv:PE X v tv)(hr:sS X pos ks vs trs):
  sS X pos (some k::ks) (v::vs) ((tk,tv)::trs):=λpins s σ H Q I h=>
 pairTrees_cons_walk (y0 (hk pins s σ H _ I h) λu s1 ⟨x,H1,I1,rx,q1⟩=>y0 (hv pins s1 σ H1 _ I1 q1) λw2 s2 ⟨y,H2,I2,ry,q2⟩=>
  y0 (hr pins s2 σ H2 _ I2 q2) λws s3 ⟨ps,H3,I3,rel,q3⟩=>⟨(x,y)::ps,H3,I3,.cons ⟨rx,ry⟩ rel,q3⟩)
def sK (kvs more:List (z8×V)):List (z8×V):=more.foldl (λacc kv=>wL acc kv.1 kv.2) kvs
theorem KV.merge: ∀{more:List (z8×V)} {rs:List (z8×Value)} {kvs:List (z8×V)} {vs:List (z8×Value)},KV more rs->KV kvs vs->KV (sK kvs more) (merged vs rs):=by
 intro more rs kvs vs r;unfold KV at r
 induction r generalizing kvs vs with
 | nil=>intro q;exact q
 | @cons p q ps qs h t ih=>
  intro r0;have e:KV (wL kvs p.1 p.2) (stored vs q.1 q.2):=by
   have:=r0.put p.1 h.2;rw[<- h.1];exact this
  exact ih e
theorem zaD: ∀(more kvs:List (z8×V)),(sK kvs more).length<=kvs.length+more.length
 | [],kvs=>by show kvs.length<=kvs.length+0;omega
 | p::r,kvs=>by
  have h1:=zaD r (wL kvs p.1 p.2);have h2:=jC kvs p.1 p.2;show(sK (wL kvs p.1 p.2) r).length<=_;rw[List.length_cons];omega
theorem zcP {P:Program}{w:World} : ∀{kvs:List (z8×V)} {ws:List (Value×Value)},VV (kvs.map λkv=>(kV kv.1,kv.2)) ws->∃rs,Carries (xK P w) ws rs/\KV kvs rs
 | [],_,r=>by rw[List.map_nil]at r;cases r;exact⟨[],True.intro,.nil⟩
 | p::kvs,_,r=>by
  rw[List.map_cons]at r;cases r with
  | @cons a b as bs h t=>
   obtain⟨rs,c,q⟩:=zcP (P:=P) (w:=w) t;obtain⟨b1,b2⟩:=b;exact⟨(p.1,b2)::rs,⟨rZ h.1,rfl,c⟩,.cons ⟨rfl,h.2⟩ q⟩
def zox (trs:List (TE×TE)):TE:=λσ H Q=> ∀p,H p=none->iA trs σ (zQ H p (.dK [])) λps H2=>H2 p=some (.dK [])/\∃kvs:List (z8×V),ps=kvs.map (λkv=>(kV kv.1,kv.2))/\kvs.length<=15/\Q (.ref p) (zQ H2 p (.dK (sK [] kvs)))
theorem zf1 {X:Cx}{pos:Pos}{keys:List (Option Expr)}{values:List Expr}{trs:List (TE×TE)}(h:sS X pos keys values trs)(hall:keys.all (·.isSome)=true)(hl:keys.length=values.length)(h0:keys≠ [])
  (h15:keys.length<=15):PE X (.Dict keys values pos) (zox trs):=by
 (first | refine⟨?_⟩ | skip)
 intro pins s σ H Q I q;have hn:=I.hok.fresh (Nat.le_refl s.heap.objs.size);have I1:=I.laid (a:=s.heap.objs.size) (o:= .dK []) (h':=s.heap.push {cls:= .type "dict",data:= .dict #[]}) (t':=s.toks) (λ_ _ q=>Heap.get?_push_of_some _ q) (Nat.le_refl _) (zda s.heap I.big);refine wpAny_Dict_walk (knd:=xK X.prog X.w) hall hl h0 h15 (y0 (h pins _ σ _ _ I1 (q _ hn)) λws s2 ⟨ps,H2,I2,rel,e,kvs,ep,lk,q2⟩=> ?_);subst ep;obtain⟨rs,c,rk⟩:=zcP (P:=X.prog) (w:=X.w) rel;obtain⟨z,hd,vs0,r0,dd⟩:=j0 I2.hok e;cases r0;refine⟨rs,c,dd,λh' dd' hs=>⟨.ref s.heap.objs.size,_,?_,rfl,q2⟩⟩;have hz:(sK [] kvs).length<=sizeLine:=by
  have h1:=zaD kvs [];rw[List.length_nil]at h1;rw[sizeLine_eq];omega
 have he: ∃q,h'.get? s.heap.objs.size=some q:=let⟨q,_,_,hq,_⟩:=dd';⟨q,hq⟩;exact fC I2 (by rw[e];exact True.intro) hs he (zdb hz hd (rk.merge .nil) dd')
section
variable {X:Cx} {pins:List (Addr×Obj)} {σ:St} {H:Hp} {s:Shared} {a:Addr} {y d:V} {u r:Value} {o:Option V} {A:Around} {E:Value->Shared->Prop}
theorem ziP {Q:Value->Shared->Prop}(hu:A.units+1 < cLine)(I:z5 X pins σ H s)(g:qN H a y o)(ry:zS y u)(h: ∀w' s',z5 X pins σ H s'->zS (o.getD .non) w'->Q w' s'):
  wpAny (model X.prog X.w) A (call (.builtin "dict.get") [.ref a,u]) Q E s:=by
 rcases g with⟨kvs,k,e,ey,l⟩ | ⟨kvs,k,b,e,ey,eb,l⟩
 ·subst ey
  obtain⟨z,hd,vs,rel,dd⟩:=rS I.hok e;refine call_meetsIn PySem.F.slot_dict_get dd.typeIs PySem.F.entry_dict_get (PySem.F.args_dict_get_2 _ _) (meets_dict_get (xK X.prog X.w) a (rZ ry) hd) ⟨_,dd.mapOf,h _ _ (I.tok _) ?_⟩;rw[l];exact(rel.val k).getD rfl
 ·subst ey
  cases(show u=Value.ref b from ry);obtain⟨z,hd,xs,rel,dd⟩:=qX I.hok e;refine call_meetsIn PySem.F.slot_dict_get dd.typeIs PySem.F.entry_dict_get (PySem.F.args_dict_get_2 _ _) (meetsH_dict_get (tupleKind (xK X.prog X.w)) a b hd) ⟨tupleKind_room_in1 hu,k,xs,qZ I.hok eb,dd,h _ _ (I.tok _) ?_⟩;rw[l];exact(rel.val k).getD rfl
theorem ziQ {Q:Value->Shared->Prop}(hu:A.units+1 < cLine)(I:z5 X pins σ H s)(g:qN H a y o)(ry:zS y u)(rd:zS d r)(h: ∀w' s',z5 X pins σ H s'->zS (o.getD d) w'->Q w' s'):
  wpAny (model X.prog X.w) A (call (.builtin "dict.get") [.ref a,u,r]) Q E s:=by
 rcases g with⟨kvs,k,e,ey,l⟩ | ⟨kvs,k,b,e,ey,eb,l⟩
 ·subst ey
  obtain⟨z,hd,vs,rel,dd⟩:=rS I.hok e;refine call_meetsIn PySem.F.slot_dict_get dd.typeIs PySem.F.entry_dict_get (PySem.F.args_dict_get_3 _ _ _) (meets_dict_get_default (xK X.prog X.w) a (rZ ry) hd r) ⟨_,dd.mapOf,h _ _ (I.tok _) ?_⟩;rw[l];exact(rel.val k).getD rd
 ·subst ey
  cases(show u=Value.ref b from ry);obtain⟨z,hd,xs,rel,dd⟩:=qX I.hok e;refine call_meetsIn PySem.F.slot_dict_get dd.typeIs PySem.F.entry_dict_get (PySem.F.args_dict_get_3 _ _ _) (meetsH_dict_get_default (tupleKind (xK X.prog X.w)) a b hd r) ⟨tupleKind_room_in1 hu,k,xs,qZ I.hok eb,dd,h _ _ (I.tok _) ?_⟩;rw[l];exact(rel.val k).getD rd
end
section
variable {X:Cx} {o e f:Expr} {apos cpos:Pos} {td ty tx:TE}
end
section
variable {X:Cx} {pins:List (Addr×Obj)} {σ:St} {H:Hp} {s:Shared} {a:Addr} {kvs:List (z8×V)} {A:Around} {E:Value->Shared->Prop}
end
section
variable {X:Cx} {pins:List (Addr×Obj)} {σ:St} {H:Hp} {s:Shared} {a:Addr} {y:V} {u:Value} {A:Around} {E:Value->Shared->Prop}
end
end L2
namespace L2
open PySem PySem.Spec PyProof.Rows
section
variable {X:Cx}
theorem ziA:wF X (.builtin "len") (λxs H Q=> ∃a kvs,xs= [V.ref a]/\H a=some (.dK kvs)/\Q (.int kvs.length) H):=by
 (first | refine⟨?_⟩ | skip)
 intro pins s σ H xs us Q I r h;obtain⟨a,kvs,rfl,ha,q⟩:=h;obtain⟨u,rfl,ru⟩:=tW r;cases ru;exact ziT I (.inl ha) λt s' I'=>⟨.int kvs.length,H,I',⟨t,rfl⟩,q⟩
end
section
variable {κ:Type} [DecidableEq κ]
end
end L2
set_option maxHeartbeats 4000000
namespace L2
open PySem PySem.Spec PyProof.Rows
theorem za5 {X:Cx}{pins:List (Addr×Obj)}{σ:St}{H:Hp}{s:Shared}{D:Addr}{o:HO}(I:z5 X pins σ H s)(hn:H D=none)(hs:X.s₀.heap.objs.size<=D)(hL:D≠X.env.locals)
  (hc: ∀x c,X.env.cells.lookup x=some c->c≠D) (hp: ∀p∈X.pn++pins,p.1≠D) (new:wB X.prog X.w (zQ H D o) s.heap D o):z5 X pins σ (zQ H D o) s:=by
 have low: ∀{b:Addr} {u:Obj},X.s₀.heap.get? b=some u->b≠D:=λe=>Nat.ne_of_lt (Nat.lt_of_lt_of_le (Heap.lt_size e) hs);refine⟨I.ok,I.os,I.bare,⟨I.base.keep,I.base.slot,λb u e n hx=> ?_,I.base.there,λb xs e=> ?_,λb u v e=> ?_,λb ps e=> ?_⟩,I.loc,I.cell,?_,λx c e=> ?_,λp hm=> ?_,λb u e=> ?_,I.len⟩
 ·rw[yR (low e)];exact I.base.free b u e n hx
 ·have q:=I.base.tups b xs e
  rw[yR (tP q hn)];exact q
 ·have q:=I.base.frzs b u v e
  rw[yR (tP q hn)];exact q
 ·obtain⟨more,q⟩:=I.base.tbls b ps e
  exact⟨more,by rw[yR (tP q hn)];exact q⟩
 ·rw[yR (Ne.symm hL)];exact I.free
 ·rw[yR (hc x c e)];exact I.freeC x c e
 ·obtain⟨e,n,r⟩:=I.pin p hm
  exact⟨e,by rw[yR (hp p hm)];exact n,r⟩
 ·by_cases hb:b=D
  ·subst hb;rw[x9]at e;cases e;exact new
  ·rw[yR hb]at e
   exact(I.hok b u e).stay (λc v _ q=>q) (λc q=>by rw[yR (tP q hn)];exact q) λc xs q=>by rw[yR (tP q hn)];exact q
theorem zjZ {α β:Type}{l:List α}{f:α->β->Sem (ForInStep β)}{g:α->β->β}(h: ∀x∈l,∀b,f x b=pure (.yield (g x b)))(b:β):forIn l b f=pure (l.foldl (λb x=>g x b) b):=by
 induction l generalizing b with
 | nil=>rfl
 | cons x l ih=>
  rw[List.forIn_cons,h x List.mem_cons_self,pure_bind];exact ih (λy hy=>h y (List.mem_cons_of_mem _ hy)) _
def qU (cells:List (Str×Addr))(p:Str×NameKind)(cs:List (Str×Addr)):List (Str×Addr):=if p.2== .free then(p.1,(cells.lookup p.1).getD 0)::cs else cs
def uB (names:List (Str×NameKind))(cells:List (Str×Addr)):List (Str×Addr):=names.foldl (λcs p=>qU cells p cs) []
theorem zcW {scope:Scope}{env:Env}(h: ∀p∈scope.names,p.2= .free->∃c,env.cells.lookup p.1=some c):closureFor scope env=pure (uB scope.names env.cells):=by
 unfold closureFor;dsimp only;rw[zjZ (g:=λp cs=>qU env.cells p cs) (λp hp cs=> ?_)]
 ·rfl
 ·obtain⟨n,k⟩:=p
  unfold qU;by_cases hk:k= .free
  ·obtain⟨c,e⟩:=h _ hp hk
   subst hk;simp only[cellOf,e,beq_self_eq_true,if_true,Option.getD_some]
   rfl
  ·have:(k==NameKind.free)=false:=by simpa using hk
   simp only[this,Bool.false_eq_true,if_false]
theorem zeS {cells:List (Str×Addr)} : ∀(names:List (Str×NameKind)) (acc:List (Str×Addr)) (p:Str×Addr),p∈names.foldl (λcs q=>qU cells q cs) acc->p∈acc∨((p.1,NameKind.free)∈names/\p.2=(cells.lookup p.1).getD 0)
 | [],acc,p,h=> .inl h
 | q::r,acc,p,h=>by
  rw[List.foldl_cons]at h;rcases zeS r _ p h with h | ⟨h1,h2⟩
  ·unfold qU at h
   obtain⟨n,k⟩:=q
   split at h
   ·rename_i hk
    rcases List.mem_cons.mp h with e | h
    ·refine .inr ⟨?_,by rw[e]⟩
     have hk':k= .free:=by simpa using hk
     rw[e,hk'];exact List.mem_cons_self
    ·exact .inl h
   ·exact .inl h
  ·exact .inr ⟨List.mem_cons_of_mem _ h1,h2⟩
theorem zcS {cells:List (Str×Addr)}{x:Str} : ∀(names:List (Str×NameKind)) (acc:List (Str×Addr)),((x,NameKind.free)∈names∨∃c,(x,c)∈acc)->∃c,(x,c)∈names.foldl (λcs q=>qU cells q cs) acc
 | [],acc,h=>by
  rcases h with h | h
  ·cases h
  ·exact h
 | q::r,acc,h=>by
  rw[List.foldl_cons];refine zcS r _ ?_;rcases h with h | ⟨c,h⟩
  ·rcases List.mem_cons.mp h with e | h
   ·refine .inr ⟨(cells.lookup x).getD 0,?_⟩
    rw[<- e];show _∈(if(NameKind.free==NameKind.free)=true then _ else _);rw[if_pos (by rfl)];exact List.mem_cons_self
   ·exact .inl h
  ·refine .inr ⟨c,?_⟩
   unfold qU
   split
   ·exact List.mem_cons_of_mem _ h
   ·exact h
theorem zeO {β:Type}{x:Str} : ∀{l:List (Str×β)} {c:β},(x,c)∈l->∃d,l.lookup x=some d
 | [],_,h=>nomatch h
 | (y,d)::r,c,h=>by
  rw[List.lookup_cons];by_cases e:x=y
  ·subst e;exact⟨d,by simp⟩
  ·rcases List.mem_cons.mp h with q | q
   ·cases q;exact absurd rfl e
   ·obtain⟨d',q'⟩:=zeO q
    have:(x==y)=false:=by simpa using e
    rw[this];exact⟨d',q'⟩
theorem zcT {names:List (Str×NameKind)}{cells:List (Str×Addr)}{x:Str}{c:Addr}(h:(uB names cells).lookup x=some c):(x,NameKind.free)∈names/\c=(cells.lookup x).getD 0:=by
 rcases zeS names [] (x,c) (PySem.mem_of_lookup h)with h | h
 ·cases h
 ·exact h
theorem zcU {names:List (Str×NameKind)}{cells:List (Str×Addr)}{x:Str}(h:(x,NameKind.free)∈names):(uB names cells).lookup x=some ((cells.lookup x).getD 0):=by
 obtain⟨c,hc⟩:=zcS (cells:=cells) names [] (.inl h);obtain⟨d,hd⟩:=zeO hc;rw[show(uB names cells).lookup x=some d from hd,(zcT hd).2]
abbrev xC (X:Cx)(scope:Scope)(Nc:List Str)(C:Addr)(s:Shared)(H:Hp)(fp:List Addr)(pins:List (Addr×Obj)):Cx:=
 {X with N:=Nc,s₀:=s,H₀:=H,env:=compEnvC scope (uB scope.names X.env.cells) C X.env,outer:=X.stack,stack:=X.stack,ex:=fp,fn:=λ_=>false,pn:=X.pn++pins,xe:=λ_ _=>False}
structure tG (X:Cx)(scope:Scope)(N' own:List Str):Prop where
 kind:scope.kind= .function
 nocell: ∀y∈scope.names,y.2≠ .cell
 names: ∀y∈scope.names,y.2= .local->scope.names.lookup y.1=some .local
 frees: ∀y∈scope.names,y.2= .free->X.env.scope.names.lookup y.1=some .cell∨X.env.scope.names.lookup y.1=some .free
 len:N'.length=X.N.length
 pre: ∀(i:Nat) (y:Str),N'[i]?=some y->X.N[i]?=some y∨(y,NameKind.free)∉scope.names
 nol: ∀y∈N',scope.names.lookup y≠some .local
theorem jU {env:Env}{x:Str} : ∀{names:List (Str×NameKind)} {k:NameKind},
  (names.map λ(n,k)=>if(k==NameKind.free&&env.scope.kind== .function&&env.kindOf n==some .cell)then(n,NameKind.cell)else(n,k)).lookup x=some k->
  names.lookup x=some k∨(k= .cell/\names.lookup x=some .free)
 | [],k,h=>by simp at h
 | (n,j)::r,k,h=>by
  have h':List.lookup x ((if(j==NameKind.free&&env.scope.kind== .function&&env.kindOf n==some .cell)=true then(n,NameKind.cell)else(n,j))::
   r.map λ(n,k)=>if(k==NameKind.free&&env.scope.kind== .function&&env.kindOf n==some .cell)then(n,NameKind.cell)else(n,k))=some k:=h
  cases hx:x==n with
  | true=>
   by_cases hc:(j==NameKind.free&&env.scope.kind== .function&&env.kindOf n==some .cell)=true
   ·rw[if_pos hc]at h'
    simp only[List.lookup_cons,hx]at h'⊢
    simp only[Bool.and_eq_true,beq_iff_eq]at hc;cases h';exact .inr ⟨rfl,by rw[hc.1.1]⟩
   ·rw[if_neg hc]at h'
    simp only[List.lookup_cons,hx]at h'⊢
    exact .inl h'
  | false=>
   have q:(r.map λ(n,k)=>if(k==NameKind.free&&env.scope.kind== .function&&env.kindOf n==some .cell)then(n,NameKind.cell)else(n,k)).lookup x=some k:=by
    by_cases hc:(j==NameKind.free&&env.scope.kind== .function&&env.kindOf n==some .cell)=true
    ·rw[if_pos hc]at h';simpa only[List.lookup_cons,hx]using h'
    ·rw[if_neg hc]at h';simpa only[List.lookup_cons,hx]using h'
   simp only[List.lookup_cons,hx];exact jU q
section
variable {X:Cx} {pins:List (Addr×Obj)} {σ:St} {H:Hp} {s:Shared} {scope:Scope} {N' own:List Str}
theorem tG.cells (S:tG X scope N' own)(I:z5 X pins σ H s): ∀p∈scope.names,p.2= .free->∃c,X.env.cells.lookup p.1=some c:=λp hp hk=>I.ok.has p.1 (S.frees p hp hk)
theorem sV (S:tG X scope N' own)(I:z5 X pins σ H s){x:Str}{c:Addr}(h:(uB scope.names X.env.cells).lookup x=some c):X.env.cells.lookup x=some c:=by
 obtain⟨hm,e⟩:=zcT h;obtain⟨d,hd⟩:=S.cells I _ hm rfl;rw[hd]at e;rw[hd,e]
 rfl
theorem ze9 (S:tG X scope N' own)(I:z5 X pins σ H s){C D:Addr}{oD:Obj}{fp:List Addr}{h4:Heap}{tk:Nat}{m:Str->Option Value}(k: ∀b u,s.heap.get? b=some u->h4.get? b=some u)(hC:s.heap.objs.size<=C)(hD:s.heap.objs.size<=D)(hDC:D≠C)(eD:h4.get? D=some oD)(cD: ∀v,oD.data≠ .cell v)
  (ns:h4.Ns C m) (ff: ∀b∈fp,tY X pins H b) (fl: ∀b∈fp,b < s.heap.objs.size):
  z5 (xC X scope (N'++own) C s H fp pins) [(D,oD)] (σ++List.replicate own.length none) H {s with heap:=h4,toks:=tk} :=by
 have nostk: ∀{b:Addr},s.heap.objs.size<=b->b∉vK X.stack:=λ{b} hb hm=>by
  rcases List.mem_cons.mp (I.stkSub b hm)with e | hm
  ·rw[e]at hb;exact absurd (Nat.lt_of_lt_of_le I.lt hb) (Nat.lt_irrefl _)
  ·exact I.nofs hb hm
 have lk: ∀x,((compEnvC scope (uB scope.names X.env.cells) C X.env).kindOf x=some .cell∨(compEnvC scope (uB scope.names X.env.cells) C X.env).kindOf x=some .free)->(x,NameKind.free)∈scope.names:=λx hx=>by
  have q:scope.names.lookup x=some .cell∨scope.names.lookup x=some .free:=by
   rcases hx with hx | hx
   ·rcases jU (env:=X.env) (names:=scope.names) hx with q | ⟨_,q⟩
    ·exact .inl q
    ·exact .inr q
   ·rcases jU (env:=X.env) (names:=scope.names) hx with q | ⟨z,_⟩
    ·exact .inr q
    ·cases z
  rcases q with q | q
  ·exact absurd rfl (S.nocell _ (PySem.mem_of_lookup q))
  ·exact PySem.mem_of_lookup q
 refine⟨⟨I.ok.mod,S.kind,I.ok.glob,I.ok.blt,hC,λx y c h1 h2=> ?_,λx hx=> ?_,λx c h=> ?_,I.ok.hd,I.ok.frames,.inl rfl,λb hb=>⟨?_,λx c h=> ?_⟩,I.bs,Nat.le_trans I.ok.bsz I.sz,λb o e hb=> ?_,λb hb hm=> ?_,I.stack,I.stkFree⟩,
  rfl,I.bare,Un.kept k,⟨m,ns,λi x v e1 e2 e3=> ?_⟩,λx c h=> ?_,I.hok.fresh hC,λx c h=> ?_,λp hp=> ?_,I.hok.kept k,?_⟩
 ·exact I.ok.inj x y c (sV S I h1) (sV S I h2)
 ·exact⟨_,zcU (lk x hx)⟩
 ·cases h
 ·have:=fl b hb;intro e;rw[e]at this;exact absurd (Nat.lt_of_lt_of_le this hC) (Nat.lt_irrefl _)
 ·exact(ff b hb).2.2.2.2.1 x c (sV S I h)
 ·rcases(ff b hb).2.2.2.1 with z | z
  ·exact I.ok.noex b o e z
  ·exact absurd (Nat.lt_of_lt_of_le (Heap.lt_size e) (Nat.le_trans I.ok.bsz z)) (Nat.lt_irrefl _)
 ·rcases List.mem_cons.mp (I.stkSub b hm)with e | hm
  ·exact(ff b hb).2.1 e
  ·exact(ff b hb).2.2.1 hm
 ·-- names
  have hi:i < σ.length:=by
   by_cases hi:i < σ.length
   ·exact hi
   ·rw[List.getElem?_append_right (by omega),List.getElem?_replicate]at e2
    split at e2 <;> cases e2
  rw[List.getElem?_append_left hi]at e2;have hN:N'[i]?=some x:=by
   have e1':(N'++own)[i]?=some x:=e1;rw[List.getElem?_append_left (by rw[S.len,<- I.len];exact hi)]at e1';exact e1'
  have e3':((compEnvC scope (uB scope.names X.env.cells) C X.env).kindOf x=some .cell∨(compEnvC scope (uB scope.names X.env.cells) C X.env).kindOf x=some .free)∨(compEnvC scope (uB scope.names X.env.cells) C X.env).kindOf x=some .local:=by
   rcases e3 with z | z | z
   ·exact .inr z
   ·exact .inl (.inl z)
   ·exact .inl (.inr z)
  rcases e3' with e3' | e3'
  ·have hm:=lk x e3'
   rcases S.pre i x hN with hX | hX
   ·have fr:=S.frees _ hm rfl
    obtain⟨m0,hn0,hl0⟩:=I.loc;obtain⟨u,r,l⟩:=hl0 i x v hX e2 (by rcases fr with z | z;exact .inr (.inl z);exact .inr (.inr z));refine⟨u,r,.inr ⟨e3',?_⟩⟩;rcases l with⟨z,_⟩ | ⟨_,c,ec,⟨o,ho,hd⟩⟩
    ·rcases fr with f | f <;> (have z':X.env.scope.names.lookup x=some .local:=z;rw[f]at z';cases z')
    ·refine⟨c,?_,⟨o,k _ _ ho,hd⟩⟩
     show(uB scope.names X.env.cells).lookup x=some c;rw[zcU hm,ec]
     rfl
   ·exact absurd hm hX
  ·-- a local of the block among the outer names:hidden
   rcases jU (env:=X.env) (names:=scope.names) e3' with q | ⟨z,_⟩
   ·exact absurd q (S.nol x (List.mem_of_getElem? hN))
   ·cases z
 ·obtain⟨v,o,ho,hd⟩:=I.cell x c (sV S I h)
  exact⟨v,o,k _ _ ho,hd⟩
 ·exact I.freeC x c (sV S I h)
 ·have hp':p∈(X.pn++pins)++ [(D,oD)]:=hp
  rcases List.mem_append.mp hp' with hp' | hp'
  ·obtain⟨e,n,ne,nf,d⟩:=I.pin p hp'
   refine⟨k _ _ e,n,Nat.ne_of_lt (Nat.lt_of_lt_of_le (Heap.lt_size e) hC),λhm=> ?_,d⟩;rcases List.mem_cons.mp (I.stkSub p.1 hm)with z | z
   ·exact ne z
   ·exact nf z
  ·have e:p=(D,oD):=by simpa using hp'
   subst e;exact⟨eD,I.hok.fresh hD,hDC,nostk hD,cD⟩
 ·show(σ++List.replicate own.length none).length=(N'++own).length
  rw[List.length_append,List.length_append,List.length_replicate,S.len,I.len]
abbrev fB (ifs:List Expr)(env:Env):Sem Bool:=forIn ifs true λc r=>if r=true then do let ok <- isTrue c env (eval c env);pure (ForInStep.yield ok)else pure (ForInStep.yield r)
theorem zcX {prog:Program}{w:World}{A:Around}{R:Result->Shared->Prop}{s:Shared}{elt target iter:Expr}{ifs:List Expr}{scope:Scope}{pos:Pos}{it acc:Value}{env:Env}(I:Nat->Shared->Prop)
  (turn: ∀n s,I n s->wpAny (model prog w) A (pyNext it) (λr s₁=>match r with
   | none=>R (.ok .next) s₁
   | some v=>wpAny (model prog w) A (letOwnedTupleGo target it v) (λ_ s₁'=>wpAny (model prog w) A (assign target env v) (λ_ s₂=>
     wpAny (model prog w) A (fB ifs env) (λok s₃=>
      if ok=true then wpAny (model prog w) A (eval elt env) (λx s₄=>
       wpAny (model prog w) A (call (.builtin "list.append") [acc,x]) (λ_ s₅=> ∃m,m < n/\I m s₅) (notedBy (model prog w) A env λe s'=>R (.error e) s') s₄) (notedBy (model prog w) A env λe s'=>R (.error e) s') s₃
      else ∃m,m < n/\I m s₃) (notedBy (model prog w) A env λe s'=>R (.error e) s') s₂) (notedBy (model prog w) A env λe s'=>R (.error e) s') s₁') (notedBy (model prog w) A env λe s'=>R (.error e) s') s₁) (notedBy (model prog w) A env λe s'=>R (.error e) s') s)
  (n:Nat) (h:I n s):
  codeAny (model prog w) A (.compLoop (.ListComp elt [⟨target,iter,ifs,0⟩] scope pos) 0 it acc env) R s:=by
 refine codeAny_loop rfl I (λn s hI=> ?_) n h;show wpAny _ A ((compTurn (.ListComp elt [⟨target,iter,ifs,0⟩] scope pos) 0 it acc env).onRaise (λx=>do noteFrame x env;theTreesLotGoes x)) _ _ s;refine wpAny_noted ?_;rw[compTurn_list];refine wpAny_bind (wpAny_standAt (wpAny_bind (wpAny_mono (turn n s hI) (λr s₁ h₁=> ?_) λ_ _ h'=>h')));cases r with
 | none=>exact wpAny_pure h₁
 | some v=>
  refine wpAny_bind (wpAny_mono h₁ (λ_ s₁' h₁'=> ?_) λ_ _ h'=>h');refine wpAny_bind (wpAny_mono h₁' (λ_ s₂ h₂=>wpAny_bind (wpAny_mono h₂ (λok s₃ h₃=> ?_) λ_ _ h'=>h')) λ_ _ h'=>h');cases ok with
  | false=>exact wpAny_pure ⟨rfl,h₃⟩
  | true=>
   exact wpAny_bind (wpAny_bind (wpAny_mono h₃ (λx s₄ h₄=>wpAny_bind (wpAny_mono h₄ (λ_ s₅ h₅=>wpAny_pure (wpAny_pure ⟨rfl,h₅⟩)) λ_ _ h'=>h')) λ_ _ h'=>h'))
structure PF (X:Cx)(ifs:List Expr)(t:TT):Prop where
 run:
  ∀(pins:List (Addr×Obj)) (s:Shared) (σ:St) (H:Hp) (Q:Bool->Hp->Prop),z5 X pins σ H s->t σ H Q->wpAny (model X.prog X.w) X.A (fB ifs X.env) (TP X pins σ Q) X.xe s
instance {X:Cx} {ifs:List Expr} {t:TT} :CoeFun (PF X ifs t) λ_=>
 ∀(pins:List (Addr×Obj)) (s:Shared) (σ:St) (H:Hp) (Q:Bool->Hp->Prop),z5 X pins σ H s->t σ H Q->wpAny (model X.prog X.w) X.A (fB ifs X.env) (TP X pins σ Q) X.xe s
  :=⟨PF.run⟩
def zoE:TT:=λ_ H Q=>Q true H
theorem zmF {X:Cx} :PF X [] zoE:=⟨λ_ _ _ H _ I h=>wpAny_tests_nil ⟨H,I,h⟩⟩
theorem zmG {X:Cx}{c:Expr}{t:TT}(h:PT X c t):PF X [c] t:=⟨λpins s σ H Q I q=>wpAny_tests_one (h pins s σ H Q I q)⟩
theorem oW {α:Type}{M:Model}{A:Around}{E:Value->Shared->Prop}{s:Shared}{t:Sem α}{Q Q':α->Shared->Prop}(h:wpAny M A t Q (λ_ _=>False) s)(k: ∀a s,Q a s->Q' a s):wpAny M A t Q' E s:=wpAny_mono h k λ_ _ z=>z.elim
def zcb (own:Nat)(J:It)(g:TG)(tt:TT)(te:TE)(Q:VK)(σ:St)(H1:Hp):Prop:= ∃W:Nat->Nat->List V->St->Hp->Prop,(∃m,W 0 m [] (σ++List.replicate own none) H1)/\∀i m ys σ' H',W i m ys σ' H'->
 (J.stop i H'/\ys.length<=sizeLine/\∀D,H' D=none->Q (.ref D) (zQ H' D (.lst ys)))∨
 (J.go i H'/\ys.length < sizeLine/\∃N:List V->St->Hp->Prop,(∀ys σ3 H3,N ys σ3 H3->∃m',m' < m/\W (i+1) m' ys σ3 H3)/\
  ∀x H2,J.yld i H' x H2->g x σ' H2 λσ3 H3=>tt σ3 H3 λb H4=>if b=true then te σ3 H4 λy H5=>N (ys++ [y]) σ3 H5 else N ys σ3 H4)
def i9 (own:Nat)(wi:TI)(g:TG)(tt:TT)(te:TE):TE:=λσ H Q=>wi σ H λJ H1=>zcb own J g tt te Q σ H1
theorem zf0 {elt target iter:Expr}{ifs:List Expr}{pos:Pos}{wi:TI}{g:TG}{tt:TT}{te:TE}(S:tG X scope N' own)(hc:X.calm=true)(hi:PI X target iter wi)
  (hg: ∀C s H fp pins,PG (xC X scope (N'++own) C s H fp pins) target g) (ht: ∀C s H fp pins,PF (xC X scope (N'++own) C s H fp pins) ifs tt) (he: ∀C s H fp pins,PE (xC X scope (N'++own) C s H fp pins) elt te)
  (hs: ∀x,foldedSetIterable iter X.env x=pure x:=by intro _;rfl):
  PE X (.ListComp elt [⟨target,iter,ifs,0⟩] scope pos) (i9 own.length wi g tt te):=by
 (first | refine⟨?_⟩ | skip)
 intro pins s σ H Q I h;rw[eval_ListComp];refine wpAny_comprehension_free (use:=none) rfl hs (zcW (S.cells I)) S.kind S.names ?_;refine y0 (hi pins s σ H _ I h) λv s1 h1=>y0 h1 λitv s2 h2=> ?_;obtain⟨it,fp,tn,J,H2,e,I2,T,st2,f2,W,⟨m0,w0⟩,turn⟩:=h2;subst e;have fl: ∀b∈fp,b < s2.heap.objs.size:=λb hb=>by obtain⟨o,e,_⟩:=T.obj _ _ st2 b hb;exact Heap.lt_size e
 refine wpAny_newObj_type (wpAny_newFunctionEnv S.nocell (by intro y hy;simp at hy) (λh4 ns4 sb4=> ?_) S.kind);dsimp only at ns4 sb4⊢
 generalize hH3:s2.heap.push {cls:= .type "list",dict:=none,data:= .seq ([]:List Value).toArray} =h3 at ns4 sb4⊢
 have hC:h3.objs.size=s2.heap.objs.size+1:=by rw[<- hH3,Heap.size_push]
 have hDC:s2.heap.objs.size≠h3.objs.size:=by rw[hC];exact Nat.ne_of_lt (Nat.lt_succ_self _)
 have hCle:s2.heap.objs.size<=h3.objs.size:=by rw[hC];exact Nat.le_succ _
 have eD3:h3.get? s2.heap.objs.size=some {cls:= .type "list",data:= .seq ([]:List Value).toArray} :=hH3▸Heap.get?_push_size _ rfl;have k4: ∀b u,s2.heap.get? b=some u->h4.get? b=some u:=λb u e=>
  (sb4.2 b (Nat.ne_of_lt (Nat.lt_of_lt_of_le (Heap.lt_size e) hCle))).trans (Heap.get?_push_of_some _ (hH3▸Heap.get?_push_of_some _ e))
 have eD4:h4.get? s2.heap.objs.size=some {cls:= .type "list",data:= .seq ([]:List Value).toArray} :=(sb4.2 _ hDC).trans (Heap.get?_push_of_some _ eD3);generalize hDd:s2.heap.objs.size=D at *;generalize hCd:h3.objs.size=C at *;have I4:=ze9 S I2 (C:=C) (D:=D) (fp:=fp) (h4:=h4) (tk:=s2.toks+([]:List (Str×Value)).length) k4 (by rw[hDd];exact hCle) (by rw[hDd];exact Nat.le_refl _) hDC eD4 (by intro v z;cases z) ns4 f2 (by rw[hDd];exact fl);have lowC: ∀(b:Addr) (u:Obj),s2.heap.get? b=some u->b≠C:=λb u e=>Nat.ne_of_lt (Nat.lt_of_lt_of_le (Heap.lt_size e) (by rw[hDd];exact hCle));have nofp: ∀b∈fp,b∉vK X.stack:=λb hb hm=>by
  rcases List.mem_cons.mp (I2.stkSub b hm)with z | z
  ·exact(f2 b hb).2.1 z
  ·exact(f2 b hb).2.2.1 z
 have fpD: ∀b∈fp,b≠D:=λb hb=>Nat.ne_of_lt (fl b hb);have stat: ∀{H':Hp} {o:Obj},(∀b∈fp,H' b=none)->∀b∈fp,tY (xC X scope (N'++own) C s2 H2 fp pins) [(D,o)] H' b:=λ{H' o} hn b hb=>
  ⟨hn b hb,Nat.ne_of_lt (Nat.lt_of_lt_of_le (fl b hb) hCle),nofp b hb,.inl hb,λx c e=>(f2 b hb).2.2.2.2.1 x c (sV S I2 e),λp hp=>by
   have hp':p∈(X.pn++pins)++ [(D,o)]:=hp;rcases List.mem_append.mp hp' with z | z
   ·exact(f2 b hb).2.2.2.2.2 p z
   ·have e:p=(D,o):=by simpa using z
    rw[e];exact Ne.symm (fpD b hb)⟩
 have loop: ∀s3:Shared,z5 (xC X scope (N'++own) C s2 H2 fp pins) [(D,{cls:= .type "list",data:= .seq ([]:List Value).toArray})] (σ++List.replicate own.length none) H2 s3->tn 0 s3.heap->
   codeAny (model X.prog X.w) X.A (.compLoop (.ListComp elt [⟨target,iter,ifs,0⟩] scope pos) 0 (.ref it) (.ref D) (compEnvC scope (uB scope.names X.env.cells) C X.env))
    (compPost (model X.prog X.w) X.A X.xe none (EP X pins σ Q) (.ref D) C) s3:=by
  intro s3 I3 st3;refine zcX (λn s'=> ∃(i:Nat) (ys:List V) (σ':St) (H':Hp) (vals:List Value) (cnt:Nat),z5 (xC X scope (N'++own) C s2 H2 fp pins) [(D,{cls:= .type "list",data:= .seq vals.toArray cnt})] σ' H' s'/\
   tn i s'.heap/\(∀b∈fp,H' b=none)/\zM ys vals/\W i n ys σ' H') ?_ m0 ⟨0,[],_,H2,[],0,I3,st3,λb hb=>(f2 b hb).1,.nil,w0⟩
  rintro n s3 ⟨i,ys,σ3,H3,vals,cnt,I3,st3,fr3,rv,w3⟩;rcases turn i n ys σ3 H3 w3 with⟨stop,hz,q⟩ | ⟨go,hz,N,hN,step⟩
  ·refine y0 (T.done (xC X scope (N'++own) C s2 H2 fp pins) rfl rfl rfl hc i _ s3 σ3 H3 _ I3 (stat fr3) st3 stop) λr s4 ⟨hr,I4⟩=> ?_
   subst hr;obtain⟨m,ns,_⟩:=id I4.loc;refine⟨m,ns,λh' sb=> ?_⟩;have u4:Un (vK X.stack) fp H2 H3 s2.heap s4.heap:=I4.base;have nC:H3 C=none:=I4.free;have keepC: ∀(b:Addr) (u:Obj),b≠C->s4.heap.get? b=some u->h'.get? b=some u:=λb u hb e=>(sb.2 b hb).trans e;have u':Un (vK X.stack) fp H2 H3 s2.heap h':=
    ⟨λb o e n hb hx=>keepC b o (lowC b o e) (u4.keep b o e n hb hx),λb o e n hb hx=>let⟨sl,q⟩:=u4.slot b o e n hb hx;⟨sl,keepC _ _ (lowC b o e) q⟩,u4.free,λb o e hx=>let⟨o',q⟩:=u4.there b o e hx;⟨o',keepC _ _ (lowC b o e) q⟩,u4.tups,u4.frzs,u4.tbls⟩
   have hok':xI X.prog X.w H3 h':=λb u e=>(I4.hok b u e).stay (λc v hc' q=>keepC c v (by
    rintro rfl;rcases hc' with z | z
    ·rw[<- z,nC]at e;cases e
    ·rw[nC]at z;cases z) q) (λ_ q=>q) λ_ _ q=>q
   have I5:z5 X pins σ H3 {s4 with heap:=h'} :=I2.call' (ch:=fp) (s':= {s4 with heap:=h'}) I4.os u' hok' I4.bare λb hb=>⟨(f2 b hb).2.2.2.1,(f2 b hb).2.1,(f2 b hb).2.2.2.2.1,(f2 b hb).2.2.2.2.2⟩;obtain⟨eD,nD,_⟩:=I4.pin (D,_) (List.mem_append_right _ List.mem_cons_self);refine⟨.ref D,zQ H3 D (.lst ys),za5 I5 nD (by rw[<- hDd];exact I2.sz) ?_ ?_ ?_ ⟨hz,vals,cnt,rv,keepC D _ hDC eD⟩,rfl,q D nD⟩
   ·have:=I2.lt;rw[hDd]at this;exact Nat.ne_of_gt this
   ·intro x c e z
    obtain⟨v,o,ho,_⟩:=I2.cell x c e;have:=Heap.lt_size ho;rw[hDd,z]at this;exact Nat.lt_irrefl _ this
   ·intro p hp z
    have:=Heap.lt_size (I2.pin p hp).1;rw[hDd,z]at this;exact Nat.lt_irrefl _ this
  ·refine y0 (T.item (xC X scope (N'++own) C s2 H2 fp pins) rfl rfl rfl hc i _ s3 σ3 H3 _ I3 (stat fr3) st3 go) λr s4 ⟨u,hr,h4⟩=> ?_
   subst hr;refine y0 h4 λ_ s5 ⟨x,H5,I5,r5,y5,st5,fr5⟩=> ?_;have I5':=I5.pinned (stat fr5) (T.obj _ _ st5);have keepT: ∀{σ7:St} {H7:Hp} {s7:Shared} {pl:List (Addr×Obj)},z5 (xC X scope (N'++own) C s2 H2 fp pins) (pl++sN fp s5.heap) σ7 H7 s7->tn (i+1) s7.heap/\∀b∈fp,H7 b=none:=λ{σ7 H7 s7 pl} I7=>
    ⟨T.keep _ _ _ st5 λb hb o e=>(I7.pin (b,o) (List.mem_append_right _ (List.mem_append_right _ (oU hb e)))).1,λb hb=>by
     obtain⟨o,e,d⟩:=T.obj _ _ st5 b hb;exact(I7.pin (b,o) (List.mem_append_right _ (List.mem_append_right _ (oU hb e)))).2.1⟩
   refine oW (hg C s2 H2 fp pins _ s5 σ3 H5 x u _ I5' r5 (step x H5 y5)) λ_ s6 ⟨σ6,H6,I6,q6⟩=> ?_;refine oW (ht C s2 H2 fp pins _ s6 σ6 H6 _ I6 q6) λb s7 ⟨H7,I7,q7⟩=> ?_;cases b with
   | false=>
    obtain⟨m',hm,w7⟩:=hN _ _ _ q7;obtain⟨t7,fr7⟩:=keepT I7;exact⟨m',hm,i+1,ys,σ6,H7,vals,cnt,I7.unpinned,t7,fr7,rv,w7⟩
   | true=>
    refine oW (he C s2 H2 fp pins _ s7 σ6 H7 _ I7 q7) λy s8 ⟨yv,H8,I8,r8,q8⟩=> ?_;obtain⟨m',hm,w8⟩:=hN _ _ _ q8;obtain⟨eD,nD,neD,nfD,cD⟩:=I8.pin (D,_) (List.mem_append_right _ (List.mem_append_left _ List.mem_cons_self));have hvl:=rv.length;refine call_meets F.slot_list_append ⟨_,eD,rfl⟩ F.entry_list_append (F.args_list_append_2 _ _) (PySem.list_append D vals.toArray cnt y (by rw[List.size_toArray];omega)) ⟨eD,?_⟩;have I8':z5 (xC X scope (N'++own) C s2 H2 fp pins) (sN fp s5.heap) σ6 H8 s8:=I8.pins_of λp hp=>I8.pin p (List.mem_append_right _ (List.mem_append_right _ hp));have hno: ∀p∈(X.pn++pins)++sN fp s5.heap,p.1≠D:=λp hp=>by
     rcases List.mem_append.mp hp with z | z
     ·intro q
      have:=Heap.lt_size (I2.pin p z).1;rw[hDd,q]at this;exact Nat.lt_irrefl _ this
     ·exact fpD _ (zaQ z).1
    have I9:=I8'.turned (t':=s8.toks) (it:=D) (h':=s8.heap.update D (Obj.mapSeq λx=>x.push y)) (λb o hb e=>(Heap.get?_update_other s8.heap _ (Ne.symm hb)).trans e) nD neD (.inr (by show s2.heap.objs.size<=D;rw[hDd];exact Nat.le_refl _))
     (λx c e z=>by
      obtain⟨v,o,ho,_⟩:=I2.cell x c (sV S I2 e);have:=Heap.lt_size ho;rw[hDd,z]at this;exact Nat.lt_irrefl _ this) hno
    obtain⟨t9,fr9⟩:=keepT (pl:= []) I9;have qD: ∃n',(s8.heap.update D (Obj.mapSeq λx=>x.push y)).get? D=some {cls:= .type "list",data:= .seq (vals++ [y]).toArray n'} :=by
     have q:=PySem.IsL.update (l:=D) (items:=vals.toArray) (n:=cnt) (h:=s8.heap) eD λx=>x.push y;have e:vals.toArray.push y=(vals++ [y]).toArray:=by simp
     rw[<- e];exact⟨_,q⟩
    obtain⟨n',qD⟩:=qD;refine⟨m',hm,i+1,ys++ [yv],σ6,H8,vals++ [y],n',I9.pins_of λp hp=> ?_,t9,fr9,rv.append (.cons r8 .nil),w8⟩;have e:=List.mem_singleton.mp hp;rw[e];exact⟨qD,nD,neD,nfD,by intro v z;cases z⟩
 have t4:tn 0 h4:=T.keep _ _ _ st2 λb _ o e=>k4 b o e;exact codeAny_compStart_list (loop _ I4 t4) (T.self _ 0 _ _ _ t4 (loop _ I4 t4))
end
end L2
namespace L2
open PySem PySem.Spec PyProof.Rows
def kJ (x:Str):It:=⟨λi _=>i < x.cps.size,λi H v H'=>H'=H/\∃c,x.cps[i]?=some c/\v= .str ⟨#[c]⟩,λi _=>i=x.cps.size⟩
theorem zgQ {P:Program}{w:World}{K:Frag}{tg:Expr}{n:String}(it:Addr)(x:Str)(t:Tok)(hn: ["enumerate","zip","dict_itemiterator","dict_reverseitemiterator","odict_iterator","itertools.zip_longest","itertools.pairwise"].contains n=false)
  (W: ∀A:Around,A.handled=none->Walks P w A it [it] [it] x.cps.size (SignAt x) (λi h=>h.IsStrIter it n x t i))
  (hself: ∀(A:Around) (i:Nat) (s:Shared) (Q:Value->Shared->Prop) (E:Value->Shared->Prop),s.heap.IsStrIter it n x t i->Q (.ref it) s->wpAny (model P w) A (pyIter (.ref it)) Q E s):
  qQ P w K tg (kJ x) [it] it (λi h=>h.IsStrIter it n x t i) where
 mem:=by simp
 obj:=λi h st b hb=>by
  have e:b=it:=by simpa using hb
  subst e;obtain⟨o,e,c,d⟩:=st;exact⟨o,e,λv z=>by rw[d]at z;cases z⟩
 keep:=λi h h' st k=>by
  obtain⟨o,e,r⟩:=st;exact⟨o,k it (by simp) o e,r⟩
 item:=by
  intro X hP hw hK hc i pins s σ H E I hf st hg;subst hP hw hK;obtain⟨f0,f1,f2,f3,f4,f5⟩:=hf it (by simp);refine(W X.A (I.ok.hd hc)).item i s _ _ hg st λv h' tk hv st' kk=> ?_;obtain⟨c,u,ec,rfl⟩:=hv;have I1:z5 X pins σ H {s with heap:=h',toks:=tk} :=I.turned (λb o hb e=>kk b o (by simpa using hb) e) f0 f1 f3 f4 f5;obtain⟨o,e,c',d⟩:=id st';exact⟨_,rfl,jA (s:= {s with heap:=h',toks:=tk}) e c' d hn ⟨.str ⟨#[c]⟩,H,I1,⟨u,rfl⟩,⟨rfl,c,ec,rfl⟩,st',λb hb=>(hf b hb).1⟩⟩
 done:=by
  intro X hP hw hK hc i pins s σ H E I hf st hg;subst hP hw hK;obtain⟨f0,f1,f2,f3,f4,f5⟩:=hf it (by simp);have hg':i=x.cps.size:=hg;subst hg';exact(W X.A (I.ok.hd hc)).done s _ _ st λh' tk kk=>⟨rfl,I.turned (λb o hb e=>kk b o (by simpa using hb) e) f0 f1 f3 f4 f5⟩
 self:=hself
section
variable {X:Cx} {tg:Expr}
theorem zcI {bs:List Bool} : ∀{us:List Value},zM (bs.map V.bl) us->LSm.BoolsAre us bs:=by
 induction bs with
 | nil=>intro us r;rw[List.map_nil]at r;cases r;exact .nil
 | cons n ns ih=>
  intro us r;rw[List.map_cons]at r;cases r with
  | cons r1 r2=>
   have e:_=Value.bool n:=r1;subst e;exact .cons n (ih r2)
theorem zgA {bs:List Str} : ∀{us:List Value},zM (bs.map V.str) us->StrsAre us bs:=by
 induction bs with
 | nil=>intro us r;rw[List.map_nil]at r;cases r;exact .nil
 | cons n ns ih=>
  intro us r;rw[List.map_cons]at r;cases r with
  | cons r1 r2=>
   obtain⟨t,e⟩:=r1;subst e;exact .cons n t (ih r2)
theorem zi9 (hc:X.calm=true):wF X (.builtin "all") (λxs H Q=> ∃(l:Addr) (bs:List Bool),xs= [.ref l]/\yX X.K H l (bs.map V.bl)/\Q (.bl (bs.all id)) H):=by
 (first | refine⟨?_⟩ | skip)
 intro pins s σ H xs us Q I r h;obtain⟨l,bs,rfl,hl,q⟩:=h;obtain⟨u,rfl,ru⟩:=tW r;cases ru;obtain⟨its,rv,p,_⟩:=I.list hl;have hlt:l < s.heap.objs.size:=p.lt;refine call_all_walk (wpAny_pyIter_list p.isList ?_);refine⟨s.heap.objs.size,[s.heap.objs.size,l],[s.heap.objs.size],its.toArray.size,_,_,λi=>(bs[i]?).getD true,rfl,Walks.list (A:=X.A.in1) (I.ok.hd hc) _ l (Nat.ne_of_lt hlt) its.toArray,
  ⟨⟨_,Heap.get?_push_size _ rfl,rfl,rfl⟩,p.isList.push _⟩,λi v s' Q' E' hP hQ=> ?_,λh' tk hk=> ?_⟩
 ·obtain⟨b,e,rfl⟩:=(zcI rv).get i v (by simpa using hP)
  simp only[e,Option.getD_some]at hQ;exact wpAny_truthy_bool hQ
 ·have e:((List.range its.toArray.size).all λi=>(bs[i]?).getD true)=bs.all id:=by
   rw[List.size_toArray,(zcI rv).length];exact LSm.range_all bs
  rw[e];exact⟨.bl (bs.all id),H,I.kept (LSm.kept_iter hk),rfl,q⟩
def znE (K:Frag):V->List V->Hp->VK->Prop:=λx vs H Q=> ∃(sep:Str) (l:Addr) (ys:List Str),x= .str sep/\vs= [.ref l]/\yX K H l (ys.map V.str)/\(ys.map (·.length)).sum+ys.length * sep.length<=16777216/\Q (.str (Txt.join sep ys)) H
theorem zll:tI X "str.join" (znE X.K):=by
 (first | refine⟨?_⟩ | skip)
 intro pins s σ H x xs v us Q I rx rv h;obtain⟨sep,l,ys,rfl,rfl,hl,hz,q⟩:=h;obtain⟨t,rfl⟩:=rx;obtain⟨u,rfl,ru⟩:=zM.one rv;cases ru;obtain⟨its,r,p,_⟩:=I.list hl;exact join_list p.isList (by simpa using zgA r) hz λt' k=>⟨.str (Txt.join sep ys),H,I.tok _,⟨t',rfl⟩,q⟩
theorem zk6 (sep:Str)(ys:List Str):(Txt.join sep ys).length<=(ys.map (·.length)).sum+ys.length * sep.length:=by
 show(Builtin.Str.glued sep ys).length<=_;rw[StrLaws.glued_eq_join];exact StrLaws.join_length_le sep ys
def znM:V->Option Int->Option Int->Hp->VK->Prop:=λx lo hi H Q=> ∃z,x= .str z/\z.length<=sizeLine/\((Txt.slice z lo hi).length<=z.length->Q (.str (Txt.slice z lo hi)) H)
theorem zom:mB X znM:=by
 (first | refine⟨?_⟩ | skip)
 intro pins s σ H x v vl vu lo hi sl Q I rx hs pl pu h;obtain⟨z,rfl,hz,q⟩:=h;obtain⟨t,rfl⟩:=rx;obtain⟨o,e,c,d⟩:=hs;have fin: ∀t' k,EP X pins σ Q (.str (Txt.slice z lo hi) t') {s with toks:=k} :=λt' k=>⟨.str (Txt.slice z lo hi),H,I.tok k,⟨t',rfl⟩,q (Txt.slice_le z _ _)⟩;refine⟨"str",_,F.slot_str_getitem.lookup,typeIs_str _ _ _,?_⟩;cases pl with
 | none=>
  cases pu with
  | none=>exact wpAny_getItem_str_slice (l:=none) (u:=none) (st:=none) ⟨o,e,c,d⟩ rfl (post_val_or_str ⟨Nat.le_trans (Txt.slice_le z _ _) hz,fin⟩)
  | int j uj=>exact wpAny_getItem_str_slice (l:=none) (u:=some (j,uj)) (st:=none) ⟨o,e,c,d⟩ rfl (post_val_or_str ⟨Nat.le_trans (Txt.slice_le z _ _) hz,fin⟩)
 | int i ui=>
  cases pu with
  | none=>exact wpAny_getItem_str_slice (l:=some (i,ui)) (u:=none) (st:=none) ⟨o,e,c,d⟩ rfl (post_val_or_str ⟨Nat.le_trans (Txt.slice_le z _ _) hz,fin⟩)
  | int j uj=>exact wpAny_getItem_str_slice (l:=some (i,ui)) (u:=some (j,uj)) (st:=none) ⟨o,e,c,d⟩ rfl (post_val_or_str ⟨Nat.le_trans (Txt.slice_le z _ _) hz,fin⟩)
end
end L2
namespace L2
open PySem PySem.Spec PyProof.Rows
def zcR (fsc scope:Scope)(N N':List Str):Bool:=
 scope.kind== .function&&scope.names.all (λy=>y.2 != .cell&&(y.2 != .local||scope.names.lookup y.1==some .local)&&(y.2 != .free||(fsc.names.lookup y.1==some .cell||fsc.names.lookup y.1==some .free)))
  &&N'.length==N.length&&(N'.zip N).all (λp=>p.1==p.2|| !(scope.names.any λq=>q.1==p.1&&q.2== .free))&&N'.all (λy=>scope.names.lookup y !=some .local)
theorem tK {X:Cx}{scope fsc:Scope}{N N' own:List Str}(hX:X.env.scope=fsc)(hN:X.N=N)(h:zcR fsc scope N N'=true):tG X scope N' own:=by
 unfold zcR at h;simp only[Bool.and_eq_true,List.all_eq_true,beq_iff_eq,bne_iff_ne,Bool.or_eq_true,ne_eq]at h;obtain⟨⟨⟨⟨h1,h2⟩,h3⟩,h4⟩,h5⟩:=h;subst hX hN;refine⟨h1,λy hy=>(h2 y hy).1.1,λy hy e=> ?_,λy hy e=> ?_,h3,λi y e=> ?_,λy hy=>h5 y hy⟩
 ·rcases(h2 y hy).1.2 with z | z
  ·exact absurd e z
  ·exact z
 ·rcases(h2 y hy).2 with z | z
  ·exact absurd e z
  ·exact z
 ·have hi:i < N'.length:=(List.getElem?_eq_some_iff.mp e).1
  have e2:X.N[i]?=some X.N[i]:=List.getElem?_eq_getElem (by omega);have m:(y,X.N[i])∈N'.zip X.N:=by
   refine List.mem_iff_getElem?.mpr ⟨i,?_⟩;rw[List.getElem?_zip_eq_some];exact⟨e,e2⟩
  rcases h4 _ m with z | z
  ·left
   rw[e2];have z':y=X.N[i]:=z;rw[<- z']
  ·right
   intro q;have z':(!(scope.names.any λq=>q.1==y&&q.2== .free))=true:=z;rw[Bool.not_eq_true',List.any_eq_false]at z';exact z' _ q (by simp)
theorem zij {α:Type}(xs:List α){d:Int}(h0:0<=d)(h1:d < xs.length): ∃y,y∈xs/\atI xs d=some y:=by
 have hn:d.toNat < xs.length:=by omega
 refine⟨xs[d.toNat],List.getElem_mem hn,?_⟩;unfold atI wJ;rw[if_pos h0,if_pos h1];exact List.getElem?_eq_getElem hn
end L2
namespace L2
open PySem PySem.Spec PyProof.Rows
section
variable {X:Cx}
end
section
variable {prog:Program} {w:World} {A:Around} {J:Addr} {fp wr:List Addr} {n:Nat} {P:Nat->Value->Prop} {Sn:Nat->Heap->Prop}
end
end L2
namespace L2
open PySem PySem.Spec PyProof.Rows
section
variable {prog:Program} {w:World} {A:Around} {E:Value->Shared->Prop} {s:Shared}
end
section
variable {X:Cx} {e e2:Expr} {t:TA} {tk:TA} {p pos kpos:Pos}
end
end L2
namespace L2
open PySem PySem.Spec PyProof.Rows
theorem ziV:typeLookup (.type "dict") "__len__" =pure (some (.builtin "dict.__len__")):=by rw[typeLookup_type,builtinLookup_eq_fast];kernel_rfl
section
variable {prog:Program} {w:World} {A:Around} {E:Value->Shared->Prop} {s:Shared}
theorem ziN {d:Addr}{kvs:List (z8×Value)}{Q:List Value->Shared->Prop}(hh:A.handled=none)(hd:(d==sysModules)=false)(hm:s.heap.DictOf (xK prog w) d kvs)(hn:kvs.length<=sizeLine)
  (hQ: ∀s' acc,(∀b o,s.heap.get? b=some o->s'.heap.get? b=some o)->s'.gens=s.gens->s'.drawn=s.drawn->s'.os=s.os->ItemsOf (λi v=> ∃k x,kvs[i]?=some (k,x)/\(xK prog w).is k v=true) acc kvs.length->Q acc.toList s'):
  wpAny (model prog w) A (collect (.ref d)) Q E s:=by
 have hdl:d < s.heap.objs.size:=by obtain⟨o,es,ep,ho,_⟩:=id hm;exact Heap.lt_size ho
 unfold collect;refine wpAny_bind (wpAny_runValue (codeAny_builtin F.entry_proto_collect ?_));rw[Around.under_plainId F.plain_proto_collect _];show wpAny _ A.in1 (newList [] >>= λl=>again (.builtin "list.__iadd__" ⟨[l,.ref d],[]⟩)) _ _ s;refine wpAny_bind (wpAny_newObj_type ?_);refine wpAny_pure ⟨plainId_quiet F.plain_list_iadd _,codeAny_builtin F.entry_list_iadd ?_⟩;rw[Around.under_plainId F.plain_list_iadd _];show wpAny _ A.in1 (Builtin.List.listExtendWith (.ref s.heap.objs.size) (.ref d) (.ref s.heap.objs.size)) _ _ _;generalize hH:s.heap.push {cls:= .type "list",data:= .seq ([]:List Value).toArray} =H;have hHs:H.objs.size=s.heap.objs.size+1:=by rw[<- hH,Heap.size_push]
 have kH: ∀b o,s.heap.get? b=some o->H.get? b=some o:=λb o e=>hH▸Heap.get?_push_of_some _ e;have hm1:H.DictOf (xK prog w) d kvs:=hm.at λo e=>kH d o e;obtain⟨ep,at1⟩:=hm1.dictAt;have hS:H.get? s.heap.objs.size=some {cls:= .type "list",data:= .seq ([]:List Value).toArray} :=hH▸Heap.get?_push_size _ rfl;unfold Builtin.List.listExtendWith;have hT:Shared.TypeIs {s with heap:=H} (.ref d) "dict" :=Heap.DictOf.typeIs (s:= {s with heap:=H}) hm1;refine wpAny_bind (wpAny_typeOf hT ?_);have h1:Builtin.List.listSameRef (.ref s.heap.objs.size) (.ref d)=false:=by
  have:s.heap.objs.size≠d:=Nat.ne_of_gt hdl;simp[Builtin.List.listSameRef,this]
 have h2:(Value.type "dict" ==Value.type "list")=false:=by decide
 have h3:(Value.type "dict" ==Value.type "tuple")=false:=by decide
 simp only[h1,h2,h3,Bool.or_false,Bool.false_eq_true,if_false];refine wpAny_bind (wpAny_pyIter_dict (s:= {s with heap:=H}) hd at1 ?_);refine wpAny_bind (wpAny_holding ?_);unfold Builtin.List.listLengthHint;have hT2:Shared.TypeIs {s with heap:=H.push {cls:= .type "dict_keyiterator",data:= .fields #[.ref d,.int 0 0,.int kvs.length 0,.int ep 0]}} (.ref d) "dict" :=by
  obtain⟨o,ho,hc⟩:=hT;exact⟨o,Heap.get?_push_of_some _ ho,hc⟩
 refine wpAny_bind (wpAny_specialOf hT2 ziV ?_)
 wp_delta
 refine wpAny_bind (wpAny_isInstance (b:=true) hT2 (by rw[isSubtype_type];kernel_rfl) ?_);show wpAny _ A.in1 (typeOf (Value.ref d) >>= _) _ _ _;refine wpAny_bind (wpAny_typeOf hT2 ?_);refine wpAny_pure ?_;rw[if_pos (by decide)];refine wpAny_bind (wpAny_rule ?_);generalize hG:H.push {cls:= .type "dict_keyiterator",data:= .fields #[.ref d,.int 0 0,.int kvs.length 0,.int ep 0]} =G at hT2⊢
 have hI:G.get? H.objs.size=some {cls:= .type "dict_keyiterator",data:= .fields #[.ref d,.int 0 0,.int kvs.length 0,.int ep 0]} :=hG▸Heap.get?_push_size _ rfl;have kG: ∀b o,H.get? b=some o->G.get? b=some o:=λb o e=>hG▸Heap.get?_push_of_some _ e;have hS2:=kG _ _ hS;refine wpAny_bind ?_;show wpAny _ A.in1 (updateSeq s.heap.objs.size (·.push .none) >>= λ_=>updateSeq s.heap.objs.size (·.pop)) _ _ {s with heap:=G};refine wpAny_bind (wpAny_updateSeq (s:= {s with heap:=G}) hS2 rfl ?_);have hS3:=Heap.get?_update_self (Obj.mapSeq (·.push .none)) hS2 rfl;refine(wpAny_updateSeq (s:= {s with heap:=G.update s.heap.objs.size (Obj.mapSeq (·.push .none))}) hS3 rfl ?_);have hS4:=Heap.get?_update_self (Obj.mapSeq (·.pop)) hS3 rfl;generalize hG2:(G.update s.heap.objs.size (Obj.mapSeq (·.push .none))).update s.heap.objs.size (Obj.mapSeq (·.pop))=G2 at hS4⊢
 have kG2: ∀b o,b≠s.heap.objs.size->G.get? b=some o->G2.get? b=some o:=λb o hb e=>by
  rw[<- hG2];exact(Heap.get?_update_other _ _ (Ne.symm hb)).trans ((Heap.get?_update_other _ _ (Ne.symm hb)).trans e)
 have nI:H.objs.size≠s.heap.objs.size:=by rw[hHs];exact Nat.succ_ne_self _
 have nd:d≠s.heap.objs.size:=Nat.ne_of_lt hdl;have ndI:d≠H.objs.size:=by rw[hHs];exact Nat.ne_of_lt (Nat.lt_succ_of_lt hdl)
 have W:=Walks.dictKeys (knd:=xK prog w) (A:=A.in1) hh H.objs.size d ndI kvs ep;have st0:G2.IsKeyIter H.objs.size d 0 kvs.length ep/\G2.DictAt (xK prog w) d kvs ep:=⟨⟨_,kG2 _ _ nI hI,rfl,rfl⟩,at1.at' λo e=>kG2 d o nd (kG d o e)⟩;have hSf:s.heap.objs.size∉ [H.objs.size,d]:=by
  intro z;rcases List.mem_cons.mp z with z | z
  ·exact nI z.symm
  ·exact nd (List.mem_singleton.mp z).symm
 refine wpAny_pure ⟨plainId_quiet F.plain_extend_loop _,codeAny_extend_loopS W.toS hn _ hSf _ kvs.length 0 {s with heap:=G2} #[] _ rfl (Nat.zero_le _) st0 hS4 (ItemsOf.nil _) λs' acc' c' hm' hS' hacc=> ?_⟩;show wpAny _ A (load s.heap.objs.size >>= _) _ _ s';refine wpAny_bind (wpAny_load hS' ?_);refine wpAny_pure (hQ s' acc' (λb ob e=>hm'.heap b ob (λhb=> ?_) (kG2 b ob (Nat.ne_of_lt (Heap.lt_size e)) (kG b ob (kH b ob e)))) hm'.gens hm'.drawn hm'.os hacc);have hlt:=Heap.lt_size e;rcases List.mem_cons.mp hb with h | h
 ·exact absurd hlt (h▸Nat.lt_irrefl _)
 ·rw[List.mem_singleton.mp h,hHs]at hlt;exact absurd hlt (Nat.not_lt.mpr (Nat.le_succ _))
theorem ziM {d:Addr}{kvs:List (z8×Value)}{Q₁:Value->Shared->Prop}(hh:A.handled=none)(hd:(d==sysModules)=false)(hm:s.heap.DictOf (xK prog w) d kvs)(hn:kvs.length<=sizeLine)
  (h: ∀(s':Shared) (acc:Array Value),(∀b o,s.heap.get? b=some o->s'.heap.get? b=some o)->s'.gens=s.gens->s'.drawn=s.drawn->s'.os=s.os->ItemsOf (λi v=> ∃k x,kvs[i]?=some (k,x)/\(xK prog w).is k v=true) acc kvs.length->
   Q₁ (.ref s'.heap.objs.size) {s' with heap:=s'.heap.push {cls:= .type "tuple",data:= .seq acc}}):
  codeAny (model prog w) A (.call (.builtin "tuple.__new__") ⟨[.type "tuple",.ref d],[]⟩) (wants Q₁ E) s:=by
 refine codeAny_of_tree ?_;show wpAny _ A.in1 (do checkBuiltinCall "tuple.__new__" ⟨[.type "tuple",.ref d],[]⟩;again (.builtin "tuple.__new__" ⟨[.type "tuple",.ref d],[]⟩)) _ _ s;refine wpAny_bind (wpAny_of_eq (F.newCall_tuple_1 _) (wpAny_pure ⟨plainId_quiet F.plain_tuple_new _,codeAny_builtin F.entry_tuple_new ?_⟩));rw[Around.under_plainId F.plain_tuple_new _];have hsub:=sub_tuple_self;have hinit:=init_tuple_lookup;have hmh:=madeHere_tuple;have hTI:s.TypeIs (.ref d) "dict" :=hm.typeIs
 wp_walk using wpAny_typeOf hTI,ziN (A:=A.in1) hh hd hm hn
 intro s' acc k1 k2 k3 k4 hacc;show wpAny _ _ (Builtin.Tuple.tupleExact acc.toList.toArray >>= λv=>ret v) _ _ _;unfold Builtin.Tuple.tupleExact;refine wpAny_bind (wpAny_newObj_type ?_ (by show acc.toList.toArray.size<=sizeLine;simp only[Array.toArray_toList];rw[hacc.1];exact hn));refine wpAny_pure ?_;have e:acc.toList.toArray=acc:=by simp
 rw[e];exact h s' acc k1 k2 k3 k4 hacc
theorem ziE {d:Addr}{kvs:List (z8×Value)}{Q:Value->Shared->Prop}(hh:A.handled=none)(hd:(d==sysModules)=false)(hm:s.heap.DictOf (xK prog w) d kvs)(hn:kvs.length<=sizeLine)
  (h: ∀(s':Shared) (acc:Array Value),(∀b o,s.heap.get? b=some o->s'.heap.get? b=some o)->s'.gens=s.gens->s'.drawn=s.drawn->s'.os=s.os->ItemsOf (λi v=> ∃k x,kvs[i]?=some (k,x)/\(xK prog w).is k v=true) acc kvs.length->
   Q (.ref s'.heap.objs.size) {s' with heap:=s'.heap.push {cls:= .type "tuple",data:= .seq acc}}):
  wpAny (model prog w) A (call (.type "tuple") [.ref d]) Q E s:=by
 refine callType_codes (Q₁:=λobj s₁=>s₁.TypeIs obj "tuple" /\Q obj s₁) F.called_tuple (F.typeCall_tuple_1 _) F.entry_object_init
  (ziM hh hd hm hn λs' acc k1 k2 k3 k4 hacc=>⟨⟨_,Heap.get?_push_size _ rfl,rfl⟩,h s' acc k1 k2 k3 k4 hacc⟩) λobj s₁ h₁=> ?_
 exact⟨h₁.1,F.args_object_init_2 obj _,object_init_meets F.called_tuple.init.lookup F.called_tuple.made (by decide) prog w A.in1 _ s₁ ⟨h₁.1,rfl,h₁.2⟩⟩
end
theorem nP: ∀{xs:List V} {us:List Value},xs.length=us.length->(∀(j:Nat) (v:Value) (x:V),us[j]?=some v->xs[j]?=some x->zS x v)->zM xs us
 | [],[],_,_=> .nil
 | x::xs,u::us,h,r=> .cons (r 0 u x rfl rfl) (nP (by simpa using h) λj v y a b=>r (j+1) v y a b)
theorem zeJ {kvs:List (z8×V)}{vs:List (z8×Value)}(r:KV kvs vs):kvs.length=vs.length:=Paired.length r
theorem zaB: ∀{kvs:List (z8×V)} {vs:List (z8×Value)} {i:Nat} {k:z8} {x:Value},KV kvs vs->vs[i]?=some (k,x)->∃y,kvs[i]?=some (k,y)
 | _,_,0,k,x,.cons (a:=p) r _,h=>by
  rw[List.getElem?_cons_zero]at h;rw[Option.some.inj h]at r;have e:p.1=k:=r.1;exact⟨p.2,by rw[List.getElem?_cons_zero,<- e]⟩
 | _,_,i+1,k,x,.cons _ r,h=>by
  obtain⟨y,e⟩:=zaB (i:=i) r (by simpa using h);exact⟨y,by simpa using e⟩
section
variable {X:Cx}
theorem ziD (hc:X.calm=true):wF X (.type "tuple") (λxs H Q=> ∃(d:Addr) (kvs:List (z8×V)),xs= [.ref d]/\H d=some (.dK kvs)/\∀p,H p=none->Q (.ref p) (zQ H p (.tup (kvs.map λq=>kV q.1)))):=by
 intro pins s σ H xs us Q I r h;obtain⟨d,kvs,rfl,hd,q⟩:=h;obtain⟨u,rfl,ru⟩:=tW r;cases ru;obtain⟨hz,hsys,vs,kv,dd⟩:=j0 I.hok hd;have hl:=zeJ kv;refine ziE (I.ok.hd hc) hsys dd (by rw[<- hl];exact hz) λs' acc k1 k2 k3 k4 hacc=> ?_;obtain⟨hp,g,dr,tk,os⟩:=s';obtain⟨hp0,g0,dr0,tk0,os0⟩:=s;dsimp only at k1 k2 k3 k4;subst k2 k3 k4;have I1:z5 X pins σ H ⟨hp,g,dr,tk,os⟩:=I.kept (t':=tk) (h':=hp) k1;refine⟨.ref hp.objs.size,_,I1.laid (t':=tk) (o:= .tup (kvs.map λq=>kV q.1)) (λb o e=>Heap.get?_push_of_some _ e) (Nat.le_refl _) ⟨by rw[List.length_map];exact hz,acc.toList,nP ?_ λj v x hv hx=> ?_,by simpa using tH.new _ _⟩,rfl,q _ I1.fresh⟩
 ·rw[List.length_map,hl];exact hacc.1.symm.trans (Array.length_toList).symm
 ·obtain⟨k,y,e1,e2⟩:=hacc.2 j v (by simpa using hv)
  obtain⟨z,e3⟩:=zaB kv e1;rw[List.getElem?_map,e3]at hx;have e4:kV k=x:=Option.some.inj hx;subst e4;rcases tN e2 with⟨i,t,rfl,rfl⟩ | ⟨z',t,rfl,rfl⟩
  ·exact⟨t,rfl⟩
  ·exact⟨t,rfl⟩
end
end L2
namespace L2
open PySem PySem.Spec PyProof.Rows
namespace RV
end RV
section
variable {prog:Program} {w:World} {A:Around} {E:Value->Shared->Prop} {s:Shared}
end
section
variable {X:Cx} {tg:Expr}
theorem zi4:bootBuiltins "reversed" =some (.type "reversed"):=by decide+kernel
end
end L2
namespace L2
open PySem PySem.Spec PyProof.Rows
section
variable {X:Cx} {pins:List (Addr×Obj)} {σ:St} {H:Hp} {s:Shared}
theorem zfx {α β:Type}{R:α->β->Prop} : ∀{l:List α} {m:List β} {j:Nat} {a:α} {b:β},Paired R l m->l[j]?=some a->m[j]?=some b->R a b
 | _,_,0,a,b,.cons r _,h1,h2=>by
  rw[List.getElem?_cons_zero]at h1 h2;rw[<- Option.some.inj h1,<- Option.some.inj h2];exact r
 | _,_,j+1,a,b,.cons _ r,h1,h2=>zfx (j:=j) r (by simpa using h1) (by simpa using h2)
theorem zho {xs:List V}{its:List Value}(r:zM xs its){j:Nat}(h:j < its.toArray.size): ∃x,xs[j]?=some x/\zS x its.toArray[j]:=by
 have hj:j < xs.length:=by rw[r.length];simpa using h
 obtain⟨u,e,ru⟩:=r.get (i:=j) (x:=xs[j]) (by simp[hj]);refine⟨xs[j],by simp[hj],?_⟩;have:its[j]?=some its.toArray[j]:=by simp
 rw[this]at e;rw[Option.some.inj e];exact ru
end
end L2
namespace L2
open PySem PySem.Spec PyProof.Rows
section
variable {X:Cx}
theorem zhq: ∀{us:List Value} {ss:List Str},StrsAre us ss->zM (ss.map V.str) us
 | _,_,.nil=> .nil
 | _,_,.cons _ t r=> .cons ⟨t,rfl⟩ (zhq r)
theorem ziC:wF X (.builtin "sorted") (λxs H Q=> ∃(l:Addr) (ss:List Str),xs= [.ref l]/\yX X.K H l (ss.map V.str)/\ss.length < 64/\∀p ss',H p=none->ss'.Perm ss->sortedS ss'=true->Q (.ref p) (zQ H p (.lst (ss'.map V.str)))):=by
 intro pins s σ H xs us Q I r h;obtain⟨l,ss,rfl,hl,h64,q⟩:=h;obtain⟨u,rfl,ru⟩:=tW r;cases ru;obtain⟨its,rv,p,_⟩:=I.list hl;have hlen:=rv.length;rw[List.length_map]at hlen;refine sorted_strs p.isList (zgA rv) (by omega) λout ss' h1 h2 h3=> ?_;obtain⟨e,he⟩:=sortedAll_at s.heap its out;have hn:H (s.heap.objs.size+1)=none:=I.hok.fresh (Nat.le_succ _);refine⟨.ref (s.heap.objs.size+1),_,I.laid (t':=s.toks) (o:= .lst (ss'.map V.str)) (λb u z=>sortedAll_old z) (Nat.le_succ _) ⟨?_,out.toList,e,zhq h1,?_⟩,rfl,q _ ss' hn h2 h3⟩
 ·rw[List.length_map,h2.length_eq]
  exact Nat.le_trans (Nat.le_of_lt h64) (by decide)
 ·rw[Array.toArray_toList];exact he
theorem zfs:yG X (binaryOp .Mult) (λx y H Q=> ∃(z:Str) (n:Int),x= .str z/\y= .int n/\((n=0/\Q (.str Str.empty) H)∨(n=1/\Q (.str z) H))):=by
 intro pins s σ H x y v u Q I rx ry h;obtain⟨z,n,rfl,rfl,h⟩:=h;obtain⟨t,rfl⟩:=rx;obtain⟨t',rfl⟩:=ry;rcases h with⟨rfl,q⟩ | ⟨rfl,q⟩
 ·exact PySem.P.mul_str_none (by decide) (by decide) ⟨.str Str.empty,H,I.tok _,⟨_,rfl⟩,q⟩
 ·refine PySem.P.mul_str (by decide) (λ_ h=>by cases h) (λ_ h=>by cases h) ?_
  rw[if_neg (by decide),if_pos (show((1:Int)==1||z.length==0)=true from rfl)];exact⟨.str z,H,I,⟨_,rfl⟩,q⟩
end
end L2
namespace L2
open PySem PySem.Spec PyProof.Rows
def Rw (H:Hp)(p:Addr)(xs:List Str):Prop:=H p=some (.tup (xs.map V.str))
section
variable {prog:Program} {w:World} {A:Around} {E:Value->Shared->Prop} {s:Shared}
theorem zkg {t sl:Addr}{items:Array Value}{vl vu:Value}{lo hi:Option Int}{Q:Value->Shared->Prop}(ht:IsTup s.heap t items)(hs:s.heap.IsSliceOf sl vl vu .none)(pl:IsPart vl lo)(pu:IsPart vu hi)
  (hw:HT.sIx items.size 0 lo=0/\HT.sIx items.size items.size hi=items.size) (h:Q (.ref t) s):wpAny (model prog w) A (getItem (.ref t) (.ref sl)) Q E s:=by
 obtain⟨os,hos,hcs,hds⟩:=id hs;have hTs:s.TypeIs (.ref sl) "slice" :=⟨os,hos,hcs⟩;unfold getItem
 try with_reducible refine wpAny_holding ?_
 first | refine wpAny_bind (wpAny_pure ?_) | skip
 refine wpAny_bind (wpAny_sequenceKey ht.typeIs (by decide) ?_);refine wpAny_bind (wpAny_callSpecial?_slot (name:=Str.ofString "__getitem__") ht.typeIs PyProof.Rows.slot_tuple_getitem
  (wpAny_call_entry PyProof.Rows.slot_tuple_getitem ht.typeIs entry_tuple_getitem ?_ (args_tuple_getitem _ _)))
 show wpAny _ _ (Builtin.Tuple.tupleItemsOf (.ref t) >>= _) _ _ s;refine wpAny_bind (tupleItemsOf_ ht ?_);refine wpAny_bind (wpAny_typeOf hTs ?_);rw[if_pos (by decide)];refine wpAny_bind (HT.sliceApplied_gen hs pl pu ?_);have hyes:((((HT.sIx items.size 0 lo:Nat):Int)==0&&(1:Int)==1&&(HT.sIx items.size items.size hi - HT.sIx items.size 0 lo)==items.size)=true):=by
  rw[hw.1,hw.2];simp
 show wpAny _ _ (if(((HT.sIx items.size 0 lo:Nat):Int)==0&&(1:Int)==1&&(HT.sIx items.size items.size hi - HT.sIx items.size 0 lo)==items.size)=true then _ else _) _ _ s;rw[if_pos hyes];unfold Builtin.Tuple.tupleIsExact;refine wpAny_bind (wpAny_bind (wpAny_typeOf ht.typeIs (wpAny_pure ?_)));rw[if_pos (by decide)];refine wpAny_bind (wpAny_rule ?_)
 first
  | exact wpAny_pure ⟨_,rfl,wpAny_pure h⟩
  | exact wpAny_bind (wpAny_pure (wpAny_pure ⟨_,rfl,wpAny_pure h⟩))
  | exact wpAny_bind (wpAny_pure ⟨_,rfl,wpAny_pure h⟩)
end
section
variable {X:Cx}
def zkd (K:Frag)(n:Nat)(t:uA):TG:=λv σ H Q=> ∃a xs,v= .ref a/\yX K H a xs/\xs.length=n/\t xs σ H Q
theorem zmI {es:List Expr}{k:Nat}{t:uA}{n:Nat}{pos:Pos}(hc:X.calm=true)(h:vS X es t)
  (hn:(assignEach es X.env).length=n:=by rfl) (hst:(assignEach es X.env).findIdx? (·.1)=none:=by rfl):PG X (.Tuple es k pos) (zkd X.K n t):=⟨by
 intro pins s σ H v u Q I r hw;obtain⟨a,xs,e1,hq,hl,hw⟩:=hw;subst e1;cases r;obtain⟨its,rv,ht,hz⟩:=I.list hq;rw[assign_Tuple];refine wpAny_bind (wpAny_standAt ?_);unfold unpack;rw[show(assignEach es X.env).length=its.toArray.size from by simp[hn,<- hl,rv.length],hst];refine wpAny_bind (wpAny_holding (PySem.W.kun_itemsOf (I.ok.hd hc) ht.isList λh' hx=> ?_));have I1:z5 X pins σ H {s with heap:=h'} :=I.kept (t':=s.toks) λb o e=>hx b o (Nat.ne_of_lt (Heap.lt_size e)) e;exact h pins _ σ H xs _ Q I1 (by simpa using rv) hw⟩
variable {a b c d:Expr} {ta tb tc td:TE} {pos:Pos}
end
end L2
namespace L2
open PySem PySem.Spec PyProof.Rows
namespace RV
end RV
section
variable {prog:Program} {w:World} {A:Around} {E:Value->Shared->Prop} {s:Shared}
end
section
variable {X:Cx}
end
end L2
namespace L2
open PySem PySem.Spec PyProof.Rows
def zcu (f:Addr)(o:Obj):Heap->Prop:=λh=>h.get? f=some o
def zca (c:Addr)(q:Str):Heap->Prop:=λh=> ∃o vs t,h.get? c=some o/\o.data= .fields vs/\vs[1]?=some (.str q t)
def less (H:Hp)(c:Addr):Hp:=λb=>if b=c then none else H b
end L2
namespace L2
open PySem PySem.Spec PyProof.Rows
section
variable {X:Cx}
end
end L2
namespace L2
open PySem PySem.Spec PyProof.Rows
end L2
namespace L2
open PySem PySem.Spec PyProof.Rows
section
variable {X:Cx} {pins:List (Addr×Obj)} {σ:St} {H:Hp} {s:Shared} {scope:Scope} {N' own:List Str}
theorem zfB {elt target iter:Expr}{ifs:List Expr}{pos spos pos':Pos}{i0:Nat}{x:Str}{wi:TI}{g:TG}{tt:TT}{te:TE}(hN:X.N.Nodup)(hi0:X.N[i0]?=some x)(hx:tZ X.env.scope x)(S:tG X scope N' own)(hc:X.calm=true)(hi:PI X target iter wi)
  (hg: ∀C s H fp pins,PG (xC X scope (N'++own) C s H fp pins) target g) (ht: ∀C s H fp pins,PF (xC X scope (N'++own) C s H fp pins) ifs tt) (he: ∀C s H fp pins,PE (xC X scope (N'++own) C s H fp pins) elt te)
  (hs: ∀x,foldedSetIterable iter X.env x=pure x:=by intro _;rfl) (hsw:swapsWith (.ListComp elt [⟨target,iter,ifs,0⟩] scope pos) (some (.Name x pos')) spos.line X.env=pure true:=by rfl)
  (hf:X.fn x=true∨X.env.scope.names.lookup x=some .local:=by first | exact .inl rfl | exact .inr rfl | assumption):
  PS X (.Assign [.Name x pos'] (.ListComp elt [⟨target,iter,ifs,0⟩] scope pos) spos) (lR (i9 own.length wi g tt te) (j9 i0)):=by
 refine⟨?_⟩;intro pins s σ H D0 I h;rw[exec_Assign_Name_used _ _ _ _ hsw];refine wpAny_bind (wpAny_standAt (wpAny_bind ?_));show wpAny _ X.A (do let _ <- comprehension (.ListComp elt [⟨target,iter,ifs,0⟩] scope pos) scope X.env _ (newList []) false (eval iter X.env) (some (assign (.Name x pos') X.env))) _ _ s;refine wpAny_bind (wpAny_mono (wpAny_comprehension_free (use:=some (assign (.Name x pos') X.env)) (Q:=λ_ s'=>SP X pins D0 .next s') rfl hs (zcW (S.cells I)) S.kind S.names ?_) (λ_ s' hq=>wpAny_pure (wpAny_pure hq)) λ_ _ e=>e);refine y0 (hi pins s σ H _ I h) λv s1 h1=>y0 h1 λitv s2 h2=> ?_;obtain⟨it,fp,tn,J,H2,e,I2,T,st2,f2,W,⟨m0,w0⟩,turn⟩:=h2;subst e;have fl: ∀b∈fp,b < s2.heap.objs.size:=λb hb=>by obtain⟨o,e,_⟩:=T.obj _ _ st2 b hb;exact Heap.lt_size e
 refine wpAny_newObj_type (wpAny_newFunctionEnv S.nocell (by intro y hy;simp at hy) (λh4 ns4 sb4=> ?_) S.kind);dsimp only at ns4 sb4⊢
 generalize hH3:s2.heap.push {cls:= .type "list",dict:=none,data:= .seq ([]:List Value).toArray} =h3 at ns4 sb4⊢
 have hC:h3.objs.size=s2.heap.objs.size+1:=by rw[<- hH3,Heap.size_push]
 have hDC:s2.heap.objs.size≠h3.objs.size:=by rw[hC];exact Nat.ne_of_lt (Nat.lt_succ_self _)
 have hCle:s2.heap.objs.size<=h3.objs.size:=by rw[hC];exact Nat.le_succ _
 have eD3:h3.get? s2.heap.objs.size=some {cls:= .type "list",data:= .seq ([]:List Value).toArray} :=hH3▸Heap.get?_push_size _ rfl;have k4: ∀b u,s2.heap.get? b=some u->h4.get? b=some u:=λb u e=>
  (sb4.2 b (Nat.ne_of_lt (Nat.lt_of_lt_of_le (Heap.lt_size e) hCle))).trans (Heap.get?_push_of_some _ (hH3▸Heap.get?_push_of_some _ e))
 have eD4:h4.get? s2.heap.objs.size=some {cls:= .type "list",data:= .seq ([]:List Value).toArray} :=(sb4.2 _ hDC).trans (Heap.get?_push_of_some _ eD3);generalize hDd:s2.heap.objs.size=D at *;generalize hCd:h3.objs.size=C at *;have I4:=ze9 S I2 (C:=C) (D:=D) (fp:=fp) (h4:=h4) (tk:=s2.toks+([]:List (Str×Value)).length) k4 (by rw[hDd];exact hCle) (by rw[hDd];exact Nat.le_refl _) hDC eD4 (by intro v z;cases z) ns4 f2 (by rw[hDd];exact fl);have lowC: ∀(b:Addr) (u:Obj),s2.heap.get? b=some u->b≠C:=λb u e=>Nat.ne_of_lt (Nat.lt_of_lt_of_le (Heap.lt_size e) (by rw[hDd];exact hCle));have nofp: ∀b∈fp,b∉vK X.stack:=λb hb hm=>by
  rcases List.mem_cons.mp (I2.stkSub b hm)with z | z
  ·exact(f2 b hb).2.1 z
  ·exact(f2 b hb).2.2.1 z
 have fpD: ∀b∈fp,b≠D:=λb hb=>Nat.ne_of_lt (fl b hb);have stat: ∀{H':Hp} {o:Obj},(∀b∈fp,H' b=none)->∀b∈fp,tY (xC X scope (N'++own) C s2 H2 fp pins) [(D,o)] H' b:=λ{H' o} hn b hb=>
  ⟨hn b hb,Nat.ne_of_lt (Nat.lt_of_lt_of_le (fl b hb) hCle),nofp b hb,.inl hb,λx c e=>(f2 b hb).2.2.2.2.1 x c (sV S I2 e),λp hp=>by
   have hp':p∈(X.pn++pins)++ [(D,o)]:=hp;rcases List.mem_append.mp hp' with z | z
   ·exact(f2 b hb).2.2.2.2.2 p z
   ·have e:p=(D,o):=by simpa using z
    rw[e];exact Ne.symm (fpD b hb)⟩
 have loop: ∀s3:Shared,z5 (xC X scope (N'++own) C s2 H2 fp pins) [(D,{cls:= .type "list",data:= .seq ([]:List Value).toArray})] (σ++List.replicate own.length none) H2 s3->tn 0 s3.heap->
   codeAny (model X.prog X.w) X.A (.compLoop (.ListComp elt [⟨target,iter,ifs,0⟩] scope pos) 0 (.ref it) (.ref D) (compEnvC scope (uB scope.names X.env.cells) C X.env))
    (compPost (model X.prog X.w) X.A X.xe (some (assign (.Name x pos') X.env)) (λ_ s'=>SP X pins D0 .next s') (.ref D) C) s3:=by
  intro s3 I3 st3;refine zcX (λn s'=> ∃(i:Nat) (ys:List V) (σ':St) (H':Hp) (vals:List Value) (cnt:Nat),z5 (xC X scope (N'++own) C s2 H2 fp pins) [(D,{cls:= .type "list",data:= .seq vals.toArray cnt})] σ' H' s'/\
   tn i s'.heap/\(∀b∈fp,H' b=none)/\zM ys vals/\W i n ys σ' H') ?_ m0 ⟨0,[],_,H2,[],0,I3,st3,λb hb=>(f2 b hb).1,.nil,w0⟩
  rintro n s3 ⟨i,ys,σ3,H3,vals,cnt,I3,st3,fr3,rv,w3⟩;rcases turn i n ys σ3 H3 w3 with⟨stop,hz,q⟩ | ⟨go,hz,N,hN,step⟩
  ·refine y0 (T.done (xC X scope (N'++own) C s2 H2 fp pins) rfl rfl rfl hc i _ s3 σ3 H3 _ I3 (stat fr3) st3 stop) λr s4 ⟨hr,I4⟩=> ?_
   subst hr;obtain⟨m,ns,_⟩:=id I4.loc;have u4:Un (vK X.stack) fp H2 H3 s2.heap s4.heap:=I4.base;have nC:H3 C=none:=I4.free;have I5:z5 X pins σ H3 s4:=I2.call' (ch:=fp) I4.os u4 I4.hok I4.bare λb hb=>⟨(f2 b hb).2.2.2.1,(f2 b hb).2.1,(f2 b hb).2.2.2.2.1,(f2 b hb).2.2.2.2.2⟩;obtain⟨eD,nD,_⟩:=I4.pin (D,_) (List.mem_append_right _ List.mem_cons_self);have lL:X.env.locals < D:=by have:=I2.lt;rw[hDd]at this;exact this
   have lcl: ∀x c,X.env.cells.lookup x=some c->c < D:=λx c e=>by
    obtain⟨v,o,ho,_⟩:=I2.cell x c e;have:=Heap.lt_size ho;rw[hDd]at this;exact this
   have lp: ∀p∈X.pn++pins,p.1 < D:=λp hp=>by have:=Heap.lt_size (I2.pin p hp).1;rw[hDd]at this;exact this
   have lDC:D < C:=Nat.lt_of_le_of_ne hCle hDC;have I6:z5 X pins σ (zQ H3 D (.lst ys)) s4:=za5 I5 nD (by rw[<- hDd];exact I2.sz) (Nat.ne_of_gt lL) (λx c e=>Nat.ne_of_lt (lcl x c e)) (λp hp=>Nat.ne_of_lt (lp p hp)) ⟨hz,vals,cnt,rv,eD⟩;refine wpAny_assign_Name (zg9 I6 hN hi0 hx (v:= .ref D) rfl (λs5 I7 ⟨a,sba,ha⟩=> ?_) hf);have nCa:C≠a:=by
    rcases ha with z | z
    ·rw[z];exact Nat.ne_of_gt (Nat.lt_trans lL lDC)
    ·exact Nat.ne_of_gt (Nat.lt_trans (lcl _ _ z) lDC)
   obtain⟨oC,esC,epC,eC,rC⟩:=ns;refine⟨m,⟨oC,esC,epC,(sba.2 C nCa).trans eC,rC⟩,λh' sb=> ?_⟩;refine⟨_,_,I7.turned (t':=s5.toks) (it:=C) (λb o hb e=>(sb.2 b hb).trans e) (by rw[yR (Nat.ne_of_gt lDC)];exact nC) (Nat.ne_of_gt (Nat.lt_trans lL lDC)) (.inr (Nat.le_trans (by rw[<- hDd];exact I2.sz) (Nat.le_of_lt lDC))) (λx c e=>Nat.ne_of_lt (Nat.lt_trans (lcl x c e) lDC)) (λp hp=>Nat.ne_of_lt (Nat.lt_trans (lp p hp) lDC)),q D nD⟩
  ·refine y0 (T.item (xC X scope (N'++own) C s2 H2 fp pins) rfl rfl rfl hc i _ s3 σ3 H3 _ I3 (stat fr3) st3 go) λr s4 ⟨u,hr,h4⟩=> ?_
   subst hr;refine y0 h4 λ_ s5 ⟨x,H5,I5,r5,y5,st5,fr5⟩=> ?_;have I5':=I5.pinned (stat fr5) (T.obj _ _ st5);have keepT: ∀{σ7:St} {H7:Hp} {s7:Shared} {pl:List (Addr×Obj)},z5 (xC X scope (N'++own) C s2 H2 fp pins) (pl++sN fp s5.heap) σ7 H7 s7->tn (i+1) s7.heap/\∀b∈fp,H7 b=none:=λ{σ7 H7 s7 pl} I7=>
    ⟨T.keep _ _ _ st5 λb hb o e=>(I7.pin (b,o) (List.mem_append_right _ (List.mem_append_right _ (oU hb e)))).1,λb hb=>by
     obtain⟨o,e,d⟩:=T.obj _ _ st5 b hb;exact(I7.pin (b,o) (List.mem_append_right _ (List.mem_append_right _ (oU hb e)))).2.1⟩
   refine oW (hg C s2 H2 fp pins _ s5 σ3 H5 x u _ I5' r5 (step x H5 y5)) λ_ s6 ⟨σ6,H6,I6,q6⟩=> ?_;refine oW (ht C s2 H2 fp pins _ s6 σ6 H6 _ I6 q6) λb s7 ⟨H7,I7,q7⟩=> ?_;cases b with
   | false=>
    obtain⟨m',hm,w7⟩:=hN _ _ _ q7;obtain⟨t7,fr7⟩:=keepT I7;exact⟨m',hm,i+1,ys,σ6,H7,vals,cnt,I7.unpinned,t7,fr7,rv,w7⟩
   | true=>
    refine oW (he C s2 H2 fp pins _ s7 σ6 H7 _ I7 q7) λy s8 ⟨yv,H8,I8,r8,q8⟩=> ?_;obtain⟨m',hm,w8⟩:=hN _ _ _ q8;obtain⟨eD,nD,neD,nfD,cD⟩:=I8.pin (D,_) (List.mem_append_right _ (List.mem_append_left _ List.mem_cons_self));have hvl:=rv.length;refine call_meets F.slot_list_append ⟨_,eD,rfl⟩ F.entry_list_append (F.args_list_append_2 _ _) (PySem.list_append D vals.toArray cnt y (by rw[List.size_toArray];omega)) ⟨eD,?_⟩;have I8':z5 (xC X scope (N'++own) C s2 H2 fp pins) (sN fp s5.heap) σ6 H8 s8:=I8.pins_of λp hp=>I8.pin p (List.mem_append_right _ (List.mem_append_right _ hp));have hno: ∀p∈(X.pn++pins)++sN fp s5.heap,p.1≠D:=λp hp=>by
     rcases List.mem_append.mp hp with z | z
     ·intro q
      have:=Heap.lt_size (I2.pin p z).1;rw[hDd,q]at this;exact Nat.lt_irrefl _ this
     ·exact fpD _ (zaQ z).1
    have I9:=I8'.turned (t':=s8.toks) (it:=D) (h':=s8.heap.update D (Obj.mapSeq λx=>x.push y)) (λb o hb e=>(Heap.get?_update_other s8.heap _ (Ne.symm hb)).trans e) nD neD (.inr (by show s2.heap.objs.size<=D;rw[hDd];exact Nat.le_refl _))
     (λx c e z=>by
      obtain⟨v,o,ho,_⟩:=I2.cell x c (sV S I2 e);have:=Heap.lt_size ho;rw[hDd,z]at this;exact Nat.lt_irrefl _ this) hno
    obtain⟨t9,fr9⟩:=keepT (pl:= []) I9;have qD: ∃n',(s8.heap.update D (Obj.mapSeq λx=>x.push y)).get? D=some {cls:= .type "list",data:= .seq (vals++ [y]).toArray n'} :=by
     have q:=PySem.IsL.update (l:=D) (items:=vals.toArray) (n:=cnt) (h:=s8.heap) eD λx=>x.push y;have e:vals.toArray.push y=(vals++ [y]).toArray:=by simp
     rw[<- e];exact⟨_,q⟩
    obtain⟨n',qD⟩:=qD;refine⟨m',hm,i+1,ys++ [yv],σ6,H8,vals++ [y],n',I9.pins_of λp hp=> ?_,t9,fr9,rv.append (.cons r8 .nil),w8⟩;have e:=List.mem_singleton.mp hp;rw[e];exact⟨qD,nD,neD,nfD,by intro v z;cases z⟩
 have t4:tn 0 h4:=T.keep _ _ _ st2 λb _ o e=>k4 b o e;exact codeAny_compStart_list (loop _ I4 t4) (T.self _ 0 _ _ _ t4 (loop _ I4 t4))
end
end L2
namespace L2
open PySem PySem.Spec PyProof.Rows PySem.W
section
variable {n:Nat} {rk:Nat->Nat} {cmp:Nat->Nat->(Bool->Shared->Prop)->Shared->Prop} {s:Shared} {p:Array Nat}
end
end L2
namespace L2
open PySem PySem.Spec PyProof.Rows PySem.W
end L2
namespace L2
open PySem PySem.Spec PyProof.Rows PySem.W
section
variable {prog:Program} {w:World} {A:Around} {E:Value->Shared->Prop} {s:Shared}
end
end L2
namespace L2
open PySem PySem.Spec PyProof.Rows PySem.W
section
variable {X:Cx} {pins:List (Addr×Obj)} {σ:St} {H H':Hp} {s:Shared} {h':Heap}
end
end L2
namespace L2
open PySem PySem.Spec PyProof.Rows PySem.W
section
variable {X:Cx}
theorem zcL (hc:X.calm=true):wF X (.type "list") (λxs H Q=> ∃(d:Addr) (kvs:List (z8×V)),xs= [.ref d]/\H d=some (.dK kvs)/\∀p,H p=none->Q (.ref p) (zQ H p (.lst (kvs.map λq=>kV q.1)))):=by
 intro pins s σ H xs us Q I r h;obtain⟨d,kvs,rfl,hd,q⟩:=h;obtain⟨u,rfl,ru⟩:=tW r;cases ru;obtain⟨hz,hsys,vs,kv,dd⟩:=j0 I.hok hd;have hl:=zeJ kv;obtain⟨o,es0,ep,e1,e2,e3,e4,e5,e6⟩:=id dd;refine kdl_call (kdl_dict (knd:=xK X.prog X.w) (kvs:=vs) (ep:=ep) hsys) (I.ok.hd hc) ⟨o,es0,e1,e2,e3,e4,e5,e6⟩ (by rw[<- hl];exact hz) λh' tk acc c k1 k2 hacc=> ?_;refine⟨.ref s.heap.objs.size,_,I.laid (t':=tk) (o:= .lst (kvs.map λq=>kV q.1)) k1 (Nat.le_refl _) ⟨by rw[List.length_map];exact hz,acc.toList,c,nP ?_ λj v x hv hx=> ?_,?_⟩,rfl,q _ I.fresh⟩
 ·rw[List.length_map,hl];exact hacc.1.symm.trans (Array.length_toList).symm
 ·obtain⟨k,y,e1,e2⟩:=hacc.2 j v (by simpa using hv)
  obtain⟨z,e3⟩:=zaB kv e1;rw[List.getElem?_map,e3]at hx;have e4:kV k=x:=Option.some.inj hx;subst e4;rcases tN e2 with⟨i,t,rfl,rfl⟩ | ⟨z',t,rfl,rfl⟩
  ·exact⟨t,rfl⟩
  ·exact⟨t,rfl⟩
 ·rw[Array.toArray_toList];exact k2
end
end L2
namespace L2
open PySem PySem.Spec PyProof.Rows PySem.W
section
variable {prog:Program} {w:World} {A:Around} {E:Value->Shared->Prop} {s:Shared}
end
end L2
namespace L2
open PySem PySem.Spec PyProof.Rows PySem.W
section
variable {prog:Program} {w:World} {A:Around} {E:Value->Shared->Prop} {s:Shared}
end
end L2
namespace L2
open PySem PySem.Spec PyProof.Rows PySem.W
section
variable {X:Cx} {pins:List (Addr×Obj)} {σ:St} {H:Hp} {s:Shared}
end
end L2
namespace L2
open PySem PySem.Spec PyProof.Rows PySem.W
section
variable {X:Cx} {es:List Expr} {t:TA} {pos:Pos}
end
end L2
namespace L2
open PySem PySem.Spec PyProof.Rows PySem.W
def zhm:List (Str×Int)->Str->Int
 | [],_=>0
 | q::l,x=>if q.1=x then q.2 else zhm l x
end L2
namespace L2
open PySem PySem.Spec PyProof.Rows PySem.W
end L2
namespace L2
open PySem PySem.Spec PyProof.Rows PySem.W
end L2
namespace L2
open PySem PySem.Spec PyProof.Rows
section
variable {prog:Program} {w:World} {A:Around} {h:Heap} {g:Array GenState} {d:Drawn} {t:Nat} {os:OsState}
variable {nm q:Str} {C N f:Addr} {bs bm:List Value} {hdct:Bool} {sn:List Str} {sub:List Value} {ab:Bool} {col:Option Bool} {dd:Option Addr} {k0 k1 k2 k3 k5:Option Value}
end
end L2
namespace L2
open PySem PySem.Spec PyProof.Rows
section
variable {prog:Program} {w:World} {A:Around} {E:Value->Shared->Prop} {h:Heap} {g:Array GenState} {d:Drawn} {t:Nat} {os:OsState}
variable {nm q:Str} {C N f e:Addr} {bs bm:List Value} {hdct:Bool} {sn:List Str} {sub:List Value} {ab:Bool} {col:Option Bool} {dd od:Option Addr} {k0 k1 k2 k3 k5:Option Value} {t0:Addr}
end
end L2
namespace L2
open PySem PySem.Spec PyProof.Rows Builtin Builtin.ObjectAttr
section
variable {prog:Program} {w:World} {A:Around} {E:Value->Shared->Prop} {s:Shared} {K:Frag} {C HE e t0:Addr} {cd:ClassData} {name:Str} {v:Value}
end
end L2
namespace L2
open PySem PySem.Spec PyProof.Rows Builtin Builtin.ObjectAttr
section
variable {prog:Program} {w:World} {A:Around} {E:Value->Shared->Prop} {s:Shared} {K:Frag} {C HE e t0 dx:Addr} {cd:ClassData} {name:Str} {v:Value} {od:Obj}
end
end L2
namespace L2
open PySem PySem.Spec PyProof.Rows Builtin Builtin.ObjectAttr
section
variable {prog:Program} {w:World} {A:Around} {E:Value->Shared->Prop} {s:Shared} {K:Frag} {C HE e:Addr} {cd:ClassData} {ox:Obj} {odo:Option Obj}
end
end L2
namespace L2
open PySem PySem.Spec PyProof.Rows
abbrev TJ:=St->Hp->Str->VK->Prop
section
variable {X:Cx} {e e2:Expr} {es:List Expr} {te:TE} {t:TJ} {pos:Pos}
end
section
variable {X:Cx} {CX:uS} {k:Nat} {f C HE:Addr} {fd:FuncData} {ps:List Str} {sp:Sp} {ds:List Value} {dvs:List V} {E:XK}
variable {x:Str} {p pos apos pos':Pos} {e o value:Expr} {es:List Expr} {te ta tv:TE} {t:TA}
end
end L2
namespace L2
open PySem PySem.Spec PyProof.Rows
theorem z5.turnedL {X:Cx}{pins:List (Addr×Obj)}{σ:St}{H:Hp}{s:Shared}{h':Heap}{t':Nat}{fp:List Addr}(I:z5 X pins σ H s)(k: ∀b o,b∉fp->s.heap.get? b=some o->h'.get? b=some o)(hf: ∀b∈fp,tY X pins H b):
  z5 X pins σ H {s with heap:=h',toks:=t'} :=by
 have nit: ∀b u,H b=some u->b∉fp:=λb u e z=>by rw[(hf b z).1]at e;cases e
 refine I.step (g':=s.gens) (d':=s.drawn) (ch:=fp) (λb hb=>⟨(hf b hb).2.2.2.1,(hf b hb).2.1,(hf b hb).2.2.2.2.1,(hf b hb).2.2.2.2.2⟩) (λb o _ _ hc e _=>k b o hc e) (λb o _ _ hc e _=>⟨o.slots,k b o hc e⟩) (λ_ _ _ _ n=>n)
  (λb o hc e=>⟨o,k b o hc e⟩) (λ_ _ e=>e) (λ_ _ _ e=>e) (λb ps e=>⟨#[],by rw[e];simp⟩) (λm hm=> ?_) (λb u e=> ?_) I.bare
 ·obtain⟨o,es,ep,ho,r⟩:=hm
  exact⟨o,es,ep,k _ o (λz=>(hf _ z).2.1 rfl) ho,r⟩
 ·refine(I.hok b u e).stay (λc v hc q=>k c v ?_ q) (λ_ q=>q) λ_ _ q=>q
  rcases hc with z | z
  ·rw[z];exact nit b u e
  ·exact nit c _ z
section
variable {X:Cx} {elts:List Expr} {k:Nat} {pos':Pos}
end
end L2
namespace L3
open PySem PySem.Spec PyProof.Rows L2
abbrev St:=L2.St
structure qM where
 f:Addr
 o:Obj
 q:Str
 c:Addr
 c':Addr
 oz:Obj
 dd:Addr
 kvs:List (List Int×Int)
inductive PV where
 | non | bl (b:Bool) | int (i:Int) | str (x:Str) | ty (n:String)
 | tup (xs:List PV) | lst (xs:List PV) | dct (kvs:List (z8×PV)) | itb (kvs:List (List Int×Int)) | clo (D:qM) | obj (n:Nat)
def zbL (kvs:List (List Int×Int)):List (List z8×V):=kvs.map λp=>(p.1.map Sum.inl,V.int p.2)
inductive PO where
 | lst (xs:List PV) | dct (kvs:List (z8×PV)) | tbl (T:Addr) (pos:Pos) (q:Str) | itb (kvs:List (List Int×Int)) | rcd (kvs:List (z8×PV))
abbrev z6:=List PO
abbrev zH:=List (Option PV)
abbrev K3:=PV->z6->Prop
def zhR (K:Frag)(a:Addr)(vs:List V):Prop:= ∃(o:Obj) (its:Array Value) (n:Nat),K.lookup a=some o/\o.cls= .type "tuple" /\o.dict=none/\o.data= .seq its n/\its.size<=sizeLine/\zM vs its.toList
def zhQ (K:Frag)(a:Addr)(vs:List V):Prop:= ∃(o:Obj) (its:Array Value) (n:Nat),K.lookup a=some o/\o.cls= .type "list" /\o.dict=none/\o.data= .seq its n/\its.size<=sizeLine/\zM vs its.toList/\o.slots= #[]
def sB (K:Frag)(A:List Addr)(H:Hp)(a:Addr)(vs:List V):Prop:=(Rd H a (.tup vs)/\a∉A)∨zhR K a vs
def sA (K:Frag)(A:List Addr)(H:Hp)(a:Addr)(vs:List V):Prop:=(Rd H a (.lst vs)/\a∉A)∨zhQ K a vs
def zhu (A:List Addr)(H:Hp)(a:Addr)(us:List (z8×V)):Prop:=H a=some (.dK us)/\a∉A
structure zhs (A:List Addr)(H:Hp)(D:qM):Prop where
 fn:H D.f=some (.ext (zcu D.f D.o))/\D.f∉A
 cd:H D.c'=some (.ext (zca D.c' D.q))/\D.c'∉A
 cl:H D.c=some (.ext (zcu D.c D.oz))/\D.c∉A
 dt:H D.dd=some (.dT (zbL D.kvs))/\D.dd∉A
mutual
inductive RV (K:Frag)(A:List Addr)(H:Hp):PV->V->Prop
 | non:RV K A H .non .non
 | bl (b:Bool):RV K A H (.bl b) (.bl b)
 | int (i:Int):RV K A H (.int i) (.int i)
 | str (x:Str):RV K A H (.str x) (.str x)
 | ty (n:String):RV K A H (.ty n) (.ty n)
 | tup {xs:List PV} {a:Addr} {vs:List V} :sB K A H a vs->vs.length<=sizeLine->RVs K A H xs vs->RV K A H (.tup xs) (.ref a)
 | lst {xs:List PV} {a:Addr} {vs:List V} :sA K A H a vs->vs.length<=sizeLine->RVs K A H xs vs->RV K A H (.lst xs) (.ref a)
 | dct {kvs:List (z8×PV)} {a:Addr} {us:List (z8×V)} :zhu A H a us->us.length<=sizeLine->RKs K A H kvs us->RV K A H (.dct kvs) (.ref a)
 | itb {kvs:List (List Int×Int)} {a:Addr} :H a=some (.dT (zbL kvs))->a∉A->RV K A H (.itb kvs) (.ref a)
 | clo {D:qM} :zhs A H D->RV K A H (.clo D) (.ref D.f)
inductive RVs (K:Frag)(A:List Addr)(H:Hp):List PV->List V->Prop
 | nil:RVs K A H [] []
 | cons {x:PV} {v:V} {xs:List PV} {vs:List V} :RV K A H x v->RVs K A H xs vs->RVs K A H (x::xs) (v::vs)
inductive RKs (K:Frag)(A:List Addr)(H:Hp):List (z8×PV)->List (z8×V)->Prop
 | nil:RKs K A H [] []
 | cons {k:z8} {x:PV} {v:V} {xs:List (z8×PV)} {vs:List (z8×V)} :RV K A H x v->RKs K A H xs vs->RKs K A H ((k,x)::xs) ((k,v)::vs)
end
structure zZ (A:List Addr)(H:Hp)(A':List Addr)(H':Hp):Prop where
 ext: ∃B,A'=A++B/\∀b∈B,H b=none
 keep: ∀b o,H b=some o->b∉A->H' b=some o
 live: ∀b,H b≠none->H' b≠none
theorem zZ.refl (A:List Addr)(H:Hp):zZ A H A H:=⟨⟨[],by simp,by simp⟩,λ_ _ h _=>h,λ_ h=>h⟩
theorem zZ.out {A A':List Addr}{H H':Hp}(g:zZ A H A' H'){b:Addr}{o:HO}(h:H b=some o)(n:b∉A):b∉A':=by
 obtain⟨B,rfl,hB⟩:=g.ext;intro m;rcases List.mem_append.mp m with m | m
 ·exact n m
 ·rw[hB b m]at h;cases h
theorem zZ.trans {A A1 A2:List Addr}{H H1 H2:Hp}(g:zZ A H A1 H1)(g':zZ A1 H1 A2 H2):zZ A H A2 H2:=by
 refine⟨?_,λb o h n=>g'.keep b o (g.keep b o h n) (g.out h n),λb h=>g'.live b (g.live b h)⟩;obtain⟨B,rfl,hB⟩:=g.ext;obtain⟨C,rfl,hC⟩:=g'.ext;refine⟨B++C,by simp,λb m=> ?_⟩;rcases List.mem_append.mp m with m | m
 ·exact hB b m
 ·by_cases h:H b=none
  ·exact h
  ·exact absurd (hC b m) (g.live b h)
theorem zZ.sub {A A':List Addr}{H H':Hp}(g:zZ A H A' H'){i:Nat}{a:Addr}(h:A[i]?=some a):A'[i]?=some a:=by
 obtain⟨B,rfl,_⟩:=g.ext;rw[List.getElem?_append_left (List.getElem?_eq_some_iff.mp h).1];exact h
theorem zZ.new {A:List Addr}{H:Hp}{p:Addr}{o:HO}(h:H p=none):zZ A H A (zQ H p o):=by
 refine⟨⟨[],by simp,by simp⟩,λb u e _=>by rw[yR (tP e h)];exact e,λb hb=> ?_⟩;by_cases e:b=p
 ·subst e;rw[x9];exact Option.some_ne_none _
 ·rw[yR e];exact hb
theorem zZ.newObj {A:List Addr}{H:Hp}{p:Addr}{o:HO}(h:H p=none):zZ A H (A++ [p]) (zQ H p o):=by
 refine⟨⟨[p],rfl,λb m=>by rw[List.mem_singleton.mp m];exact h⟩,(zZ.new (A:=A) h).keep,(zZ.new (A:=A) h).live⟩
theorem zZ.put {A:List Addr}{H:Hp}{p:Addr}{o:HO}(h:p∈A):zZ A H A (zQ H p o):=by
 refine⟨⟨[],by simp,by simp⟩,λb u e n=>by rw[yR (λz=>n (by rw[z];exact h))];exact e,λb hb=> ?_⟩;by_cases e:b=p
 ·subst e;rw[x9];exact Option.some_ne_none _
 ·rw[yR e];exact hb
section
variable {K:Frag} {A A':List Addr} {H H':Hp}
theorem sB.sq {a:Addr}{vs:List V}(h:sB K A H a vs):xM K H a vs:=h.imp And.left id
theorem sA.sq {a:Addr}{vs:List V}(h:sA K A H a vs):yX K H a vs:=h.imp And.left id
theorem Rd.grow {a:Addr}{u:HO}(g:zZ A H A' H')(h:Rd H a u/\a∉A):Rd H' a u/\a∉A':=by
 obtain⟨h | ⟨o,h⟩,n⟩:=h
 ·exact⟨.inl (g.keep _ _ h n),g.out h n⟩
 ·exact⟨.inr ⟨o,g.keep _ _ h n⟩,g.out h n⟩
theorem sB.grow {a:Addr}{vs:List V}(g:zZ A H A' H')(h:sB K A H a vs):sB K A' H' a vs:=h.imp (Rd.grow g) id
theorem sA.grow {a:Addr}{vs:List V}(g:zZ A H A' H')(h:sA K A H a vs):sA K A' H' a vs:=h.imp (Rd.grow g) id
mutual
theorem RV.grow (g:zZ A H A' H'){x:PV}{v:V} :RV K A H x v->RV K A' H' x v
 | .non=> .non
 | .bl b=> .bl b
 | .int i=> .int i
 | .str x=> .str x
 | .ty n=> .ty n
 | .tup t z r=> .tup (t.grow g) z (RVs.grow g r)
 | .lst t z r=> .lst (t.grow g) z (RVs.grow g r)
 | .dct t z r=> .dct ⟨g.keep _ _ t.1 t.2,g.out t.1 t.2⟩ z (RKs.grow g r)
 | .itb e n=> .itb (g.keep _ _ e n) (g.out e n)
 | .clo h=> .clo ⟨⟨g.keep _ _ h.fn.1 h.fn.2,g.out h.fn.1 h.fn.2⟩,⟨g.keep _ _ h.cd.1 h.cd.2,g.out h.cd.1 h.cd.2⟩,⟨g.keep _ _ h.cl.1 h.cl.2,g.out h.cl.1 h.cl.2⟩,⟨g.keep _ _ h.dt.1 h.dt.2,g.out h.dt.1 h.dt.2⟩⟩
theorem RVs.grow (g:zZ A H A' H'){xs:List PV}{vs:List V} :RVs K A H xs vs->RVs K A' H' xs vs
 | .nil=> .nil
 | .cons r t=> .cons (RV.grow g r) (RVs.grow g t)
theorem RKs.grow (g:zZ A H A' H'){xs:List (z8×PV)}{vs:List (z8×V)} :RKs K A H xs vs->RKs K A' H' xs vs
 | .nil=> .nil
 | .cons r t=> .cons (RV.grow g r) (RKs.grow g t)
end
theorem RVs.len {xs:List PV}{vs:List V} :RVs K A H xs vs->xs.length=vs.length
 | .nil=>rfl
 | .cons _ t=>by rw[List.length_cons,List.length_cons,RVs.len t]
theorem RKs.len {xs:List (z8×PV)}{vs:List (z8×V)} :RKs K A H xs vs->xs.length=vs.length
 | .nil=>rfl
 | .cons _ t=>by rw[List.length_cons,List.length_cons,RKs.len t]
theorem RVs.append {xs ys:List PV}{vs ws:List V} :RVs K A H xs vs->RVs K A H ys ws->RVs K A H (xs++ys) (vs++ws)
 | .nil,h=>h
 | .cons r t,h=> .cons r (RVs.append t h)
theorem RVs.get {xs:List PV}{vs:List V}{i:Nat}{x:PV}(h:RVs K A H xs vs)(e:xs[i]?=some x): ∃v,vs[i]?=some v/\RV K A H x v:=by
 induction i generalizing xs vs with
 | zero=>cases h with
  | nil=>cases e
  | cons r t=>simp at e;subst e;exact⟨_,rfl,r⟩
 | succ i ih=>cases h with
  | nil=>cases e
  | cons r t=>simpa using ih t (by simpa using e)
theorem RVs.get' {xs:List PV}{vs:List V}{i:Nat}{v:V}(h:RVs K A H xs vs)(e:vs[i]?=some v): ∃x,xs[i]?=some x/\RV K A H x v:=by
 induction i generalizing xs vs with
 | zero=>cases h with
  | nil=>cases e
  | cons r t=>simp at e;subst e;exact⟨_,rfl,r⟩
 | succ i ih=>cases h with
  | nil=>cases e
  | cons r t=>simpa using ih t (by simpa using e)
theorem RVs.drop {xs:List PV}{vs:List V}(h:RVs K A H xs vs)(n:Nat):RVs K A H (xs.drop n) (vs.drop n):=by
 induction n generalizing xs vs with
 | zero=>exact h
 | succ n ih=>cases h with
  | nil=>exact .nil
  | cons r t=>exact ih t
theorem RVs.take {xs:List PV}{vs:List V}(h:RVs K A H xs vs)(n:Nat):RVs K A H (xs.take n) (vs.take n):=by
 induction n generalizing xs vs with
 | zero=>exact .nil
 | succ n ih=>cases h with
  | nil=>exact .nil
  | cons r t=>exact .cons r (ih t)
theorem RVs.reverse {xs:List PV}{vs:List V}(h:RVs K A H xs vs):RVs K A H xs.reverse vs.reverse:=by
 induction xs generalizing vs with
 | nil=>cases h;exact .nil
 | cons x xs ih=>cases h with
  | cons r t=>rw[List.reverse_cons,List.reverse_cons];exact(ih t).append (.cons r .nil)
inductive RE (K:Frag)(A:List Addr)(H:Hp):PV->V->Prop
 | val {x:PV} {v:V} :RV K A H x v->RE K A H x v
 | obj {i:Nat} {a:Addr} :A[i]?=some a->RE K A H (.obj i) (.ref a)
theorem RE.grow (g:zZ A H A' H'){x:PV}{v:V} :RE K A H x v->RE K A' H' x v
 | .val r=> .val (r.grow g)
 | .obj e=> .obj (g.sub e)
abbrev yU (K:Frag)(A:List Addr)(H:Hp):List PV->List V->Prop:=Paired (RE K A H)
theorem yU.grow (g:zZ A H A' H'){xs:List PV}{vs:List V} :yU K A H xs vs->yU K A' H' xs vs
 | .nil=> .nil
 | .cons r t=> .cons (r.grow g) (yU.grow g t)
inductive RR (K:Frag)(A:List Addr)(H:Hp)(a:Addr):PV->V->Prop
 | val {x:PV} {v:V} :RV K A H x v->RR K A H a x v
 | obj {i j:Nat} {p:Addr} :A[i]?=some a->j < i->A[j]?=some p->RR K A H a (.obj j) (.ref p)
abbrev xQ (K:Frag)(A:List Addr)(H:Hp)(a:Addr):List (z8×PV)->List (z8×V)->Prop:=Paired λp q=>p.1=q.1/\RR K A H a p.2 q.2
theorem RR.grow (g:zZ A H A' H'){a:Addr}{x:PV}{v:V} :RR K A H a x v->RR K A' H' a x v
 | .val r=> .val (r.grow g)
 | .obj e l e'=> .obj (g.sub e) l (g.sub e')
theorem xQ.grow (g:zZ A H A' H'){a:Addr}{xs:List (z8×PV)}{vs:List (z8×V)} :xQ K A H a xs vs->xQ K A' H' a xs vs
 | .nil=> .nil
 | .cons r t=> .cons ⟨r.1,r.2.grow g⟩ (xQ.grow g t)
def OA (K:Frag)(A:List Addr)(H:Hp)(a:Addr):PO->Prop
 | .lst xs=> ∃vs,H a=some (.lst vs)/\RVs K A H xs vs/\vs.length<=sizeLine
 | .dct kvs=> ∃us,H a=some (.dK us)/\RKs K A H kvs us/\us.length<=sizeLine
 | .tbl T pos q=>a=T/\∃ps,H a=some (.tbl ps)/\(ps= #[]∨∃c',ps= #[rawInt pos.line,rawInt pos.col,.ref c']/\H c'=some (.ext (zca c' q))/\c'∉A)
 | .itb kvs=>H a=some (.dT (zbL kvs))
 | .rcd kvs=> ∃us,H a=some (.dK us)/\xQ K A H a kvs us/\us.length<=sizeLine
structure RS (K:Frag)(A:List Addr)(H:Hp)(st:z6):Prop where
 nd:A.Nodup
 len:A.length=st.length
 at_: ∀(i:Nat) (a:Addr) (o:PO),A[i]?=some a->st[i]?=some o->OA K A H a o
structure xE (K:Frag)(A:List Addr)(H:Hp)(σ:St)(env:zH)(st:z6):Prop where
 rs:RS K A H st
 len:env.length=σ.length
 at_: ∀(i:Nat) (x:PV),env[i]?=some (some x)->∃v,σ[i]?=some (some v)/\RE K A H x v
theorem xE.grow {σ:St}{env:zH}{st st':z6}(r:xE K A H σ env st)(g:zZ A H A' H')(s:RS K A' H' st'):xE K A' H' σ env st':=
 ⟨s,r.len,λi x e=>let⟨v,e1,r1⟩:=r.at_ i x e;⟨v,e1,r1.grow g⟩⟩
theorem OA.move {a:Addr}{o:PO}(h:OA K A H a o)(g:zZ A H A' H')(e:H' a=H a):OA K A' H' a o:=by
 cases o with
 | lst xs=>obtain⟨vs,h,r,z⟩:=h;exact⟨vs,by rw[e];exact h,r.grow g,z⟩
 | dct xs=>obtain⟨vs,h,r,z⟩:=h;exact⟨vs,by rw[e];exact h,r.grow g,z⟩
 | tbl T pos q=>
  obtain⟨ea,ps,h,r⟩:=h;refine⟨ea,ps,by rw[e];exact h,r.imp id ?_⟩;rintro⟨c',e1,e2,e3⟩;exact⟨c',e1,g.keep _ _ e2 e3,g.out e2 e3⟩
 | itb kvs=>exact e.trans h
 | rcd xs=>obtain⟨vs,h,r,z⟩:=h;exact⟨vs,by rw[e];exact h,xQ.grow g r,z⟩
theorem OA.some {a:Addr}{o:PO}(h:OA K A H a o):H a≠none:=by
 cases o with
 | lst xs=>obtain⟨vs,h,r⟩:=h;rw[h];exact Option.some_ne_none _
 | dct xs=>obtain⟨vs,h,r⟩:=h;rw[h];exact Option.some_ne_none _
 | tbl T pos q=>obtain⟨_,ps,h,r⟩:=h;rw[h];exact Option.some_ne_none _
 | itb kvs=>rw[show H a=_ from h];exact Option.some_ne_none _
 | rcd xs=>obtain⟨vs,h,r⟩:=h;rw[h];exact Option.some_ne_none _
theorem RS.has {st:z6}(r:RS K A H st){a:Addr}(h:a∈A): ∃(i:Nat) (o:PO),A[i]?=some a/\st[i]?=some o/\OA K A H a o:=by
 obtain⟨i,hi,e⟩:=List.getElem_of_mem h;have hs:i < st.length:=by rw[<- r.len];exact hi
 have e1:A[i]?=some a:=by rw[List.getElem?_eq_getElem hi,e]
 have e2:st[i]?=some st[i]:=List.getElem?_eq_getElem hs;exact⟨i,st[i],e1,e2,r.at_ i a _ e1 e2⟩
theorem RS.live {st:z6}(r:RS K A H st){a:Addr}(h:a∈A):H a≠none:=let⟨_,_,_,_,o⟩:=r.has h;o.some
theorem RS.move {st:z6}(r:RS K A H st)(g:zZ A H A H')(e: ∀a∈A,H' a=H a):RS K A H' st:=
 ⟨r.nd,r.len,λi a o h1 h2=>(r.at_ i a o h1 h2).move g (e a (List.mem_of_getElem? h1))⟩
theorem RS.fresh {st:z6}(r:RS K A H st){p:Addr}(h:H p=none):p∉A:=λm=>r.live m h
theorem RS.new {st:z6}(r:RS K A H st){p:Addr}{o:HO}(h:H p=none):RS K A (zQ H p o) st:=
 r.move (.new h) λa m=>yR λz=>r.fresh h (z▸m)
theorem RS.newObj {st:z6}(r:RS K A H st){p:Addr}{o:HO}{q:PO}(h:H p=none)(hq:OA K (A++ [p]) (zQ H p o) p q):RS K (A++ [p]) (zQ H p o) (st++ [q]):=by
 refine⟨?_,by rw[List.length_append,List.length_append,r.len];rfl,λi a u h1 h2=> ?_⟩
 ·refine List.nodup_append.mpr ⟨r.nd,by simp,λa ha b hb=> ?_⟩
  rw[List.mem_singleton.mp hb];exact λz=>r.fresh h (z▸ha)
 ·by_cases hi:i < A.length
  ·rw[List.getElem?_append_left hi]at h1
   rw[List.getElem?_append_left (by rw[<- r.len];exact hi)]at h2;exact(r.at_ i a u h1 h2).move (.newObj h) (yR λz=>r.fresh h (z▸List.mem_of_getElem? h1))
  ·have hi':i=A.length:=by
    have:=(List.getElem?_eq_some_iff.mp h1).1;rw[List.length_append,List.length_singleton]at this;omega
   subst hi';rw[List.getElem?_append_right (Nat.le_refl _),Nat.sub_self]at h1;rw[r.len,List.getElem?_append_right (Nat.le_refl _),Nat.sub_self]at h2;cases h1;cases h2;exact hq
theorem RS.put {st:z6}(r:RS K A H st){i:Nat}{p:Addr}{o:HO}{q:PO}(h:A[i]?=some p)(hq:OA K A (zQ H p o) p q):RS K A (zQ H p o) (st.set i q):=by
 have hp:=List.mem_of_getElem? h;refine⟨r.nd,by rw[List.length_set];exact r.len,λj a u h1 h2=> ?_⟩;by_cases hij:i=j
 ·subst hij
  rw[h]at h1;cases h1;rw[List.getElem?_set_self (by rw[<- r.len];exact(List.getElem?_eq_some_iff.mp h).1)]at h2;cases h2;exact hq
 ·rw[List.getElem?_set_ne hij]at h2
  refine(r.at_ j a u h1 h2).move (.put hp) (yR λz=>hij ?_);subst z;exact(List.getElem?_inj (List.getElem?_eq_some_iff.mp h).1 r.nd).mp (h.trans h1.symm)
end
end L3
namespace L3
open PySem PySem.Spec PyProof.Rows L2
abbrev zD:=zH->z6->K3->Prop
abbrev xF:=zH->z6->(Bool->z6->Prop)->Prop
abbrev yK:=zH->z6->(List PV->z6->Prop)->Prop
structure xS where
 nx:zH->z6->Prop
 rt:K3
 bk:zH->z6->Prop:=λ_ _=>False
 ct:zH->z6->Prop:=λ_ _=>False
abbrev yY:=xS->zH->z6->Prop
abbrev w9:=PV->zH->z6->(zH->z6->Prop)->Prop
abbrev uW:=List PV->zH->z6->(zH->z6->Prop)->Prop
abbrev w5:=Option (Nat×PO)
abbrev uD:=zH->z6->(w5->List PV->z6->Prop)->Prop
abbrev R3:=PV->PV->z6->K3->Prop
abbrev y4:=List PV->z6->K3->Prop
def w4 (K:Frag)(A:List Addr)(H:Hp)(Q3:K3)(Q:VK):Prop:= ∀A' H' st' r v,zZ A H A' H'->RS K A' H' st'->RE K A' H' r v->Q3 r st'->Q v H'
def kD (K:Frag)(A:List Addr)(H:Hp)(Q3:Bool->z6->Prop)(Q:Bool->Hp->Prop):Prop:= ∀A' H' st' b,zZ A H A' H'->RS K A' H' st'->Q3 b st'->Q b H'
def zhy (K:Frag)(A:List Addr)(H:Hp)(Q3:List PV->z6->Prop)(Q:List V->Hp->Prop):Prop:= ∀A' H' st' rs vs,zZ A H A' H'->RS K A' H' st'->yU K A' H' rs vs->Q3 rs st'->Q vs H'
def rN (K:Frag)(A:List Addr)(H:Hp)(P3:zH->z6->Prop)(P:St->Hp->Prop):Prop:= ∀A' H' σ' env' st',zZ A H A' H'->xE K A' H' σ' env' st'->P3 env' st'->P σ' H'
structure kC (K:Frag)(A:List Addr)(H:Hp)(D3:xS)(D:tX):Prop where
 nx:rN K A H D3.nx D.nx
 rt:w4 K A H D3.rt D.rt
 bk:rN K A H D3.bk D.bk
 ct:rN K A H D3.ct D.ct
section
variable {K:Frag} {A A1:List Addr} {H H1:Hp}
theorem w4.after {Q3:K3}{Q:VK}(f:w4 K A H Q3 Q)(g:zZ A H A1 H1):w4 K A1 H1 Q3 Q:=λA' H' st' r v g'=>f A' H' st' r v (g.trans g')
theorem kD.after {Q3:Bool->z6->Prop}{Q:Bool->Hp->Prop}(f:kD K A H Q3 Q)(g:zZ A H A1 H1):kD K A1 H1 Q3 Q:=λA' H' st' r g'=>f A' H' st' r (g.trans g')
theorem rN.after {Q3:zH->z6->Prop}{Q:St->Hp->Prop}(f:rN K A H Q3 Q)(g:zZ A H A1 H1):rN K A1 H1 Q3 Q:=λA' H' σ' e' st' g'=>f A' H' σ' e' st' (g.trans g')
theorem kC.after {D3:xS}{D:tX}(f:kC K A H D3 D)(g:zZ A H A1 H1):kC K A1 H1 D3 D:=⟨f.nx.after g,f.rt.after g,f.bk.after g,f.ct.after g⟩
theorem w4.now {Q3:K3}{Q:VK}(f:w4 K A H Q3 Q){st:z6}{r:PV}{v:V}(s:RS K A H st)(e:RE K A H r v)(q:Q3 r st):Q v H:=f A H st r v (.refl _ _) s e q
end
def zR (K:Frag)(T:zD):TE:=λσ H Q=> ∃A env st Q3,xE K A H σ env st/\T env st Q3/\w4 K A H Q3 Q
def xB (K:Frag)(T:xF):TT:=λσ H Q=> ∃A env st Q3,xE K A H σ env st/\T env st Q3/\kD K A H Q3 Q
def vO (K:Frag)(T:yK):TA:=λσ H Q=> ∃A env st Q3,xE K A H σ env st/\T env st Q3/\zhy K A H Q3 Q
def xO (K:Frag)(T:yY):TS:=λD σ H=> ∃A env st D3,xE K A H σ env st/\T D3 env st/\kC K A H D3 D
def vP (K:Frag)(G:w9):TG:=λv σ H Q=> ∃A env st x Q3,xE K A H σ env st/\RE K A H x v/\G x env st Q3/\rN K A H Q3 Q
def mJ (K:Frag)(G:uW):uA:=λvs σ H Q=> ∃A env st xs Q3,xE K A H σ env st/\yU K A H xs vs/\G xs env st Q3/\rN K A H Q3 Q
def xU (K:Frag)(R:R3):R2:=λv w H Q=> ∃A st x y Q3,RS K A H st/\RE K A H x v/\RE K A H y w/\R x y st Q3/\w4 K A H Q3 Q
def gY (K:Frag)(R:PV->z6->K3->Prop):V->Hp->VK->Prop:=λv H Q=> ∃A st x Q3,RS K A H st/\RE K A H x v/\R x st Q3/\w4 K A H Q3 Q
def uX (K:Frag)(R:y4):List V->Hp->VK->Prop:=λvs H Q=> ∃A st xs Q3,RS K A H st/\yU K A H xs vs/\R xs st Q3/\w4 K A H Q3 Q
def zG (K:Frag)(S:y4):Sp:=λvs H Q _=>uX K S vs H Q
section
variable {X:Cx} {a b c e:Expr} {es:List Expr} {pos p p2:Pos} {Ta Tb Tc:zD} {TA:yK} {tc td:xF}
theorem xP {t t':TE}(h:PE X e t)(w: ∀σ H Q,t' σ H Q->t σ H Q):PE X e t':=⟨λpins s σ H Q I q=>h pins s σ H Q I (w σ H Q q)⟩
theorem zbf {t t':TT}(h:PT X e t)(w: ∀σ H Q,t' σ H Q->t σ H Q):PT X e t':=⟨λpins s σ H Q I q=>h pins s σ H Q I (w σ H Q q)⟩
theorem zfD {t t':TT}(h:PW X e t)(w: ∀σ H Q,t' σ H Q->t σ H Q):PW X e t':=⟨λwh pins s σ H Q I q=>h wh pins s σ H Q I (w σ H Q q)⟩
theorem zfw {t t':L2.TA}(h:PA X es t)(w: ∀σ H Q,t' σ H Q->t σ H Q):PA X es t':=⟨λpos pins s σ H Q I q=>h pos pins s σ H Q I (w σ H Q q)⟩
theorem zmH {t t':TT}(h:PF X es t)(w: ∀σ H Q,t' σ H Q->t σ H Q):PF X es t':=⟨λpins s σ H Q I q=>h pins s σ H Q I (w σ H Q q)⟩
theorem sO {st:Stmt}{t t':TS}(h:PS X st t)(w: ∀D σ H,t' D σ H->t D σ H):PS X st t':=⟨λpins s σ H D I q=>h pins s σ H D I (w D σ H q)⟩
theorem jN {st:List Stmt}{t t':TS}(h:xJ X st t)(w: ∀D σ H,t' D σ H->t D σ H):xJ X st t':=⟨λpins s σ H D I q=>h pins s σ H D I (w D σ H q)⟩
theorem zbd {tg:Expr}{t t':TG}(h:PG X tg t)(w: ∀v σ H Q,t' v σ H Q->t v σ H Q):PG X tg t':=⟨λpins s σ H v u Q I r q=>h pins s σ H v u Q I r (w v σ H Q q)⟩
theorem zf6 {tg:List Expr}{t t':uA}(h:vS X tg t)(w: ∀v σ H Q,t' v σ H Q->t v σ H Q):vS X tg t':=⟨λpins s σ H v u Q I r q=>h pins s σ H v u Q I r (w v σ H Q q)⟩
def vQ (i:Nat):zD:=λenv st Q=>match env[i]? with | some (some x)=>Q x st | _=>False
theorem ziL {K:Frag}{i:Nat}{σ:St}{H:Hp}{Q:VK} :zR K (vQ i) σ H Q->iB i σ H Q:=by
 rintro⟨A,env,st,Q3,rel,h,k⟩;unfold vQ at h
 split at h
 ·rename_i x e
  obtain⟨v,e1,r⟩:=rel.at_ i x e;exact⟨v,e1,k.now rel.rs r h⟩
 ·exact h.elim
theorem qv (i:Nat){x:Str}{pos:Pos}(hN:X.N[i]?=some x:=by rfl)(hv:gG X.env.scope x:=by first | exact Or.inl rfl | exact Or.inr (Or.inl rfl) | exact Or.inr (Or.inr rfl))(hd:(x==("__debug__" :Str))=false:=by decide)
  (hcd:(x==("__classdict__" :Str))=false:=by decide):PE X (.Name x pos) (zR X.K (vQ i)):=xP (zbb hN hv hd hcd) λ_ _ _=>ziL
def vC (x:PV):zD:=λ_ st Q=>Q x st
theorem mL {K:Frag}{x:PV}{v:V}(hr: ∀A H,RE K A H x v){σ:St}{H:Hp}{Q:VK} :zR K (vC x) σ H Q->tC v σ H Q:=by
 rintro⟨A,env,st,Q3,rel,h,k⟩;exact k.now rel.rs (hr A H) h
theorem z7 {i j pos} :PE X (.Constant (.int i) j pos) (zR X.K (vC (.int i))):=xP zm5 λ_ _ _=>mL λ_ _=> .val (.int i)
theorem zI {x j pos} :PE X (.Constant (.str x) j pos) (zR X.K (vC (.str x))):=xP zba λ_ _ _=>mL λ_ _=> .val (.str x)
theorem sP {b j pos} :PE X (.Constant (.bool b) j pos) (zR X.K (vC (.bl b))):=xP zmx λ_ _ _=>mL λ_ _=> .val (.bl b)
theorem n5 {j pos} :PE X (.Constant .none j pos) (zR X.K (vC .non)):=xP zm9 λ_ _ _=>mL λ_ _=> .val .non
theorem n9 {x:Str}{n:String}{pos:Pos}(hg:Gl X x)(hm:X.mg x=none)(hv:bootBuiltins x=some (.type n))(hn:x≠ "__name__" :=by decide)(hd:(x==("__debug__" :Str))=false:=by decide):PE X (.Name x pos) (zR X.K (vC (.ty n))):=
 xP (zmy (v:= .ty n) hg hm hv rfl hn hd) λ_ _ _=>mL λ_ _=> .val (.ty n)
def rM (R:R3)(Ta Tb:zD):zD:=λenv st Q=>Ta env st λx st1=>Tb env st1 λy st2=>R x y st2 Q
theorem kX {K:Frag}{R:R3}{σ:St}{H:Hp}{Q:VK} :zR K (rM R Ta Tb) σ H Q->lS (xU K R) (zR K Ta) (zR K Tb) σ H Q:=by
 rintro⟨A,env,st,Q3,rel,h,k⟩;exact⟨A,env,st,_,rel,h,λA1 H1 st1 x v g1 s1 e1 h1=>⟨A1,env,st1,_,rel.grow g1 s1,h1,λA2 H2 st2 y w g2 s2 e2 h2=>⟨A2,st2,x,y,Q3,s2,e1.grow g2,e2,h2,k.after (g1.trans g2)⟩⟩⟩
theorem y6 {op:Operator}{R:R3}(ho:yG X (binaryOp op) (xU X.K R))(ha:PE X a (zR X.K Ta))(hb:PE X b (zR X.K Tb)):PE X (.BinOp a op b pos) (zR X.K (rM R Ta Tb)):=xP (zmB ho ha hb) λ_ _ _=>kX
theorem uL {op:CmpOp}{R:R3}(ho:yG X (compareOp op) (xU X.K R))(ha:PE X a (zR X.K Ta))(hb:PE X b (zR X.K Tb))(hm:behindInMarks op b=false):PE X (.Compare a [op] [b] pos) (zR X.K (rM R Ta Tb)):=xP (zm4 ho ha hb hm) λ_ _ _=>kX
theorem zE {R:R3}(hr:rP X (xU X.K R))(ha:PE X a (zR X.K Ta))(hb:PE X b (zR X.K Tb))(hs:zc4 b):PE X (.Subscript a b pos) (zR X.K (rM R Ta Tb)):=xP (zm6 hr ha hb hs) λ_ _ _=>kX
def vUn (R:PV->z6->K3->Prop)(Ta:zD):zD:=λenv st Q=>Ta env st λx st1=>R x st1 Q
theorem ziK {K:Frag}{R:PV->z6->K3->Prop}{σ:St}{H:Hp}{Q:VK} :zR K (vUn R Ta) σ H Q->tUn (gY K R) (zR K Ta) σ H Q:=by
 rintro⟨A,env,st,Q3,rel,h,k⟩;exact⟨A,env,st,_,rel,h,λA1 H1 st1 x v g1 s1 e1 h1=>⟨A1,st1,x,Q3,s1,e1,h1,k.after g1⟩⟩
theorem znt {op:UnaryOp}{R:PV->z6->K3->Prop}(ho:mC X (unaryOp op) (gY X.K R))(ha:PE X a (zR X.K Ta)):PE X (.UnaryOp op a pos) (zR X.K (vUn R Ta)):=xP (zmE ho ha) λ_ _ _=>ziK
def lU (T:zD):xF:=λenv st Q=>T env st λx st1=>match x with | .bl k=>Q k st1 | _=>False
theorem ziJ {K:Frag}{T:zD}{σ:St}{H:Hp}{Q:Bool->Hp->Prop} :xB K (lU T) σ H Q->zgH (zR K T) σ H Q:=by
 rintro⟨A,env,st,Q3,rel,h,k⟩;refine⟨A,env,st,_,rel,h,λA1 H1 st1 x v g1 s1 e1 h1=> ?_⟩;cases x with
 | bl b=>
  cases e1 with
  | val e1=>cases e1;exact⟨b,rfl,k A1 H1 st1 b g1 s1 h1⟩
 | _=>exact False.elim h1
theorem y7 {op:CmpOp}{R:R3}(ho:yG X (compareOp op) (xU X.K R))(ha:PE X a (zR X.K Ta))(hb:PE X b (zR X.K Tb))(hm:behindInMarks op b=false):PT X (.Compare a [op] [b] pos) (xB X.K (lU (rM R Ta Tb))):=by
 refine zbf (zng ho ha hb hm) λσ H Q h=> ?_;have:=ziJ h;exact kX this
def tE:PV->z6->(Bool->Prop)->Prop
 | .non,_,k=>k false
 | .bl b,_,k=>k b
 | .int i,_,k=>k (i !=0)
 | .str x,_,k=>x.length<=sizeLine/\k ((x.length:Int) !=0)
 | .tup xs,_,k=>k (!xs.isEmpty)
 | .lst xs,_,k=>k (!xs.isEmpty)
 | .dct xs,_,k=>k (!xs.isEmpty)
 | .obj i,st,k=>match st[i]? with | some (.lst xs)=>k (!xs.isEmpty) | some (.dct xs)=>k (!xs.isEmpty) | _=>False
 | _,_,_=>False
def zhj (T:zD):xF:=λenv st Q=>T env st λx st1=>tE x st1 λk=>Q k st1
theorem RVs.empty {K:Frag}{A:List Addr}{H:Hp}{xs:List PV}{vs:List V}(h:RVs K A H xs vs):vs.isEmpty=xs.isEmpty:=by
 cases h <;> rfl
theorem RKs.empty {K:Frag}{A:List Addr}{H:Hp}{xs:List (z8×PV)}{vs:List (z8×V)}(h:RKs K A H xs vs):vs.isEmpty=xs.isEmpty:=by
 cases h <;> rfl
theorem zoI {K:Frag}{A:List Addr}{H:Hp}{st:z6}{x:PV}{v:V}{P:Bool->Prop}(s:RS K A H st)(e:RE K A H x v)(h:tE x st P): ∃k,gF K v H k/\P k:=by
 cases e with
 | obj e=>
  dsimp only[tE]at h
  split at h
  ·rename_i xs q
   obtain⟨vs,h1,h2,_⟩:=s.at_ _ _ _ e q;exact⟨_,.inl ⟨vs,.of h1,by rw[h2.empty]⟩,h⟩
  ·rename_i xs q
   obtain⟨vs,h1,h2,_⟩:=s.at_ _ _ _ e q;exact⟨_,.inr (.inr ⟨vs,h1,by rw[h2.empty]⟩),h⟩
  ·exact h.elim
 | val e=>
  cases e with
  | non=>exact⟨_,rfl,h⟩
  | bl b=>exact⟨_,rfl,h⟩
  | int i=>exact⟨_,rfl,h⟩
  | str y=>exact⟨_,⟨h.1,rfl⟩,h.2⟩
  | ty n=>exact False.elim h
  | tup t z r=>exact⟨_,.inr (.inl ⟨_,t.sq,by rw[r.empty]⟩),h⟩
  | lst t z r=>exact⟨_,.inl ⟨_,t.sq,by rw[r.empty]⟩,h⟩
  | dct t z r=>exact⟨_,.inr (.inr ⟨_,t.1,by rw[r.empty]⟩),h⟩
  | itb e n=>exact False.elim h
  | clo e=>exact False.elim h
theorem rD (ha:PE X a (zR X.K Ta))(he: ∀whole,isTrue a X.env whole=(do let v <- whole;standAt a.pos;holding [v] (truthy v)):=by intro _;rfl):PT X a (xB X.K (zhj Ta)):=by
 refine zbf (zni ha he) λσ H Q ⟨A,env,st,Q3,rel,h,k⟩=> ?_;refine⟨A,env,st,_,rel,h,λA1 H1 st1 x v g1 s1 e1 h1=> ?_⟩;obtain⟨b,hb,q⟩:=zoI s1 e1 h1;exact⟨b,hb,k A1 H1 st1 b g1 s1 q⟩
def iG (t u:xF):xF:=λenv st Q=>t env st λc st1=>if c=true then u env st1 Q else Q false st1
def vOr (t u:xF):xF:=λenv st Q=>t env st λc st1=>if c=true then Q true st1 else u env st1 Q
def zhd (t:xF):xF:=λenv st Q=>t env st λc st1=>Q (!c) st1
theorem ziH {K:Frag}{t u:xF}{σ:St}{H:Hp}{Q:Bool->Hp->Prop} :xB K (iG t u) σ H Q->zgE (xB K t) (xB K u) σ H Q:=by
 rintro⟨A,env,st,Q3,rel,h,k⟩;refine⟨A,env,st,_,rel,h,λA1 H1 st1 c g1 s1 h1=> ?_⟩;cases c with
 | true=>exact⟨A1,env,st1,Q3,rel.grow g1 s1,h1,k.after g1⟩
 | false=>exact k A1 H1 st1 false g1 s1 h1
theorem ziI {K:Frag}{t u:xF}{σ:St}{H:Hp}{Q:Bool->Hp->Prop} :xB K (vOr t u) σ H Q->tOr (xB K t) (xB K u) σ H Q:=by
 rintro⟨A,env,st,Q3,rel,h,k⟩;refine⟨A,env,st,_,rel,h,λA1 H1 st1 c g1 s1 h1=> ?_⟩;cases c with
 | false=>exact⟨A1,env,st1,Q3,rel.grow g1 s1,h1,k.after g1⟩
 | true=>exact k A1 H1 st1 true g1 s1 h1
variable {wN:List Expr}
theorem tD (ha:PT X a (xB X.K tc)):PW X (.BoolOp .And [a] pos) (xB X.K tc):=znk ha
theorem nB (ha:PT X a (xB X.K tc)):PW X (.BoolOp .Or [a] pos) (xB X.K tc):=znm ha
theorem tB (ha:PT X a (xB X.K tc))(hb:PW X (.BoolOp .And (b::wN) pos) (xB X.K td)):PW X (.BoolOp .And (a::b::wN) pos) (xB X.K (iG tc td)):=zfD (znj ha hb) λ_ _ _=>ziH
theorem q5 (ha:PT X a (xB X.K tc))(hb:PW X (.BoolOp .Or (b::wN) pos) (xB X.K td)):PW X (.BoolOp .Or (a::b::wN) pos) (xB X.K (vOr tc td)):=zfD (znl ha hb) λ_ _ _=>ziI
theorem lA (ha:PT X a (xB X.K tc)):PT X (.UnaryOp .Not a pos) (xB X.K (zhd tc)):=zbf (znh ha) λσ H Q ⟨A,env,st,Q3,rel,h,k⟩=>⟨A,env,st,_,rel,h,λA1 H1 st1 c g1 s1 h1=>k A1 H1 st1 (!c) g1 s1 h1⟩
def zgT (Ta Tb:zD):zD:=λenv st Q=>Ta env st λx st1=>match x with | .bl c=>if c=true then Tb env st1 Q else Q (.bl false) st1 | _=>False
def zpa (Ta Tb:zD):zD:=λenv st Q=>Ta env st λx st1=>match x with | .bl c=>if c=true then Q (.bl true) st1 else Tb env st1 Q | _=>False
def zhe (Ta:zD):zD:=λenv st Q=>Ta env st λx st1=>match x with | .bl c=>Q (.bl (!c)) st1 | _=>False
theorem mY {op}(h:PE X a (zR X.K Ta)):PE X (.BoolOp op [a] pos) (zR X.K Ta):=zmA h
theorem pB (ha:PE X a (zR X.K Ta))(hb:PE X (.BoolOp .And (b::wN) pos) (zR X.K Tb)):PE X (.BoolOp .And (a::b::wN) pos) (zR X.K (zgT Ta Tb)):=by
 refine xP (zmw ha hb) λσ H Q ⟨A,env,st,Q3,rel,h,k⟩=>⟨A,env,st,_,rel,h,λA1 H1 st1 x v g1 s1 e1 h1=> ?_⟩;cases x with
 | bl c=>
  cases e1 with
  | val e1=>
   cases e1;refine⟨c,rfl,?_⟩;cases c with
   | true=>exact⟨A1,env,st1,Q3,rel.grow g1 s1,h1,k.after g1⟩
   | false=>exact k A1 H1 st1 _ _ g1 s1 (.val (.bl _)) h1
 | _=>exact False.elim h1
theorem znr (ha:PE X a (zR X.K Ta)):PE X (.UnaryOp .Not a pos) (zR X.K (zhe Ta)):=by
 refine xP (zm_ ha) λσ H Q ⟨A,env,st,Q3,rel,h,k⟩=>⟨A,env,st,_,rel,h,λA1 H1 st1 x v g1 s1 e1 h1=> ?_⟩;cases x with
 | bl c=>
  cases e1 with
  | val e1=>
   cases e1;exact⟨c,rfl,k A1 H1 st1 _ _ g1 s1 (.val (.bl _)) h1⟩
 | _=>exact False.elim h1
def vIf (t:xF)(Ta Tb:zD):zD:=λenv st Q=>t env st λc st1=>if c=true then Ta env st1 Q else Tb env st1 Q
def oB:yK:=λ_ st Q=>Q [] st
def uR (Ta:zD)(Tr:yK):yK:=λenv st Q=>Ta env st λx st1=>Tr env st1 λxs st2=>Q (x::xs) st2
theorem z4:PA X [] (vO X.K oB):=zfw zfv λσ H Q ⟨A,env,st,Q3,rel,h,k⟩=>k A H st [] [] (.refl _ _) rel.rs .nil h
theorem z3 (ha:PE X e (zR X.K Ta))(hr:PA X es (vO X.K TA))(hs:starEach (e::es) X.env=(false,eval e X.env)::starEach es X.env:=by rfl):PA X (e::es) (vO X.K (uR Ta TA)):=
 zfw (zaX ha hr hs) λσ H Q ⟨A,env,st,Q3,rel,h,k⟩=>⟨A,env,st,_,rel,h,λA1 H1 st1 x v g1 s1 e1 h1=>⟨A1,env,st1,_,rel.grow g1 s1,h1,λA2 H2 st2 xs vs g2 s2 e2 h2=>k A2 H2 st2 _ _ (g1.trans g2) s2 (.cons (e1.grow g2) e2) h2⟩⟩
def yJ:PV->Bool
 | .obj _=>false
 | _=>true
def uI (xs:List PV):Bool:=xs.all yJ&&Nat.ble xs.length 1000
theorem RE.rv {K:Frag}{A:List Addr}{H:Hp}{x:PV}{v:V}(e:RE K A H x v)(h:yJ x=true):RV K A H x v:=by
 cases e with
 | val e=>exact e
 | obj e=>cases h
theorem yU.rvs {K:Frag}{A:List Addr}{H:Hp} : ∀{xs:List PV} {vs:List V},yU K A H xs vs->xs.all yJ=true->RVs K A H xs vs
 | _,_,.nil,_=> .nil
 | _,_,.cons r t,h=>by
  rw[List.all_cons,Bool.and_eq_true]at h;exact .cons (r.rv h.1) (yU.rvs t h.2)
theorem uI.both {xs:List PV}(h:uI xs=true):xs.all yJ=true/\xs.length<=sizeLine:=by
 unfold uI at h;rw[Bool.and_eq_true]at h;exact⟨h.1,Nat.le_trans (Nat.le_of_ble_eq_true h.2) (by decide)⟩
def zhk (T:yK):zD:=λenv st Q=>T env st λxs st1=>uI xs=true/\Q (.tup xs) st1
def zgZ (T:yK):zD:=λenv st Q=>T env st λxs st1=>uI xs=true/\Q (.lst xs) st1
def zha (T:yK):zD:=λenv st Q=>T env st λxs st1=>uI xs=true/\Q (.obj st1.length) (st1++ [.lst xs])
theorem yV {x1}(h:PA X es (vO X.K TA)):PE X (.Tuple es x1 pos) (zR X.K (zhk TA)):=by
 refine xP (zf3 h) λσ H Q ⟨A,env,st,Q3,rel,h,k⟩=>⟨A,env,st,_,rel,h,λA1 H1 st1 xs vs g1 s1 e1 h1=> ?_⟩;obtain⟨o1,o2⟩:=uI.both h1.1;have hr:=e1.rvs o1;have hl:=hr.len;refine⟨by rw[<- hl];exact o2,λp hp=>k A1 _ st1 _ _ (g1.trans (.new hp)) (s1.new hp) (.val (.tup (.inl ⟨.inl x9,s1.fresh hp⟩) (by rw[<- hl];exact o2) (hr.grow (.new hp)))) h1.2⟩
theorem u0 (h:PA X es (vO X.K TA)):PE X (.List es pos) (zR X.K (zgZ TA)):=by
 refine xP (zf2 h) λσ H Q ⟨A,env,st,Q3,rel,h,k⟩=>⟨A,env,st,_,rel,h,λA1 H1 st1 xs vs g1 s1 e1 h1=> ?_⟩;obtain⟨o1,o2⟩:=uI.both h1.1;have hr:=e1.rvs o1;have hl:=hr.len;refine⟨by rw[<- hl];exact o2,λp hp=>k A1 _ st1 _ _ (g1.trans (.new hp)) (s1.new hp) (.val (.lst (.inl ⟨.inl x9,s1.fresh hp⟩) (by rw[<- hl];exact o2) (hr.grow (.new hp)))) h1.2⟩
theorem jJ {A:List Addr}{n:Nat}{p:Addr}(h:A.length=n):(A++ [p])[n]?=some p:=by
 subst h;rw[List.getElem?_append_right (Nat.le_refl _),Nat.sub_self];rfl
theorem sQ (h:PA X es (vO X.K TA)):PE X (.List es pos) (zR X.K (zha TA)):=by
 refine xP (zf2 h) λσ H Q ⟨A,env,st,Q3,rel,h,k⟩=>⟨A,env,st,_,rel,h,λA1 H1 st1 xs vs g1 s1 e1 h1=> ?_⟩;obtain⟨o1,o2⟩:=uI.both h1.1;have hr:=e1.rvs o1;have hl:=hr.len;refine⟨by rw[<- hl];exact o2,λp hp=>k (A1++ [p]) _ _ _ _ (g1.trans (.newObj hp)) (s1.newObj (q:= .lst xs) hp ⟨vs,x9,hr.grow (.newObj hp),by rw[<- hl];exact o2⟩) (.obj (jJ s1.len)) h1.2⟩
def rL (R:y4)(T:yK):zD:=λenv st Q=>T env st λxs st1=>R xs st1 Q
theorem gZ {K:Frag}{R:y4}{σ:St}{H:Hp}{Q:VK} :zR K (rL R TA) σ H Q->tCB (uX K R) (vO K TA) σ H Q:=by
 rintro⟨A,env,st,Q3,rel,h,k⟩;exact⟨A,env,st,_,rel,h,λA1 H1 st1 xs vs g1 s1 e1 h1=>⟨A1,st1,xs,Q3,s1,e1,h1,k.after g1⟩⟩
theorem xL {x:Str}{id:String}{R:y4}(hc:wF X (.builtin id) (uX X.K R))(hg:Gl X x)(hm:X.mg x=none)(hv:bootBuiltins x=some (.builtin id))(ha:PA X (e::es) (vO X.K TA))(hn:x≠ "__name__" :=by decide)(hdb:(x==("__debug__" :Str))=false:=by decide)
  (he:starEach (e::es) X.env=(false,eval e X.env)::starEach es X.env:=by rfl) (hpl:(backTo pos (starEach es X.env)).any (·.1)=false:=by rfl):PE X (.Call (.Name x p) (e::es) [] pos) (zR X.K (rL R TA)):=
 xP (zm2 hc hg hm hv ha hn hdb he hpl) λ_ _ _=>gZ
theorem vZ {x:Str}{T:String}{R:y4}(hc:wF X (.type T) (uX X.K R))(hg:Gl X x)(hm:X.mg x=none)(hv:bootBuiltins x=some (.type T))(ha:PA X (e::es) (vO X.K TA))(hn:x≠ "__name__" :=by decide)(hdb:(x==("__debug__" :Str))=false:=by decide)
  (he:starEach (e::es) X.env=(false,eval e X.env)::starEach es X.env:=by rfl) (hpl:(backTo pos (starEach es X.env)).any (·.1)=false:=by rfl):PE X (.Call (.Name x p) (e::es) [] pos) (zR X.K (rL R TA)):=
 xP (zm3 hc hg hm hv ha hn hdb he hpl) λ_ _ _=>gZ
theorem zK {x:Str}{S:y4}{k:Nat}{f:Addr}{fd:FuncData}{ps:List Str}(F:zJ X.prog X.w X.K X.mg X.base zL k f fd ps (zG X.K S))(hr:zY k X.A)(hg:Gl X x)(hm:X.mg x=some (.ref f))(hk:keepIn X.K (.ref f)=true)(hb:yM X.K fd ps [])
  (ha:PA X (e::es) (vO X.K TA)) (hdb:(x==("__debug__" :Str))=false:=by decide) (he:starEach (e::es) X.env=(false,eval e X.env)::starEach es X.env:=by rfl) (hpl:(backTo pos (starEach es X.env)).any (·.1)=false:=by rfl):
  PE X (.Call (.Name x p) (e::es) [] pos) (zR X.K (rL S TA)):=by
 refine xP (zm1 F hr hg hm hk hb .nil zmu ha hdb he hpl) λσ H Q h=> ?_;obtain⟨A,env,st,Q3,rel,h,k⟩:=gZ h;refine⟨A,env,st,Q3,rel,h,λA1 H1 st1 rs vs g1 s1 e1 h1=> ?_⟩;show zG X.K S (vs++ []) H1 Q E0;rw[List.append_nil];exact k A1 H1 st1 rs vs g1 s1 e1 h1
variable {sts rst:List Stmt} {stm:Stmt} {Ts Tu:yY}
def zbT:yY:=λD env st=>D.nx env st
def u8 (t u:yY):yY:=λD env st=>t {D with nx:=u D} env st
theorem yQ:xJ X [] (xO X.K zbT):=jN zne λD σ H ⟨A,env,st,D3,rel,h,k⟩=>k.nx A H σ env st (.refl _ _) rel h
theorem zF (h:PS X stm (xO X.K Ts)):xJ X [stm] (xO X.K Ts):=znf h
theorem zA (h1:PS X stm (xO X.K Ts))(h2:xJ X rst (xO X.K Tu)):xJ X (stm::rst) (xO X.K (u8 Ts Tu)):=
 jN (mW h1 h2) λD σ H ⟨A,env,st,D3,rel,h,k⟩=>⟨A,env,st,_,rel,h,λA1 H1 σ1 env1 st1 g1 r1 h1=>⟨A1,env1,st1,D3,r1,h1,k.after g1⟩,k.rt,k.bk,k.ct⟩
def zoT:yY:=λD env st=>D.bk env st
def zoV:yY:=λD env st=>D.ct env st
def iJ (T:zD):yY:=λD env st=>T env st λ_ st1=>D.nx env st1
theorem wZ (he:PE X e (zR X.K Ta))(hs:swapsWith e none pos.line X.env=pure false:=by rfl):PS X (.Expr e pos) (xO X.K (iJ Ta)):=
 sO (zmY he hs) λD σ H ⟨A,env,st,D3,rel,h,k⟩=>⟨A,env,st,_,rel,h,λA1 H1 st1 x v g1 s1 e1 h1=>k.nx A1 H1 σ env st1 g1 (rel.grow g1 s1) h1⟩
def zhg (T:zD):yY:=λD env st=>T env st D.rt
theorem yB (he:PE X e (zR X.K Ta)):PS X (.Return (some e) pos) (xO X.K (zhg Ta)):=sO (znc he) λD σ H ⟨A,env,st,D3,rel,h,k⟩=>⟨A,env,st,_,rel,h,k.rt⟩
def zpd:yY:=λD _ st=>D.rt .non st
def iK (c:xF)(t u:yY):yY:=λD env st=>c env st λb st1=>if b=true then t D env st1 else u D env st1
theorem yL (hc:PT X c (xB X.K tc))(ha:xJ X sts (xO X.K Ts))(hb:xJ X rst (xO X.K Tu)):PS X (.If c sts rst pos) (xO X.K (iK tc Ts Tu)):=by
 refine sO (zna hc ha hb) λD σ H ⟨A,env,st,D3,rel,h,k⟩=>⟨A,env,st,_,rel,h,λA1 H1 st1 b g1 s1 h1=> ?_⟩;cases b with
 | true=>exact⟨A1,env,st1,D3,rel.grow g1 s1,h1,k.after g1⟩
 | false=>exact⟨A1,env,st1,D3,rel.grow g1 s1,h1,k.after g1⟩
variable {Tg:w9} {Tgs:uW}
def gN (i:Nat):w9:=λx env st Q=>Q (env.set i (some x)) st
theorem xE.set {K:Frag}{A:List Addr}{H:Hp}{σ:St}{env:zH}{st:z6}(r:xE K A H σ env st)(i:Nat){x:PV}{v:V}(e:RE K A H x v):xE K A H (σ.set i (some v)) (env.set i (some x)) st:=by
 refine⟨r.rs,by rw[List.length_set,List.length_set];exact r.len,λj y h=> ?_⟩;by_cases hij:i=j
 ·subst hij
  have hl:i < env.length:=by have:=(List.getElem?_eq_some_iff.mp h).1;simpa using this
  rw[List.getElem?_set_self hl]at h;cases h;exact⟨v,List.getElem?_set_self (by rw[<- r.len];exact hl),e⟩
 ·rw[List.getElem?_set_ne hij]at h
  rw[List.getElem?_set_ne hij];exact r.at_ j y h
theorem kW {K:Frag}{i:Nat}{v:V}{σ:St}{H:Hp}{Q:St->Hp->Prop} :vP K (gN i) v σ H Q->j9 i v σ H Q:=by
 rintro⟨A,env,st,x,Q3,rel,e,h,k⟩;exact k A H _ _ st (.refl _ _) (rel.set i e) h
theorem yF {i:Nat}{x:Str}(hN:X.N.Nodup)(hi:X.N[i]?=some x)(hx:tZ X.env.scope x)(hf:X.fn x=true∨X.env.scope.names.lookup x=some .local:=by first | exact .inl rfl | exact .inr rfl | assumption):PG X (.Name x pos) (vP X.K (gN i)):=
 zbd (zmJ hN hi hx hf) λ_ _ _ _=>kW
def gsN:uW:=λxs env st Q=>match xs with | []=>Q env st | _=>False
def gsC (g:w9)(gs:uW):uW:=λxs env st Q=>match xs with | x::r=>g x env st λenv1 st1=>gs r env1 st1 Q | []=>False
theorem uM:vS X [] (mJ X.K gsN):=by
 refine zf6 zf5 λvs σ H Q ⟨A,env,st,xs,Q3,rel,e,h,k⟩=> ?_;cases e with
 | nil=>exact⟨rfl,k A H σ env st (.refl _ _) rel h⟩
 | cons r t=>exact False.elim h
theorem xH (h1:PG X e (vP X.K Tg))(h2:vS X es (mJ X.K Tgs))(hs:(assignEach (e::es) X.env).map (·.2)=assign e X.env::(assignEach es X.env).map (·.2):=by rfl):vS X (e::es) (mJ X.K (gsC Tg Tgs)):=by
 refine zf6 (zbe h1 h2 hs) λvs σ H Q ⟨A,env,st,xs,Q3,rel,e,h,k⟩=> ?_;cases e with
 | nil=>exact False.elim h
 | cons r t=>exact⟨_,_,rfl,A,env,st,_,_,rel,r,h,λA1 H1 σ1 env1 st1 g1 r1 h1=>⟨A1,env1,st1,_,Q3,r1,yU.grow g1 t,h1,k.after g1⟩⟩
def gT (n:Nat)(gs:uW):w9:=λx env st Q=>match x with | .tup xs=>xs.length=n/\gs xs env st Q | .lst xs=>xs.length=n/\gs xs env st Q | _=>False
theorem RVs.res {K:Frag}{A:List Addr}{H:Hp}{xs:List PV}{vs:List V} :RVs K A H xs vs->yU K A H xs vs
 | .nil=> .nil
 | .cons r t=> .cons (.val r) (RVs.res t)
theorem t6 {k:Nat}{n:Nat}(hc:X.calm=true)(h:vS X es (mJ X.K Tgs))(hn:(assignEach es X.env).length=n:=by rfl)(hst:(assignEach es X.env).findIdx? (·.1)=none:=by rfl)
  (hn2:(assignEach es X.env).length=n:=by rfl) (hst2:(assignEach es X.env).findIdx? (·.1)=none:=by rfl):PG X (.Tuple es k pos) (vP X.K (gT n Tgs)):=by
 refine⟨λpins s σ H v u Q I r ⟨A,env,st,x,Q3,rel,e,q,k⟩=> ?_⟩;cases e with
 | obj e=>exact False.elim q
 | val e=>
  cases e with
  | tup t z rs=>exact(zf4 hc h hn hst) pins s σ H _ u Q I r ⟨_,_,rfl,t.sq,by rw[<- rs.len];exact q.1,A,env,st,_,Q3,rel,rs.res,q.2,k⟩
  | lst t z rs=>exact(zmI hc h hn hst) pins s σ H _ u Q I r ⟨_,_,rfl,t.sq,by rw[<- rs.len];exact q.1,A,env,st,_,Q3,rel,rs.res,q.2,k⟩
  | _=>exact False.elim q
def nN (T:zD)(g:w9):yY:=λD env st=>T env st λx st1=>g x env st1 D.nx
theorem kU {K:Frag}{D:tX}{σ:St}{H:Hp} :xO K (nN Ta Tg) D σ H->lR (zR K Ta) (vP K Tg) D σ H:=by
 rintro⟨A,env,st,D3,rel,h,k⟩;exact⟨A,env,st,_,rel,h,λA1 H1 st1 x v g1 s1 e1 h1=>⟨A1,env,st1,x,D3.nx,rel.grow g1 s1,e1,h1,k.nx.after g1⟩⟩
theorem uO {tg:Expr}(he:PE X e (zR X.K Ta))(hg:PG X tg (vP X.K Tg))(hs:swapsWithSole [tg] e pos.line X.env=pure false:=by rfl)(hw:swappedStores [tg] e X.env=pure none:=by rfl)
  (h1:(assignEach [tg] X.env).map (·.2)= [assign tg X.env]:=by rfl):PS X (.Assign [tg] e pos) (xO X.K (nN Ta Tg)):=sO (zf_ he hg hs hw h1) λ_ _ _=>kU
theorem zT {i:Nat}{x:Str}{pos':Pos}(hN:X.N.Nodup)(hi:X.N[i]?=some x)(hx:tZ X.env.scope x)(he:PE X e (zR X.K Ta))(hs:swapsWith e (some (.Name x pos')) pos.line X.env=pure false:=by rfl)(hf:X.fn x=true∨X.env.scope.names.lookup x=some .local:=by first | exact .inl rfl | exact .inr rfl | assumption):
  PS X (.Assign [.Name x pos'] e pos) (xO X.K (nN Ta (gN i))):=by
 refine sO (zfA hN hi hx he hs hf) λD σ H h=> ?_;obtain⟨A,env,st,Q3,rel,h,k⟩:=kU h;exact⟨A,env,st,Q3,rel,h,λA1 H1 st1 r v g s e q=>kW (k A1 H1 st1 r v g s e q)⟩
def zhf (i j:Nat)(T:yK):yY:=λD env st=>T env st λxs st1=>match xs with | [x,y]=>D.nx ((env.set i (some x)).set j (some y)) st1 | _=>False
theorem znw {i j:Nat}{x y:Str}{px py pt:Pos}{kt k2 pt2}(hc:X.calm=true)(hN:X.N.Nodup)(hi:X.N[i]?=some x)(hj:X.N[j]?=some y)(hij:i≠j)
  (hx:X.env.scope.names.lookup x=some .local) (hy:X.env.scope.names.lookup y=some .local) (ha:PA X [a,b] (vO X.K TA))
  (hw:swappedStores [.Tuple [.Name x px,.Name y py] kt pt] (.Tuple [a,b] k2 pt2) X.env=pure (some [x,y]))
  (hs:swapsWithSole [.Tuple [.Name x px,.Name y py] kt pt] (.Tuple [a,b] k2 pt2) pos.line X.env=pure false:=by rfl):
  PS X (.Assign [.Tuple [.Name x px,.Name y py] kt pt] (.Tuple [a,b] k2 pt2) pos) (xO X.K (zhf i j TA)):=by
 refine sO (znb hc hN hi hj hij hx hy ha hw hs) λD σ H ⟨A,env,st,D3,rel,h,k⟩=>⟨A,env,st,_,rel,h,λA1 H1 st1 xs vs g1 s1 e1 h1=> ?_⟩
 split at h1
 ·rename_i x y
  cases e1 with
  | cons r1 t=>
   cases t with
   | cons r2 t2=>
    cases t2;exact⟨_,_,rfl,k.nx A1 H1 _ _ st1 g1 (((rel.grow g1 s1).set i r1).set j r2) h1⟩
 ·exact h1.elim
end
end L3
namespace L3
open PySem PySem.Spec PyProof.Rows L2
def tF:w5->z6->Prop->Prop
 | none,_,P=>P
 | some (i,o),st,P=>st[i]?=some o/\P
theorem tF.of {src:w5}{st:z6}{P:Prop}(h:tF src st P):P:=by
 cases src with
 | none=>exact h
 | some q=>exact h.2
def jK:w5->z6->Prop
 | none,_=>True
 | some (i,o),st=>st[i]?=some o
theorem tF.ok {src:w5}{st:z6}{P:Prop}(h:tF src st P):jK src st:=by
 cases src with
 | none=>exact trivial
 | some q=>exact h.1
structure rO (K:Frag)(A:List Addr)(H:Hp)(src:w5)(J:It)(xs:List PV):Prop where
 go: ∀(i:Nat) A' H' st,zZ A H A' H'->RS K A' H' st->jK src st->i < xs.length->J.go i H'
 yld: ∀(i:Nat) (x:PV) A' H' st v H2,xs[i]?=some x->zZ A H A' H'->RS K A' H' st->jK src st->J.yld i H' v H2->zZ A' H' A' H2/\RS K A' H2 st/\RE K A' H2 x v
 stop: ∀A' H' st,zZ A H A' H'->RS K A' H' st->jK src st->J.stop xs.length H'
 small:xs.length<=sizeLine
def tJ (K:Frag)(I:uD):TI:=λσ H R=> ∃A env st Q3,xE K A H σ env st/\I env st Q3/\∀A' H' st' src xs J,zZ A H A' H'->RS K A' H' st'->rO K A' H' src J xs->Q3 src xs st'->R J H'
def iP (g:w9)(b:yY)(src:w5)(xs:List PV)(D:xS)(env:zH)(st:z6):Prop:= ∃P:Nat->zH->z6->Prop,P 0 env st/\
 (∀i x env st,xs[i]?=some x->P i env st->tF src st (g x env st λe s=>b {D with nx:=P (i+1),ct:=P (i+1),bk:=D.nx} e s))/\(∀env st,P xs.length env st->tF src st (D.nx env st))
def zgX (I:uD)(g:w9)(b:yY):yY:=λD env st=>I env st λsrc xs st1=>iP g b src xs D env st1
def zpf (c:xF)(b:yY):yY:=λD env st=> ∃W:Nat->zH->z6->Prop,(∃m,W m env st)/\∀m env st,W m env st->
 c env st λt st1=>if t=true then ∃N:zH->z6->Prop,(∀e s,N e s->∃m',m' < m/\W m' e s)/\b {D with nx:=N,ct:=N,bk:=D.nx} env st1 else D.nx env st1
section
variable {X:Cx} {a b c e tg iter:Expr} {es:List Expr} {pos p:Pos} {Ta Tb:zD} {TA:yK} {tc:xF} {Ti:uD} {Tg:w9} {Ts:yY} {body:List Stmt}
theorem jM {wi wi':TI}(h:PI X tg iter wi)(w: ∀σ H R,wi' σ H R->wi σ H R):PI X tg iter wi':=⟨λpins s σ H R I q=>h pins s σ H R I (w σ H R q)⟩
theorem wM (hp:PassesOwn (model X.prog X.w) X.A X.env X.xe)(hc:X.calm=true)(hi:PI X tg iter (tJ X.K Ti))(hg:PG X tg (vP X.K Tg))(hb:xJ X body (xO X.K Ts))
  (hs: ∀x,foldedSetIterable iter X.env x=pure x:=by intro _;rfl):PS X (.For tg iter body [] pos) (xO X.K (zgX Ti Tg Ts)):=by
 refine sO (zmZ hp hc hi hg hb hs) λD σ H ⟨A,env,st,D3,rel,h,k⟩=>⟨A,env,st,_,rel,h,λA1 H1 st1 src xs J g1 s1 it h1=> ?_⟩;obtain⟨P,p0,hP,hE⟩:=h1;refine⟨λi m σ' H'=>m=xs.length - i/\i<=xs.length/\∃A' env' st',zZ A1 H1 A' H'/\xE X.K A' H' σ' env' st'/\P i env' st',⟨_,rfl,Nat.zero_le _,A1,env,st1,.refl _ _,rel.grow g1 s1,p0⟩,?_⟩;rintro i m σ' H' ⟨rfl,hi,A',env',st',g',rel',p'⟩;by_cases hlt:i < xs.length
 ·have hx:xs[i]?=some xs[i]:=List.getElem?_eq_getElem hlt
  have hw:=hP i _ env' st' hx p';refine .inr ⟨it.go i A' H' st' g' rel'.rs hw.ok hlt,λσ2 H2=>i+1<=xs.length/\∃A' env' st',zZ A1 H1 A' H2/\xE X.K A' H2 σ2 env' st'/\P (i+1) env' st',λσ2 H2 q=>⟨_,by omega,rfl,q⟩,λv H2 y=> ?_⟩;obtain⟨g2,s2,e2⟩:=it.yld i _ A' H' st' v H2 hx g' rel'.rs hw.ok y;refine⟨A',env',st',_,_,rel'.grow g2 s2,e2,hw.of,λA3 H3 σ3 env3 st3 g3 r3 h3=> ?_⟩;have gg:=g'.trans (g2.trans g3);have k3:=k.after (g1.trans gg);exact⟨A3,env3,st3,_,r3,h3,λA4 H4 σ4 env4 st4 g4 r4 h4=>⟨hlt,A4,env4,st4,gg.trans g4,r4,h4⟩,k3.rt,k3.nx,λA4 H4 σ4 env4 st4 g4 r4 h4=>⟨hlt,A4,env4,st4,gg.trans g4,r4,h4⟩⟩
 ·have e:i=xs.length:=by omega
  subst e;have hw:=hE env' st' p';exact .inl ⟨it.stop A' H' st' g' rel'.rs hw.ok,k.nx A' H' σ' env' st' (g1.trans g') rel' hw.of⟩
theorem zbj (hp:PassesOwn (model X.prog X.w) X.A X.env X.xe)(hc:PT X c (xB X.K tc))(hb:xJ X body (xO X.K Ts)):PS X (.While c body [] pos) (xO X.K (zpf tc Ts)):=by
 refine sO (znd hp hc hb) λD σ H ⟨A,env,st,D3,rel,h,k⟩=> ?_;obtain⟨W,⟨m0,w0⟩,hW⟩:=h;refine⟨λm σ' H'=> ∃A' env' st',zZ A H A' H'/\xE X.K A' H' σ' env' st'/\W m env' st',⟨m0,A,env,st,.refl _ _,rel,w0⟩,?_⟩;rintro m σ' H' ⟨A',env',st',g',rel',w'⟩;refine⟨A',env',st',_,rel',hW m env' st' w',λA1 H1 st1 t g1 s1 h1=> ?_⟩;have gg:=g'.trans g1;have kk:=k.after gg;cases t with
 | false=>exact k.nx A1 H1 σ' env' st1 gg (rel'.grow g1 s1) h1
 | true=>
  obtain⟨N,hN,hb1⟩:=h1;refine⟨λσ2 H2=> ∃A2 env2 st2,zZ A H A2 H2/\xE X.K A2 H2 σ2 env2 st2/\N env2 st2,?_,?_⟩
  ·rintro σ2 H2 ⟨A2,env2,st2,g2,r2,n2⟩
   obtain⟨m',hm,w2⟩:=hN env2 st2 n2;exact⟨m',hm,A2,env2,st2,g2,r2,w2⟩
  ·exact⟨A1,env',st1,_,rel'.grow g1 s1,hb1,λA4 H4 σ4 env4 st4 g4 r4 h4=>⟨A4,env4,st4,gg.trans g4,r4,h4⟩,kk.rt,kk.nx,λA4 H4 σ4 env4 st4 g4 r4 h4=>⟨A4,env4,st4,gg.trans g4,r4,h4⟩⟩
def oF (own:Nat)(g:w9)(tt:xF)(el:zD)(src:w5)(xs:List PV)(Q:List PV->z6->Prop)(env:zH)(st:z6):Prop:= ∃P:Nat->List PV->zH->z6->Prop,P 0 [] (env++List.replicate own none) st/\
 (∀i x ys env st,xs[i]?=some x->P i ys env st->tF src st (g x env st λe s=>tt e s λb s2=>if b=true then el e s2 λy s3=>yJ y=true/\P (i+1) (ys++ [y]) e s3 else P (i+1) ys e s2))/\
 (∀ys env st,P xs.length ys env st->tF src st (Q ys st))
def iH (own:Nat)(I:uD)(g:w9)(tt:xF)(el:zD):zD:=λenv st Q=>I env st λsrc xs st1=>oF own g tt el src xs (λys st2=>Q (.lst ys) st2) env st1
def iI (own:Nat)(I:uD)(g:w9)(tt:xF)(el:zD):zD:=λenv st Q=>I env st λsrc xs st1=>oF own g tt el src xs (λys st2=>Q (.obj st2.length) (st2++ [.lst ys])) env st1
def zhl:xF:=λ_ st Q=>Q true st
theorem mZ:PF X [] (xB X.K zhl):=zmH zmF λσ H Q ⟨A,env,st,Q3,rel,h,k⟩=>k A H st true (.refl _ _) rel.rs h
theorem nA (h:PT X c (xB X.K tc)):PF X [c] (xB X.K tc):=zmG h
theorem xE.more {K:Frag}{A:List Addr}{H:Hp}{σ:St}{env:zH}{st:z6}(r:xE K A H σ env st)(n:Nat):xE K A H (σ++List.replicate n none) (env++List.replicate n none) st:=by
 refine⟨r.rs,by rw[List.length_append,List.length_append,r.len,List.length_replicate,List.length_replicate],λi x h=> ?_⟩;by_cases hi:i < env.length
 ·rw[List.getElem?_append_left hi]at h
  rw[List.getElem?_append_left (by rw[<- r.len];exact hi)];exact r.at_ i x h
 ·rw[List.getElem?_append_right (by omega),List.getElem?_replicate]at h
  split at h <;> cases h
theorem zcO {K:Frag}{own:Nat}{g:w9}{tt:xF}{el:zD}{src:w5}{xs:List PV}{Q3:List PV->z6->Prop}{Q:VK}{A:List Addr}{H:Hp}{σ:St}{env:zH}{st:z6}{J:It}(rel:xE K A H σ env st)(it:rO K A H src J xs)
  (h:oF own g tt el src xs Q3 env st) (k: ∀A' H' st' ys vs,zZ A H A' H'->RS K A' H' st'->RVs K A' H' ys vs->vs.length<=sizeLine->Q3 ys st'->∀D,H' D=none->Q (.ref D) (zQ H' D (.lst vs))):zcb own J (vP K g) (xB K tt) (zR K el) Q σ H:=by
 obtain⟨P,p0,hP,hE⟩:=h;refine⟨λi m vs σ' H'=>m=xs.length - i/\i<=xs.length/\vs.length<=i/\∃A' env' st' ys,zZ A H A' H'/\xE K A' H' σ' env' st'/\RVs K A' H' ys vs/\P i ys env' st',⟨_,rfl,Nat.zero_le _,Nat.le_refl _,A,_,st,[],.refl _ _,rel.more own,.nil,p0⟩,?_⟩;rintro i m vs σ' H' ⟨rfl,hi,hv,A',env',st',ys,g',rel',rv,p'⟩;by_cases hlt:i < xs.length
 ·have hx:xs[i]?=some xs[i]:=List.getElem?_eq_getElem hlt
  have hw:=hP i _ ys env' st' hx p';refine .inr ⟨it.go i A' H' st' g' rel'.rs hw.ok hlt,Nat.lt_of_lt_of_le (Nat.lt_of_le_of_lt hv hlt) it.small,λvs σ2 H2=>i+1<=xs.length/\vs.length<=i+1/\∃A' env' st' ys,zZ A H A' H2/\xE K A' H2 σ2 env' st'/\RVs K A' H2 ys vs/\P (i+1) ys env' st',λvs σ2 H2 q=>⟨_,by omega,rfl,q⟩,λv H2 y=> ?_⟩;obtain⟨g2,s2,e2⟩:=it.yld i _ A' H' st' v H2 hx g' rel'.rs hw.ok y;refine⟨A',env',st',_,_,rel'.grow g2 s2,e2,hw.of,λA3 H3 σ3 env3 st3 g3 r3 h3=>⟨A3,env3,st3,_,r3,h3,λA4 H4 st4 b g4 s4 h4=> ?_⟩⟩;have gg:=g2.trans (g3.trans g4);cases b with
  | false=>exact⟨hlt,by omega,A4,env3,st4,ys,g'.trans gg,r3.grow g4 s4,rv.grow gg,h4⟩
  | true=>
   refine⟨A4,env3,st4,_,r3.grow g4 s4,h4,λA5 H5 st5 y v5 g5 s5 e5 h5=>⟨hlt,by rw[List.length_append,List.length_singleton];omega,A5,env3,st5,ys++ [y],g'.trans (gg.trans g5),(r3.grow g4 s4).grow g5 s5,?_,h5.2⟩⟩;exact(rv.grow (gg.trans g5)).append (.cons (e5.rv h5.1) .nil)
 ·have e:i=xs.length:=by omega
  subst e;have hw:=hE ys env' st' p';have hz:=Nat.le_trans hv it.small;exact .inl ⟨it.stop A' H' st' g' rel'.rs hw.ok,hz,k A' H' st' ys vs g' rel'.rs rv hz hw.of⟩
variable {N' own:List Str} {scope:Scope} {ifs:List Expr} {target:Expr} {te:zD} {tt:xF}
theorem zcM {K:Frag}{own:Nat}{σ:St}{H:Hp}{Q:VK} :zR K (iH own Ti Tg tt te) σ H Q->i9 own (tJ K Ti) (vP K Tg) (xB K tt) (zR K te) σ H Q:=by
 rintro⟨A,env,st,Q3,rel,h,k⟩;refine⟨A,env,st,_,rel,h,λA1 H1 st1 src xs J g1 s1 it h1=>zcO (rel.grow g1 s1) it h1 λA2 H2 st2 ys vs g2 s2 r2 hz q D hD=> ?_⟩;exact k A2 _ st2 _ _ (g1.trans (g2.trans (.new hD))) (s2.new hD) (.val (.lst (.inl ⟨.inl x9,s2.fresh hD⟩) hz (r2.grow (.new hD)))) q
theorem zcN {K:Frag}{own:Nat}{σ:St}{H:Hp}{Q:VK} :zR K (iI own Ti Tg tt te) σ H Q->i9 own (tJ K Ti) (vP K Tg) (xB K tt) (zR K te) σ H Q:=by
 rintro⟨A,env,st,Q3,rel,h,k⟩;refine⟨A,env,st,_,rel,h,λA1 H1 st1 src xs J g1 s1 it h1=>zcO (rel.grow g1 s1) it h1 λA2 H2 st2 ys vs g2 s2 r2 hz q D hD=> ?_⟩;exact k (A2++ [D]) _ _ _ _ (g1.trans (g2.trans (.newObj hD))) (s2.newObj (q:= .lst ys) hD ⟨vs,x9,r2.grow (.newObj hD),hz⟩) (.obj (jJ s2.len)) q
theorem pC {pos:Pos}(S:tG X scope N' own)(hc:X.calm=true)(hi:PI X target iter (tJ X.K Ti))
  (hg: ∀C s H fp pins,PG (xC X scope (N'++own) C s H fp pins) target (vP X.K Tg)) (ht: ∀C s H fp pins,PF (xC X scope (N'++own) C s H fp pins) ifs (xB X.K tt)) (he: ∀C s H fp pins,PE (xC X scope (N'++own) C s H fp pins) a (zR X.K te))
  (hs: ∀x,foldedSetIterable iter X.env x=pure x:=by intro _;rfl):PE X (.ListComp a [⟨target,iter,ifs,0⟩] scope pos) (zR X.K (iH own.length Ti Tg tt te)):=xP (zf0 S hc hi hg ht he hs) λ_ _ _=>zcM
theorem znn {pos:Pos}(S:tG X scope N' own)(hc:X.calm=true)(hi:PI X target iter (tJ X.K Ti))
  (hg: ∀C s H fp pins,PG (xC X scope (N'++own) C s H fp pins) target (vP X.K Tg)) (ht: ∀C s H fp pins,PF (xC X scope (N'++own) C s H fp pins) ifs (xB X.K tt)) (he: ∀C s H fp pins,PE (xC X scope (N'++own) C s H fp pins) a (zR X.K te))
  (hs: ∀x,foldedSetIterable iter X.env x=pure x:=by intro _;rfl):PE X (.ListComp a [⟨target,iter,ifs,0⟩] scope pos) (zR X.K (iI own.length Ti Tg tt te)):=xP (zf0 S hc hi hg ht he hs) λ_ _ _=>zcN
theorem zkx {K:Frag}{A:List Addr}{H:Hp}{a:Addr}{xs:List PV}{vs:List V}(t:sA K A H a vs)(hz:vs.length<=sizeLine)(r:RVs K A H xs vs):rO K A H none (kI K a) xs where
 go:=λi A' H' st g s _ hi=>by
  rw[r.len]at hi;exact⟨vs,vs[i],(t.grow g).sq,by simp[hi]⟩
 yld:=λi x A' H' st v H2 hx g s _ y=>by
  obtain⟨rfl,y⟩:=y;obtain⟨w,ew,rw'⟩:=r.get hx;have:=y vs (t.grow g).sq;rw[ew]at this;cases this;exact⟨.refl _ _,s,.val (rw'.grow g)⟩
 stop:=λA' H' st g s _=>⟨vs,(t.grow g).sq,by rw[r.len];exact Nat.le_refl _⟩
 small:=by rw[r.len];exact hz
theorem zk0 {K:Frag}{A:List Addr}{H:Hp}{a:Addr}{xs:List PV}{vs:List V}(t:sB K A H a vs)(hz:vs.length<=sizeLine)(r:RVs K A H xs vs):rO K A H none (iY K a) xs where
 go:=λi A' H' st g s _ hi=>by
  rw[r.len]at hi;exact⟨vs,vs[i],(t.grow g).sq,by simp[hi]⟩
 yld:=λi x A' H' st v H2 hx g s _ y=>by
  obtain⟨rfl,y⟩:=y;obtain⟨w,ew,rw'⟩:=r.get hx;have:=y vs (t.grow g).sq;rw[ew]at this;cases this;exact⟨.refl _ _,s,.val (rw'.grow g)⟩
 stop:=λA' H' st g s _=>⟨vs,(t.grow g).sq,by rw[r.len];exact Nat.le_refl _⟩
 small:=by rw[r.len];exact hz
theorem zky {K:Frag}{A:List Addr}{H:Hp}{i:Nat}{a:Addr}{xs:List PV}(e:A[i]?=some a)(hz:xs.length<=sizeLine):rO K A H (some (i,.lst xs)) (kI K a) xs where
 go:=λj A' H' st g s ok hi=>by
  obtain⟨vs,h,r,_⟩:=s.at_ i a _ (g.sub e) ok;rw[r.len]at hi;exact⟨vs,vs[j],.of h,by simp[hi]⟩
 yld:=λj x A' H' st v H2 hx g s ok y=>by
  obtain⟨rfl,y⟩:=y;obtain⟨vs,h,r,_⟩:=s.at_ i a _ (g.sub e) ok;obtain⟨w,ew,rw'⟩:=r.get hx;have:=y vs (.of h);rw[ew]at this;cases this;exact⟨.refl _ _,s,.val rw'⟩
 stop:=λA' H' st g s ok=>by
  obtain⟨vs,h,r,_⟩:=s.at_ i a _ (g.sub e) ok;exact⟨vs,.of h,by rw[r.len];exact Nat.le_refl _⟩
 small:=hz
def u3 (lo:Int)(n:Nat):List PV:=(List.range n).map λi:Nat=> .int (lo+(i:Int))
theorem tQ (lo:Int)(n:Nat):(u3 lo n).length=n:=by unfold u3;rw[List.length_map,List.length_range]
theorem sR {lo:Int}{n i:Nat}{x:PV}(h:(u3 lo n)[i]?=some x):i < n/\x= .int (lo+i):=by
 have hi:=(List.getElem?_eq_some_iff.mp h).1;rw[tQ]at hi;unfold u3 at h;rw[List.getElem?_map,List.getElem?_range hi]at h;exact⟨hi,(Option.some.inj h).symm⟩
theorem zeB {K:Frag}{A:List Addr}{H:Hp}{lo:Int}{n:Nat}(hz:n<=sizeLine):rO K A H none (nX lo n) (u3 lo n) where
 go:=λi A' H' st g s _ hi=>by rw[tQ]at hi;exact hi
 yld:=λi x A' H' st v H2 hx g s _ y=>by
  obtain⟨rfl,rfl⟩:=y;obtain⟨_,rfl⟩:=sR hx;exact⟨.refl _ _,s,.val (.int _)⟩
 stop:=λA' H' st g s _=>by rw[tQ];exact Nat.le_refl n
 small:=by rw[tQ];exact hz
def ze5 (T:yK):uD:=λenv st Q=>T env st λxs st1=>match xs with
 | [.int j]=>(-1000000<=j/\j<=1000000)/\Q none (u3 0 j.toNat) st1
 | _=>False
def ze6 (T:yK):uD:=λenv st Q=>T env st λxs st1=>match xs with
 | [.int i,.int j]=>(-1000000<=i/\i<=1000000/\ -1000000<=j/\j<=1000000)/\Q none (u3 i (j - i).toNat) st1
 | _=>False
end
end L3
namespace L3
open PySem PySem.Spec PyProof.Rows L2
section
variable {X:Cx}
theorem uK {f:Value->Value->Sem Value}{R:R3}
  (h: ∀pins s σ H A st x y v w vv ww Q3 Q,z5 X pins σ H s->RS X.K A H st->RE X.K A H x v->RE X.K A H y w->zS v vv->zS w ww->R x y st Q3->w4 X.K A H Q3 Q->wpAny (model X.prog X.w) X.A (f vv ww) (EP X pins σ Q) X.xe s):yG X f (xU X.K R):=by
 rintro pins s σ H v w vv ww Q I rv rw ⟨A,st,x,y,Q3,rs,ex,ey,hR,k⟩;exact h pins s σ H A st x y v w vv ww Q3 Q I rs ex ey rv rw hR k
def zb0:R3:=λx y st Q=>match x,y with | .int i,.int j=>Q (.int (i - j)) st | _,_=>False
def jT:R3:=λx y st Q=>match x,y with
 | .int i,.int j=>((-(2 ^ 64) < i/\i < 2 ^ 64)∨(-(2 ^ 64) < j/\j < 2 ^ 64))/\Q (.int (i * j)) st
 | .str z,.int n=>if n=0 then Q (.str Str.empty) st else n=1/\Q (.str z) st
 | _,_=>False
def zbs:R3:=λx y st Q=>match x,y with | .int i,.int j=>0 < j/\Q (.int (i % j)) st | _,_=>False
def zbk:R3:=λx y st Q=>match x,y with | .int i,.int j=>(0 < j/\j < 1099511627776)/\Q (.int (i / j)) st | _,_=>False
def zbx:R3:=λx y st Q=>match x,y with | .int i,.int j=>lX i j/\Q (.int (i ^ j.toNat)) st | _,_=>False
theorem zmd {X:Cx} :yG X (binaryOp .FloorDiv) (rI (λ_ j=>0 < j/\j < 1099511627776) λi j=> .int (i / j)):=jL λi j _ _ _ _ _ hc q=>by
 have e:i.fdiv j=i / j:=Int.fdiv_eq_ediv_of_nonneg _ (by omega);rw[<- e]at q;refine PyProof.Rows.floordiv_int (by omega) q (.inl (PyProof.noPylong_of_log2 ?_));by_cases z:j.natAbs=0
 ·rw[z];decide
 ·have:=(Nat.log2_lt z).mpr (show j.natAbs < 2 ^ 40 by omega)
  omega
theorem xN {K:Frag}{A:List Addr}{H:Hp}{i:Int}{v:V}(e:RE K A H (.int i) v):v= .int i:=by
 cases e with | val e=>cases e;rfl
theorem tU {K:Frag}{A:List Addr}{H:Hp}{i:Str}{v:V}(e:RE K A H (.str i) v):v= .str i:=by
 cases e with | val e=>cases e;rfl
theorem zcH {K:Frag}{A:List Addr}{H:Hp}{i:Bool}{v:V}(e:RE K A H (.bl i) v):v= .bl i:=by
 cases e with | val e=>cases e;rfl
theorem r6:yG X (binaryOp .Sub) (xU X.K zb0):=uK λpins s σ H A st x y v w vv ww Q3 Q I rs ex ey rv rw h k=>by
 unfold zb0 at h
 split at h
 ·cases xN ex;cases xN ey
  exact zmq pins s σ H _ _ vv ww Q I rv rw ⟨_,_,rfl,rfl,k.now rs (.val (.int _)) h⟩
 ·exact h.elim
theorem sM:yG X (binaryOp .Mult) (xU X.K jT):=uK λpins s σ H A st x y v w vv ww Q3 Q I rs ex ey rv rw h k=>by
 unfold jT at h
 split at h
 ·cases xN ex;cases xN ey
  exact zml pins s σ H _ _ vv ww Q I rv rw ⟨_,_,rfl,rfl,h.1,k.now rs (.val (.int _)) h.2⟩
 ·cases tU ex;cases xN ey
  rename_i z n;by_cases hn:n=0
  ·rw[if_pos hn]at h
   exact zfs pins s σ H _ _ vv ww Q I rv rw ⟨_,_,rfl,rfl,.inl ⟨hn,k.now rs (.val (.str _)) h⟩⟩
  ·rw[if_neg hn]at h
   exact zfs pins s σ H _ _ vv ww Q I rv rw ⟨_,_,rfl,rfl,.inr ⟨h.1,k.now rs (.val (.str _)) h.2⟩⟩
 ·exact h.elim
theorem sL:yG X (binaryOp .Mod) (xU X.K zbs):=uK λpins s σ H A st x y v w vv ww Q3 Q I rs ex ey rv rw h k=>by
 unfold zbs at h
 split at h
 ·cases xN ex;cases xN ey
  exact zmk pins s σ H _ _ vv ww Q I rv rw ⟨_,_,rfl,rfl,h.1,k.now rs (.val (.int _)) h.2⟩
 ·exact h.elim
theorem jI:yG X (binaryOp .FloorDiv) (xU X.K zbk):=uK λpins s σ H A st x y v w vv ww Q3 Q I rs ex ey rv rw h k=>by
 unfold zbk at h
 split at h
 ·cases xN ex;cases xN ey
  exact zmd pins s σ H _ _ vv ww Q I rv rw ⟨_,_,rfl,rfl,h.1,k.now rs (.val (.int _)) h.2⟩
 ·exact h.elim
theorem zl7:yG X (binaryOp .Pow) (xU X.K zbx):=uK λpins s σ H A st x y v w vv ww Q3 Q I rs ex ey rv rw h k=>by
 unfold zbx at h
 split at h
 ·cases xN ex;cases xN ey
  exact zmp pins s σ H _ _ vv ww Q I rv rw ⟨_,_,rfl,rfl,h.1,k.now rs (.val (.int _)) h.2⟩
 ·exact h.elim
def zbt:PV->z6->K3->Prop:=λx st Q=>match x with | .int i=>Q (.int (-i)) st | _=>False
theorem zl5:mC X (unaryOp .USub) (gY X.K zbt):=by
 rintro pins s σ H v vv Q I rv ⟨A,st,x,Q3,rs,ex,h,k⟩;unfold zbt at h
 split at h
 ·cases xN ex
  exact zoQ pins s σ H _ vv Q I rv ⟨_,rfl,k.now rs (.val (.int _)) h⟩
 ·exact h.elim
def pD (f:Int->Int->Bool):R3:=λx y st Q=>match x,y with | .int i,.int j=>Q (.bl (f i j)) st | _,_=>False
theorem zaO {op:CmpOp}{f:Int->Int->Bool}(ho:yG X (compareOp op) (q9 λi j=> .bl (f i j))):yG X (compareOp op) (xU X.K (pD f)):=uK λpins s σ H A st x y v w vv ww Q3 Q I rs ex ey rv rw h k=>by
 unfold pD at h
 split at h
 ·cases xN ex;cases xN ey
  exact ho pins s σ H _ _ vv ww Q I rv rw ⟨_,_,rfl,rfl,k.now rs (.val (.bl _)) h⟩
 ·exact h.elim
theorem oZ:yG X (compareOp .Lt) (xU X.K (pD λi j=>decide (i < j))):=zaO zmj
theorem uZ:yG X (compareOp .Gt) (xU X.K (pD λi j=>decide (j < i))):=zaO zmf
theorem zfd:yG X (compareOp .GtE) (xU X.K (pD λi j=>decide (j<=i))):=zaO zme
def vW:PV->Bool
 | .non=>true
 | _=>false
def zbo:R3:=λx y st Q=>match y with | .non=>Q (.bl (vW x)) st | _=>False
def zbu:R3:=λx y st Q=>match y with | .non=>Q (.bl (!vW x)) st | _=>False
theorem zeA {K:Frag}{A:List Addr}{H:Hp}{x:PV}{v:V}(e:RE K A H x v):decide (v= .non)=vW x:=by
 cases e with
 | obj e=>rfl
 | val e=>cases e <;> rfl
theorem zfe:yG X (compareOp .Is) (xU X.K zbo):=uK λpins s σ H A st x y v w vv ww Q3 Q I rs ex ey rv rw h k=>by
 unfold zbo at h
 split at h
 ·have hw:w= .non:=by cases ey with | val e=>cases e;rfl
  exact zmi pins s σ H _ _ vv ww Q I rv rw ⟨hw,by rw[zeA ex];exact k.now rs (.val (.bl _)) h⟩
 ·exact h.elim
theorem zl6:yG X (compareOp .IsNot) (xU X.K zbu):=uK λpins s σ H A st x y v w vv ww Q3 Q I rs ex ey rv rw h k=>by
 unfold zbu at h
 split at h
 ·have hw:w= .non:=by cases ey with | val e=>cases e;rfl
  exact zmo pins s σ H _ _ vv ww Q I rv rw ⟨hw,by rw[zeA ex];exact k.now rs (.val (.bl _)) h⟩
 ·exact h.elim
theorem zma:yG X (binaryOp .Add) (λx y H Q=> ∃a b xs ys,x= .ref a/\y= .ref b/\xM X.K H a xs/\xM X.K H b ys/\xs.length+ys.length<=sizeLine/\
  (xs= []->Q (.ref b) H)/\(ys= []->Q (.ref a) H)/\∀p,H p=none->Q (.ref p) (zQ H p (.tup (xs++ys)))):=by
 intro pins s σ H x y v u Q I rx ry h;obtain⟨a,b,xs,ys,rfl,rfl,ha,hb,hz,q1,q2,q3⟩:=h;by_cases hx:xs= []
 ·cases rx;cases ry
  subst hx;obtain⟨its,r1,p1,_⟩:=I.tuple ha;obtain⟨its2,r2,p2,_⟩:=I.tuple hb;have hv:its= []:=r1.nil_iff.mpr rfl;subst hv;obtain⟨⟨cls,dd,data,sl⟩,ho,hc,n,hd⟩:=id p1;obtain⟨⟨cls2,dd2,data2,sl2⟩,ho2,hc2,n2,hd2⟩:=id p2;simp only at hc hd hc2 hd2;subst hc hd hc2 hd2;exact concat_meets ⟨_,ho,rfl⟩ ⟨_,ho2,rfl⟩ noFill_tuple_add seq_tuple_add PySem.F.slot_tuple_add PySem.F.entry_tuple_add (PySem.F.args_tuple_add_2 _ _)
   (tuple_addW0 a b _ its2.toArray n n2 dd dd2 sl sl2 (by simp)) ⟨ho,ho2,⟨.ref b,H,I,rfl,q1 rfl⟩⟩
 ·exact zmc pins s σ H _ _ v u Q I rx ry ⟨a,b,_,_,rfl,rfl,ha,hb,hx,hz,q2,λ_=>q3⟩
def nE:R3:=λx y st Q=>match x,y with
 | .int i,.int j=>Q (.int (i+j)) st
 | .str i,.str j=>i.length+j.length<=sizeLine/\Q (.str (i++j)) st
 | .tup xs,.tup ys=>xs.length+ys.length<=sizeLine/\Q (.tup (xs++ys)) st
 | .lst xs,.lst ys=>xs.length+ys.length<=sizeLine/\Q (.lst (xs++ys)) st
 | _,_=>False
theorem RVs.nil_iff {K:Frag}{A:List Addr}{H:Hp}{xs:List PV}{vs:List V}(h:RVs K A H xs vs):vs= []->xs= []:=by
 cases h with
 | nil=>exact λ_=>rfl
 | cons r t=>exact λz=>nomatch z
theorem w4.tup {K:Frag}{A:List Addr}{H:Hp}{Q3:K3}{Q:VK}{st:z6}{xs:List PV}{vs:List V}(k:w4 K A H Q3 Q)(rs:RS K A H st)(r:RVs K A H xs vs)(hz:vs.length<=sizeLine)(q:Q3 (.tup xs) st): ∀p,H p=none->Q (.ref p) (zQ H p (.tup vs)):=
 λp hp=>k A _ st _ _ (.new hp) (rs.new hp) (.val (.tup (.inl ⟨.inl x9,rs.fresh hp⟩) hz (r.grow (.new hp)))) q
theorem w4.lst {K:Frag}{A:List Addr}{H:Hp}{Q3:K3}{Q:VK}{st:z6}{xs:List PV}{vs:List V}(k:w4 K A H Q3 Q)(rs:RS K A H st)(r:RVs K A H xs vs)(hz:vs.length<=sizeLine)(q:Q3 (.lst xs) st): ∀p,H p=none->Q (.ref p) (zQ H p (.lst vs)):=
 λp hp=>k A _ st _ _ (.new hp) (rs.new hp) (.val (.lst (.inl ⟨.inl x9,rs.fresh hp⟩) hz (r.grow (.new hp)))) q
theorem w4.dctO {K:Frag}{A:List Addr}{H:Hp}{Q3:K3}{Q:VK}{st:z6}{xs:List (z8×PV)}{vs:List (z8×V)}(k:w4 K A H Q3 Q)(rs:RS K A H st)(r:RKs K A H xs vs)(hz:vs.length<=sizeLine)(q:Q3 (.obj st.length) (st++ [.dct xs])): ∀p,H p=none->Q (.ref p) (zQ H p (.dK vs)):=
 λp hp=>k (A++ [p]) _ _ _ _ (.newObj hp) (rs.newObj (q:= .dct xs) hp ⟨vs,x9,r.grow (.newObj hp),hz⟩) (.obj (jJ rs.len)) q
theorem zmb:yG X (binaryOp .Add) (λx y H Q=> ∃a b xs ys,x= .ref a/\y= .ref b/\yX X.K H a xs/\yX X.K H b ys/\xs.length+ys.length<=sizeLine/\∀p,H p=none->Q (.ref p) (zQ H p (.lst (xs++ys)))):=by
 intro pins s σ H x y v u Q I rx ry h;obtain⟨a,b,xs,ys,rfl,rfl,ha,hb,hz,q⟩:=h;cases rx;cases ry;obtain⟨its,n,r1,e,_⟩:=I.listX ha;obtain⟨its2,n2,r2,e2,_⟩:=I.listX hb;have l1:=r1.length;have l2:=r2.length;refine PySem.P.add_list e e2 ?_ (by rw[List.size_toArray,List.size_toArray];omega);have ea:its.toArray++its2.toArray=(its++its2).toArray:=by simp
 rw[ea];exact⟨.ref _,_,I.lnew (t':=s.toks) (r1.append r2) (by rw[List.length_append];omega),rfl,q _ I.fresh⟩
theorem xA:yG X (binaryOp .Add) (xU X.K nE):=uK λpins s σ H A st x y v w vv ww Q3 Q I rs ex ey rv rw h k=>by
 unfold nE at h
 split at h
 ·cases xN ex;cases xN ey
  exact zlY pins s σ H _ _ vv ww Q I rv rw ⟨_,_,rfl,rfl,k.now rs (.val (.int _)) h⟩
 ·cases tU ex;cases tU ey
  exact zlZ pins s σ H _ _ vv ww Q I rv rw ⟨_,_,rfl,rfl,h.1,k.now rs (.val (.str _)) h.2⟩
 ·cases ex with | val ex=>cases ey with | val ey=>cases ex with | tup t z r=>cases ey with | tup t2 z2 r2=>
   have hl:_:=h.1;rw[r.len,r2.len]at hl;refine zma pins s σ H _ _ vv ww Q I rv rw ⟨_,_,_,_,rfl,rfl,t.sq,t2.sq,hl,λe=> ?_,λe=> ?_,k.tup rs (r.append r2) (by rw[List.length_append];exact hl) h.2⟩
   ·have e2:=r.nil_iff e
    subst e2;exact k.now rs (.val (.tup t2 z2 r2)) h.2
   ·have e2:=r2.nil_iff e
    subst e2;refine k.now rs (.val (.tup t z r)) ?_;have:=h.2;rw[List.append_nil]at this;exact this
 ·cases ex with | val ex=>cases ey with | val ey=>cases ex with | lst t z r=>cases ey with | lst t2 z2 r2=>
   have hl:_:=h.1;rw[r.len,r2.len]at hl;exact zmb pins s σ H _ _ vv ww Q I rv rw ⟨_,_,_,_,rfl,rfl,t.sq,t2.sq,hl,k.lst rs (r.append r2) (by rw[List.length_append];exact hl) h.2⟩
 ·exact h.elim
end
end L3
namespace L3
open PySem PySem.Spec PyProof.Rows L2
mutual
def zW:PV->PV->Bool
 | .non,.non=>true
 | .bl a,.bl b=>a==b
 | .bl a,.int b=>(if a then 1 else 0)==b
 | .int a,.bl b=>a==(if b then 1 else 0)
 | .int a,.int b=>a==b
 | .str a,.str b=>a==b
 | .tup xs,.tup ys=>eqPs xs ys
 | .lst xs,.lst ys=>eqPs xs ys
 | _,_=>false
def eqPs:List PV->List PV->Bool
 | [],[]=>true
 | x::xs,y::ys=>zW x y&&eqPs xs ys
 | _,_=>false
end
mutual
def z9:PV->Nat
 | .tup xs=>dpts xs+1
 | .lst xs=>dpts xs+1
 | .dct _=>1000
 | .itb _=>1000
 | .clo _=>1000
 | .ty _=>1000
 | .obj _=>1000
 | _=>0
def dpts:List PV->Nat
 | []=>0
 | x::xs=>max (z9 x) (dpts xs)
end
theorem fE: ∀{xs:List PV} {i:Nat} {x:PV},xs[i]?=some x->z9 x<=dpts xs
 | y::ys,0,x,h=>by simp at h;subst h;unfold dpts;exact Nat.le_max_left _ _
 | y::ys,i+1,x,h=>by
  have:=fE (xs:=ys) (i:=i) (x:=x) (by simpa using h);unfold dpts;exact Nat.le_trans this (Nat.le_max_right _ _)
mutual
theorem sD: ∀(x:PV),z9 x < 1000->zW x x=true
 | .non,_=>by unfold zW;rfl
 | .bl b,_=>by unfold zW;simp
 | .int i,_=>by unfold zW;simp
 | .str s,_=>by unfold zW;simp
 | .tup xs,h=>by unfold zW;exact eqPs_refl xs (by unfold z9 at h;omega)
 | .lst xs,h=>by unfold zW;exact eqPs_refl xs (by unfold z9 at h;omega)
 | .dct _,h=>by unfold z9 at h;omega
 | .itb _,h=>by unfold z9 at h;omega
 | .clo _,h=>by unfold z9 at h;omega
 | .ty _,h=>by unfold z9 at h;omega
 | .obj _,h=>by unfold z9 at h;omega
theorem eqPs_refl: ∀(xs:List PV),dpts xs < 1000->eqPs xs xs=true
 | [],_=>by unfold eqPs;rfl
 | x::xs,h=>by
  unfold dpts at h;unfold eqPs;rw[sD x (by omega),eqPs_refl xs (by omega)];rfl
end
theorem j1: ∀(xs ys:List PV),eqPs xs ys=((List.range (min xs.length ys.length)).all (λj=>match xs[j]?,ys[j]? with | some x,some y=>zW x y | _,_=>true)&&xs.length==ys.length)
 | [],[]=>by unfold eqPs;rfl
 | [],y::ys=>by unfold eqPs;simp
 | x::xs,[]=>by unfold eqPs;simp
 | x::xs,y::ys=>by
  unfold eqPs;rw[j1 xs ys];rw[List.length_cons,List.length_cons,Nat.succ_min_succ,List.range_succ_eq_map,List.all_cons,List.all_map];simp only[List.getElem?_cons_zero,Bool.and_assoc]
  congr 1
  have e:((λj=>match(x::xs)[j]?,(y::ys)[j]? with | some x,some y=>zW x y | _,_=>true) ∘ Nat.succ)=λj=>match xs[j]?,ys[j]? with | some x,some y=>zW x y | _,_=>true:=by
   funext j;simp
  rw[e]
  congr 1
  rw[Bool.eq_iff_iff];simp
section
variable {X:Cx} {pins:List (Addr×Obj)} {σ:St} {H:Hp} {s:Shared} {A:List Addr}
theorem z5.lst_tup (I:z5 X pins σ H s){a:Addr}{xs ys:List V}(h1:yX X.K H a xs)(h2:xM X.K H a ys):False:=by
 obtain⟨its,_,p,_⟩:=I.list h1;obtain⟨its2,_,p2,_⟩:=I.tuple h2;exact SeqAt.ne_of_list_tuple p.isList p2 rfl
mutual
theorem RV.inj (I:z5 X pins σ H s){x y:PV}{v:V}(a:RV X.K A H x v)(b:RV X.K A H y v)(h1:z9 x < 1000)(h2:z9 y < 1000):x=y:=by
 cases a with
 | non=>cases b;rfl
 | bl _=>cases b;rfl
 | int _=>cases b;rfl
 | str _=>cases b;rfl
 | ty _=>cases b;rfl
 | tup t z r=>
  cases b with
  | tup t2 z2 r2=>
   have e:=I.tuple_inj t.sq t2.sq;subst e;rw[RVs.inj2 I r r2 (by unfold z9 at h1;omega) (by unfold z9 at h2;omega)]
  | lst t2 z2 r2=>exact(z5.lst_tup I t2.sq t.sq).elim
  | dct _ _ _=>unfold z9 at h2;omega
  | itb _ _=>unfold z9 at h2;omega
  | clo _=>unfold z9 at h2;omega
 | lst t z r=>
  cases b with
  | lst t2 z2 r2=>
   have e:=I.list_inj t.sq t2.sq;subst e;rw[RVs.inj2 I r r2 (by unfold z9 at h1;omega) (by unfold z9 at h2;omega)]
  | tup t2 z2 r2=>exact(z5.lst_tup I t.sq t2.sq).elim
  | dct _ _ _=>unfold z9 at h2;omega
  | itb _ _=>unfold z9 at h2;omega
  | clo _=>unfold z9 at h2;omega
 | dct _ _ _=>unfold z9 at h1;omega
 | itb _ _=>unfold z9 at h1;omega
 | clo _=>unfold z9 at h1;omega
theorem RVs.inj2 (I:z5 X pins σ H s){xs ys:List PV}{vs:List V}(a:RVs X.K A H xs vs)(b:RVs X.K A H ys vs)(h1:dpts xs < 1000)(h2:dpts ys < 1000):xs=ys:=by
 cases a with
 | nil=>cases b;rfl
 | cons r t=>
  cases b with
  | cons r2 t2=>
   unfold dpts at h1 h2;rw[RV.inj I r r2 (by omega) (by omega),RVs.inj2 I t t2 (by omega) (by omega)]
end
theorem oP {n:Nat}{B:Around}{xs ys:List PV}{vs ws:List V}{its its2:List Value}(rx:RVs X.K A H xs vs)(ry:RVs X.K A H ys ws)(r1:zM vs its)(r2:zM ws its2)
  (ih: ∀x y v w vv ww,z9 x<=n->z9 y < 1000->RV X.K A H x v->RV X.K A H y w->zS v vv->zS w ww->SeqAt.EqAt B s vv ww (zW x y)) (hx:dpts xs<=n) (hy:dpts ys < 1000):
  ∀j (h1:j < its.toArray.size) (h2:j < its2.toArray.size),SeqAt.EqAt B s its.toArray[j] its2.toArray[j] ((λj=>match xs[j]?,ys[j]? with | some x,some y=>zW x y | _,_=>true) j):=λj h1 h2=>by
 obtain⟨v,ev,rv⟩:=zho r1 h1;obtain⟨w,ew,rw'⟩:=zho r2 h2;obtain⟨x,ex,rx'⟩:=rx.get' ev;obtain⟨y,ey,ry'⟩:=ry.get' ew;show SeqAt.EqAt B s _ _ (match xs[j]?,ys[j]? with | some x,some y=>zW x y | _,_=>true);rw[ex,ey];exact ih x y v w _ _ (Nat.le_trans (fE ex) hx) (Nat.lt_of_le_of_lt (fE ey) hy) rx' ry' rv rw'
def jY:PV->PV->Bool
 | .tup _,.tup _=>true
 | .lst _,.lst _=>true
 | _,_=>false
inductive Kd (s:Shared):PV->Value->Prop
 | non:Kd s .non .none
 | bl (b:Bool):Kd s (.bl b) (.bool b)
 | int (i:Int) (t:Tok):Kd s (.int i) (.int i t)
 | str (z:Str) (t:Tok):Kd s (.str z) (.str z t)
 | tup {xs:List PV} {a:Addr} {its:Array Value} :IsTup s.heap a its->Kd s (.tup xs) (.ref a)
 | lst {xs:List PV} {a:Addr} {its:Array Value} :s.heap.IsList a its->Kd s (.lst xs) (.ref a)
theorem sY (I:z5 X pins σ H s){x:PV}{v:V}{vv:Value}(rx:RV X.K A H x v)(rv:zS v vv)(h:z9 x < 1000):Kd s x vv:=by
 cases rx with
 | non=>cases rv;exact .non
 | bl b=>cases rv;exact .bl b
 | int i=>obtain⟨t,rfl⟩:=rv;exact .int i t
 | str z=>obtain⟨t,rfl⟩:=rv;exact .str z t
 | ty n=>unfold z9 at h;omega
 | tup t z r=>cases rv;obtain⟨its,_,p,_⟩:=I.tuple t.sq;exact .tup p
 | lst t z r=>cases rv;obtain⟨its,_,p,_⟩:=I.list t.sq;exact .lst p.isList
 | dct t z r=>unfold z9 at h;omega
 | itb _ _=>unfold z9 at h;omega
 | clo _=>unfold z9 at h;omega
local macro_rules | `(tactic| exact?)=> `(tactic| simp only[zW,Bool.not_false,Bool.not_true])
open SeqAt in
theorem zdo {B:Around}(hu:B.units < cLine): ∀{x y:PV} {vv ww:Value},Kd s x vv->Kd s y ww->jY x y=false->EqAt B s vv ww (zW x y)
 | _,_,_,_,.non,.non,_=>by exact?;exact EqAt.same _
 | _,_,_,_,.non,.bl b,_=>by exact?;exact EqAt.none_bool _
 | _,_,_,_,.non,.int b b2,_=>by exact?;exact EqAt.none_int _ _
 | _,_,_,_,.non,.str b b2,_=>by exact?;exact EqAt.none_str _ _
 | _,_,_,_,.non,.tup b,_=>by exact?;exact EqAt.none_tuple b hu
 | _,_,_,_,.non,.lst b,_=>by exact?;exact EqAt.none_list b hu
 | _,_,_,_,.bl a,.non,_=>by exact?;exact EqAt.bool_none _
 | _,_,_,_,.bl a,.bl b,_=>by exact?;exact EqAt.bool_bool _ _
 | _,_,_,_,.bl a,.int b b2,_=>by exact?;exact EqAt.bool_int _ _ _
 | _,_,_,_,.bl a,.str b b2,_=>by exact?;exact EqAt.bool_str _ _ _
 | _,_,_,_,.bl a,.tup b,_=>by exact?;exact EqAt.bool_tuple _ b hu
 | _,_,_,_,.bl a,.lst b,_=>by exact?;exact EqAt.bool_list _ b hu
 | _,_,_,_,.int a a2,.non,_=>by exact?;exact EqAt.int_none _ _
 | _,_,_,_,.int a a2,.bl b,_=>by exact?;exact EqAt.int_bool _ _ _
 | _,_,_,_,.int a a2,.int b b2,_=>by exact?;exact EqAt.int_int _ _ _ _
 | _,_,_,_,.int a a2,.str b b2,_=>by exact?;exact EqAt.int_str _ _ _ _
 | _,_,_,_,.int a a2,.tup b,_=>by exact?;exact EqAt.int_tuple _ _ b hu
 | _,_,_,_,.int a a2,.lst b,_=>by exact?;exact EqAt.int_list _ _ b hu
 | _,_,_,_,.str a a2,.non,_=>by exact?;exact EqAt.str_none _ _
 | _,_,_,_,.str a a2,.bl b,_=>by exact?;exact EqAt.str_bool _ _ _
 | _,_,_,_,.str a a2,.int b b2,_=>by exact?;exact EqAt.str_int _ _ _ _
 | _,_,_,_,.str a a2,.str b b2,_=>by exact?;exact EqAt.str_str _ _ _ _
 | _,_,_,_,.str a a2,.tup b,_=>by exact?;exact EqAt.str_tuple _ _ b hu
 | _,_,_,_,.str a a2,.lst b,_=>by exact?;exact EqAt.str_list _ _ b hu
 | _,_,_,_,.tup a,.non,_=>by exact?;exact EqAt.tuple_none a hu
 | _,_,_,_,.tup a,.bl b,_=>by exact?;exact EqAt.tuple_bool _ a hu
 | _,_,_,_,.tup a,.int b b2,_=>by exact?;exact EqAt.tuple_int _ _ a hu
 | _,_,_,_,.tup a,.str b b2,_=>by exact?;exact EqAt.tuple_str _ _ a hu
 | _,_,_,_,.tup _,.tup _,h=>Bool.noConfusion h
 | _,_,_,_,.tup a,.lst b,_=>by exact?;exact EqAt.tuple_list a b hu
 | _,_,_,_,.lst a,.non,_=>by exact?;exact EqAt.list_none a hu
 | _,_,_,_,.lst a,.bl b,_=>by exact?;exact EqAt.list_bool _ a hu
 | _,_,_,_,.lst a,.int b b2,_=>by exact?;exact EqAt.list_int _ _ a hu
 | _,_,_,_,.lst a,.str b b2,_=>by exact?;exact EqAt.list_str _ _ a hu
 | _,_,_,_,.lst a,.tup b,_=>by exact?;exact EqAt.list_tuple a b hu
 | _,_,_,_,.lst _,.lst _,h=>Bool.noConfusion h
open SeqAt in
theorem znP {B:Around}(hu:B.units < cLine): ∀{x y:PV} {vv ww:Value},Kd s x vv->Kd s y ww->jY x y=false->RcAt B s vv ww (zW x y)
 | _,_,_,_,.non,.non,_=>by exact?;exact RcAt.none_none
 | _,_,_,_,.non,.bl b,_=>by exact?;exact RcAt.none_bool _
 | _,_,_,_,.non,.int b b2,_=>by exact?;exact RcAt.none_int _ _
 | _,_,_,_,.non,.str b b2,_=>by exact?;exact RcAt.none_str _ _
 | _,_,_,_,.non,.tup b,_=>by exact?;exact RcAt.none_tuple b hu
 | _,_,_,_,.non,.lst b,_=>by exact?;exact RcAt.none_list b hu
 | _,_,_,_,.bl a,.non,_=>by exact?;exact RcAt.bool_none _
 | _,_,_,_,.bl a,.bl b,_=>by exact?;exact RcAt.bool_bool _ _
 | _,_,_,_,.bl a,.int b b2,_=>by exact?;exact RcAt.bool_int _ _ _
 | _,_,_,_,.bl a,.str b b2,_=>by exact?;exact RcAt.bool_str _ _ _
 | _,_,_,_,.bl a,.tup b,_=>by exact?;exact RcAt.bool_tuple _ b hu
 | _,_,_,_,.bl a,.lst b,_=>by exact?;exact RcAt.bool_list _ b hu
 | _,_,_,_,.int a a2,.non,_=>by exact?;exact RcAt.int_none _ _
 | _,_,_,_,.int a a2,.bl b,_=>by exact?;exact RcAt.int_bool _ _ _
 | _,_,_,_,.int a a2,.int b b2,_=>by exact?;exact RcAt.int_int _ _ _ _
 | _,_,_,_,.int a a2,.str b b2,_=>by exact?;exact RcAt.int_str _ _ _ _
 | _,_,_,_,.int a a2,.tup b,_=>by exact?;exact RcAt.int_tuple _ _ b hu
 | _,_,_,_,.int a a2,.lst b,_=>by exact?;exact RcAt.int_list _ _ b hu
 | _,_,_,_,.str a a2,.non,_=>by exact?;exact RcAt.str_none _ _
 | _,_,_,_,.str a a2,.bl b,_=>by exact?;exact RcAt.str_bool _ _ _
 | _,_,_,_,.str a a2,.int b b2,_=>by exact?;exact RcAt.str_int _ _ _ _
 | _,_,_,_,.str a a2,.str b b2,_=>by exact?;exact RcAt.str_str _ _ _ _
 | _,_,_,_,.str a a2,.tup b,_=>by exact?;exact RcAt.str_tuple _ _ b hu
 | _,_,_,_,.str a a2,.lst b,_=>by exact?;exact RcAt.str_list _ _ b hu
 | _,_,_,_,.tup a,.non,_=>by exact?;exact RcAt.tuple_none a hu
 | _,_,_,_,.tup a,.bl b,_=>by exact?;exact RcAt.tuple_bool _ a hu
 | _,_,_,_,.tup a,.int b b2,_=>by exact?;exact RcAt.tuple_int _ _ a hu
 | _,_,_,_,.tup a,.str b b2,_=>by exact?;exact RcAt.tuple_str _ _ a hu
 | _,_,_,_,.tup _,.tup _,h=>Bool.noConfusion h
 | _,_,_,_,.tup a,.lst b,_=>by exact?;exact RcAt.tuple_list a b hu
 | _,_,_,_,.lst a,.non,_=>by exact?;exact RcAt.list_none a hu
 | _,_,_,_,.lst a,.bl b,_=>by exact?;exact RcAt.list_bool _ a hu
 | _,_,_,_,.lst a,.int b b2,_=>by exact?;exact RcAt.list_int _ _ a hu
 | _,_,_,_,.lst a,.str b b2,_=>by exact?;exact RcAt.list_str _ _ a hu
 | _,_,_,_,.lst a,.tup b,_=>by exact?;exact RcAt.list_tuple a b hu
 | _,_,_,_,.lst _,.lst _,h=>Bool.noConfusion h
open SeqAt in
theorem znS {B:Around}(hu:B.units < cLine): ∀{x y:PV} {vv ww:Value},Kd s x vv->Kd s y ww->jY x y=false->RcNeAt B s vv ww (!zW x y)
 | _,_,_,_,.non,.non,_=>by exact?;exact RcNeAt.none_none
 | _,_,_,_,.non,.bl b,_=>by exact?;exact RcNeAt.none_bool _
 | _,_,_,_,.non,.int b b2,_=>by exact?;exact RcNeAt.none_int _ _
 | _,_,_,_,.non,.str b b2,_=>by exact?;exact RcNeAt.none_str _ _
 | _,_,_,_,.non,.tup b,_=>by exact?;exact RcNeAt.none_tuple b hu
 | _,_,_,_,.non,.lst b,_=>by exact?;exact RcNeAt.none_list b hu
 | _,_,_,_,.bl a,.non,_=>by exact?;exact RcNeAt.bool_none _
 | _,_,_,_,.bl a,.bl b,_=>by exact?;exact RcNeAt.bool_bool _ _
 | _,_,_,_,.bl a,.int b b2,_=>by exact?;exact RcNeAt.bool_int _ _ _
 | _,_,_,_,.bl a,.str b b2,_=>by exact?;exact RcNeAt.bool_str _ _ _
 | _,_,_,_,.bl a,.tup b,_=>by exact?;exact RcNeAt.bool_tuple _ b hu
 | _,_,_,_,.bl a,.lst b,_=>by exact?;exact RcNeAt.bool_list _ b hu
 | _,_,_,_,.int a a2,.non,_=>by exact?;exact RcNeAt.int_none _ _
 | _,_,_,_,.int a a2,.bl b,_=>by exact?;exact RcNeAt.int_bool _ _ _
 | _,_,_,_,.int a a2,.int b b2,_=>by exact?;exact RcNeAt.int_int _ _ _ _
 | _,_,_,_,.int a a2,.str b b2,_=>by exact?;exact RcNeAt.int_str _ _ _ _
 | _,_,_,_,.int a a2,.tup b,_=>by exact?;exact RcNeAt.int_tuple _ _ b hu
 | _,_,_,_,.int a a2,.lst b,_=>by exact?;exact RcNeAt.int_list _ _ b hu
 | _,_,_,_,.str a a2,.non,_=>by exact?;exact RcNeAt.str_none _ _
 | _,_,_,_,.str a a2,.bl b,_=>by exact?;exact RcNeAt.str_bool _ _ _
 | _,_,_,_,.str a a2,.int b b2,_=>by exact?;exact RcNeAt.str_int _ _ _ _
 | _,_,_,_,.str a a2,.str b b2,_=>by exact?;exact RcNeAt.str_str _ _ _ _
 | _,_,_,_,.str a a2,.tup b,_=>by exact?;exact RcNeAt.str_tuple _ _ b hu
 | _,_,_,_,.str a a2,.lst b,_=>by exact?;exact RcNeAt.str_list _ _ b hu
 | _,_,_,_,.tup a,.non,_=>by exact?;exact RcNeAt.tuple_none a hu
 | _,_,_,_,.tup a,.bl b,_=>by exact?;exact RcNeAt.tuple_bool _ a hu
 | _,_,_,_,.tup a,.int b b2,_=>by exact?;exact RcNeAt.tuple_int _ _ a hu
 | _,_,_,_,.tup a,.str b b2,_=>by exact?;exact RcNeAt.tuple_str _ _ a hu
 | _,_,_,_,.tup _,.tup _,h=>Bool.noConfusion h
 | _,_,_,_,.tup a,.lst b,_=>by exact?;exact RcNeAt.tuple_list a b hu
 | _,_,_,_,.lst a,.non,_=>by exact?;exact RcNeAt.list_none a hu
 | _,_,_,_,.lst a,.bl b,_=>by exact?;exact RcNeAt.list_bool _ a hu
 | _,_,_,_,.lst a,.int b b2,_=>by exact?;exact RcNeAt.list_int _ _ a hu
 | _,_,_,_,.lst a,.str b b2,_=>by exact?;exact RcNeAt.list_str _ _ a hu
 | _,_,_,_,.lst a,.tup b,_=>by exact?;exact RcNeAt.list_tuple a b hu
 | _,_,_,_,.lst _,.lst _,h=>Bool.noConfusion h
theorem zb8 (x y:PV):jY x y=false∨(∃xs ys,x= .tup xs/\y= .tup ys)∨∃xs ys,x= .lst xs/\y= .lst ys:=by
 cases x <;> cases y <;> first | exact .inl rfl | exact .inr (.inl ⟨_,_,rfl,rfl⟩) | exact .inr (.inr ⟨_,_,rfl,rfl⟩)
theorem zb1 {xs ys:List PV}{n m:Nat}(h1:xs.length=n)(h2:ys.length=m):((List.range (min n m)).all (λj=>match xs[j]?,ys[j]? with | some x,some y=>zW x y | _,_=>true)&&n==m)=eqPs xs ys:=by
 subst h1 h2;exact(j1 xs ys).symm
theorem zb2 {xs ys:List PV}{n m:Nat}(h1:xs.length=n)(h2:ys.length=m)(h:n=m):(List.range n).all (λj=>match xs[j]?,ys[j]? with | some x,some y=>zW x y | _,_=>true)=eqPs xs ys:=by
 rw[j1,h1,h2,<- h,Nat.min_self];simp
theorem fG {xs ys:List PV}(h:xs.length≠ys.length):eqPs xs ys=false:=by
 rw[j1];simp[h]
theorem j2 (I:z5 X pins σ H s): ∀(n:Nat) (B:Around) (x y:PV) (v w:V) (vv ww:Value),B.units+n < cLine->z9 x<=n->n < 1000->z9 y < 1000->RV X.K A H x v->RV X.K A H y w->zS v vv->zS w ww->SeqAt.EqAt B s vv ww (zW x y):=by
 intro n
 induction n with
 | zero=>
  intro B x y v w vv ww hu hx hn hy rx ry rv rw;refine zdo (by omega) (sY I rx rv (by omega)) (sY I ry rw hy) ?_;cases x <;> first | (unfold z9 at hx;omega) | rfl
 | succ n ih=>
  intro B x y v w vv ww hu hx hn hy rx ry rv rw;rcases zb8 x y with h | ⟨xs,ys,rfl,rfl⟩ | ⟨xs,ys,rfl,rfl⟩
  ·exact zdo (by omega) (sY I rx rv (by omega)) (sY I ry rw hy) h
  ·cases rx with | tup t z r=>cases ry with | tup t2 z2 r2=>
    rename_i a vs b ws;cases rv;cases rw;by_cases hab:a=b
    ·subst hab
     have e:=RV.inj I (.tup t z r) (.tup t2 z2 r2) (by omega) hy;rw[e,sD _ hy];exact SeqAt.EqAt.same _
    ·obtain⟨its,r3,p,_⟩:=I.tuple t.sq
     obtain⟨its2,r4,p2,_⟩:=I.tuple t2.sq;have hh:=SeqAt.RcAt.tuples (A:=B) (show s.heap.IsTuple a its.toArray from p) (show s.heap.IsTuple b its2.toArray from p2) (by omega) (oP r r2 r3 r4 (λx y v w vv ww h1 h2=>ih B.in1 x y v w vv ww (by show B.units+1+n < cLine;omega) h1 (by omega) h2) (by unfold z9 at hx;omega) (by unfold z9 at hy;omega));rw[zb1 (by rw[r.len,r3.length];simp) (by rw[r2.len,r4.length];simp)]at hh;unfold zW;exact SeqAt.EqAt.of_refs hab hh
  ·cases rx with | lst t z r=>cases ry with | lst t2 z2 r2=>
    rename_i a vs b ws;cases rv;cases rw;by_cases hab:a=b
    ·subst hab
     have e:=RV.inj I (.lst t z r) (.lst t2 z2 r2) (by omega) hy;rw[e,sD _ hy];exact SeqAt.EqAt.same _
    ·obtain⟨its,r3,p,_⟩:=I.list t.sq
     obtain⟨its2,r4,p2,_⟩:=I.list t2.sq;have l1:xs.length=its.toArray.size:=by rw[r.len,r3.length];simp
     have l2:ys.length=its2.toArray.size:=by rw[r2.len,r4.length];simp
     unfold zW;refine SeqAt.EqAt.of_refs hab ?_;by_cases hl:its.toArray.size=its2.toArray.size
     ·have hh:=SeqAt.RcAt.lists (A:=B) p.isList p2.isList hl (by omega) (oP r r2 r3 r4 (λx y v w vv ww h1 h2=>ih B.in1 x y v w vv ww (by show B.units+1+n < cLine;omega) h1 (by omega) h2) (by unfold z9 at hx;omega) (by unfold z9 at hy;omega))
      rw[zb2 l1 l2 hl]at hh;exact hh
     ·rw[fG (by omega)]
      exact SeqAt.RcAt.lists_lengths p.isList p2.isList (by simpa using hl) (by omega)
def zbl:R3:=λx y st Q=>(z9 x<=50/\z9 y < 1000)/\Q (.bl (zW x y)) st
def zfK:R3:=λx y st Q=>(z9 x<=50/\z9 y < 1000)/\Q (.bl (!zW x y)) st
theorem mT {x:PV}(h:z9 x < 1000):yJ x=true:=by
 cases x <;> first | rfl | (unfold z9 at h;omega)
theorem yT {k:Nat}(hr:zY k X.A):yG X (compareOp .Eq) (xU X.K zbl):=uK λpins s σ H A st x y v w vv ww Q3 Q I rs ex ey rv rw h k=>by
 obtain⟨⟨h1,h2⟩,h⟩:=h;have hu:=hr.units;have rx:=ex.rv (mT (by omega));have ry:=ey.rv (mT h2);have fin: ∀b,b=zW x y->EP X pins σ Q (.bool b) s:=λb e=>⟨.bl b,H,I,rfl,by rw[e];exact k.now rs (.val (.bl _)) h⟩;rcases zb8 x y with hn | ⟨xs,ys,rfl,rfl⟩ | ⟨xs,ys,rfl,rfl⟩
 ·exact znP (by omega) (sY I rx rv (by omega)) (sY I ry rw h2) hn _ _ _ _ (fin _ rfl)
 ·cases rx with | tup t z r=>cases ry with | tup t2 z2 r2=>
   cases rv;cases rw;obtain⟨its,r3,p,_⟩:=I.tuple t.sq;obtain⟨its2,r4,p2,_⟩:=I.tuple t2.sq;refine SeqAt.RcAt.tuples (show s.heap.IsTuple _ its.toArray from p) (show s.heap.IsTuple _ its2.toArray from p2) (by omega) (oP (n:=50) r r2 r3 r4 (λx y v w vv ww h1 h2=>j2 I 50 X.A.in1 x y v w vv ww (by show X.A.units+1+50 < cLine;omega) h1 (by omega) h2) (by unfold z9 at h1;omega) (by unfold z9 at h2;omega)) _ _ _ _ (fin _ ?_);rw[zb1 (by rw[r.len,r3.length];simp) (by rw[r2.len,r4.length];simp)];unfold zW;rfl
 ·cases rx with | lst t z r=>cases ry with | lst t2 z2 r2=>
   cases rv;cases rw;obtain⟨its,r3,p,_⟩:=I.list t.sq;obtain⟨its2,r4,p2,_⟩:=I.list t2.sq;have l1:xs.length=its.toArray.size:=by rw[r.len,r3.length];simp
   have l2:ys.length=its2.toArray.size:=by rw[r2.len,r4.length];simp
   by_cases hl:its.toArray.size=its2.toArray.size
   ·refine SeqAt.RcAt.lists p.isList p2.isList hl (by omega) (oP (n:=50) r r2 r3 r4 (λx y v w vv ww h1 h2=>j2 I 50 X.A.in1 x y v w vv ww (by show X.A.units+1+50 < cLine;omega) h1 (by omega) h2) (by unfold z9 at h1;omega) (by unfold z9 at h2;omega)) _ _ _ _ (fin _ ?_)
    rw[zb2 l1 l2 hl];unfold zW;rfl
   ·refine SeqAt.RcAt.lists_lengths p.isList p2.isList (by simpa using hl) (by omega) _ _ _ _ (fin _ ?_)
    unfold zW;rw[fG (by omega)]
theorem q0 {k:Nat}(hr:zY k X.A):yG X (compareOp .NotEq) (xU X.K zfK):=uK λpins s σ H A st x y v w vv ww Q3 Q I rs ex ey rv rw h k=>by
 obtain⟨⟨h1,h2⟩,h⟩:=h;have hu:=hr.units;have rx:=ex.rv (mT (by omega));have ry:=ey.rv (mT h2);have fin: ∀b,b= !zW x y->EP X pins σ Q (.bool b) s:=λb e=>⟨.bl b,H,I,rfl,by rw[e];exact k.now rs (.val (.bl _)) h⟩;rcases zb8 x y with hn | ⟨xs,ys,rfl,rfl⟩ | ⟨xs,ys,rfl,rfl⟩
 ·exact znS (by omega) (sY I rx rv (by omega)) (sY I ry rw h2) hn _ _ _ _ (fin _ rfl)
 ·cases rx with | tup t z r=>cases ry with | tup t2 z2 r2=>
   cases rv;cases rw;obtain⟨its,r3,p,_⟩:=I.tuple t.sq;obtain⟨its2,r4,p2,_⟩:=I.tuple t2.sq;refine(SeqAt.RcNeAt.tuples (show s.heap.IsTuple _ its.toArray from p) (show s.heap.IsTuple _ its2.toArray from p2) (by omega) (oP (n:=50) r r2 r3 r4 (λx y v w vv ww h1 h2=>j2 I 50 X.A.in1 x y v w vv ww (by show X.A.units+1+50 < cLine;omega) h1 (by omega) h2) (by unfold z9 at h1;omega) (by unfold z9 at h2;omega))) _ _ _ _ (fin _ ?_);rw[zb1 (by rw[r.len,r3.length];simp) (by rw[r2.len,r4.length];simp)];unfold zW;rfl
 ·cases rx with | lst t z r=>cases ry with | lst t2 z2 r2=>
   cases rv;cases rw;obtain⟨its,r3,p,_⟩:=I.list t.sq;obtain⟨its2,r4,p2,_⟩:=I.list t2.sq;have l1:xs.length=its.toArray.size:=by rw[r.len,r3.length];simp
   have l2:ys.length=its2.toArray.size:=by rw[r2.len,r4.length];simp
   by_cases hl:its.toArray.size=its2.toArray.size
   ·refine(SeqAt.RcNeAt.lists p.isList p2.isList hl (by omega) (oP (n:=50) r r2 r3 r4 (λx y v w vv ww h1 h2=>j2 I 50 X.A.in1 x y v w vv ww (by show X.A.units+1+50 < cLine;omega) h1 (by omega) h2) (by unfold z9 at h1;omega) (by unfold z9 at h2;omega))) _ _ _ _ (fin _ ?_)
    rw[zb2 l1 l2 hl];unfold zW;rfl
   ·refine(SeqAt.RcNeAt.lists_lengths p.isList p2.isList (by simpa using hl) (by omega)) _ _ _ _ (fin _ ?_)
    unfold zW;rw[fG (by omega)];rfl
end
end L3
namespace L3
open PySem PySem.Spec PyProof.Rows L2
def zU (kvs:List (z8×PV))(k:z8):Option PV:=(kvs.find? λkv=>decide (kv.1=k)).map (·.2)
def vY (kvs:List (z8×PV))(k:z8)(v:PV):List (z8×PV):=
 if(kvs.any λkv=>decide (kv.1=k))=true then kvs.map (λkv=>if kv.1=k then(kv.1,v)else kv)else kvs++ [(k,v)]
def vL:PV->Option z8
 | .int i=>some (.inl i)
 | .str x=>some (.inr x)
 | _=>none
section
variable {K:Frag} {A:List Addr} {H:Hp}
theorem RKs.val {k:z8} : ∀{kvs:List (z8×PV)} {us:List (z8×V)},RKs K A H kvs us->(∃x v,zU kvs k=some x/\u9 us k=some v/\RV K A H x v)∨(zU kvs k=none/\u9 us k=none)
 | _,_,.nil=> .inr ⟨rfl,rfl⟩
 | _,_,.cons (k:=k') (x:=x) (v:=v) (xs:=xs) (vs:=vs) r t=>by
  by_cases e:k'=k
  ·refine .inl ⟨x,v,?_,?_,r⟩
   ·unfold zU;rw[List.find?_cons,decide_eq_true e];rfl
   ·exact lW e
  ·have e1:zU ((k',x)::xs) k=zU xs k:=by unfold zU;rw[List.find?_cons,decide_eq_false e]
   have e2:u9 ((k',v)::vs) k=u9 vs k:=lV e;rw[e1,e2];exact RKs.val t
theorem RKs.any {k:z8} : ∀{kvs:List (z8×PV)} {us:List (z8×V)},RKs K A H kvs us->(us.any λkv=>decide (kv.1=k))=(kvs.any λkv=>decide (kv.1=k))
 | _,_,.nil=>rfl
 | _,_,.cons r t=>by rw[List.any_cons,List.any_cons,RKs.any t]
theorem RKs.map {k:z8}{x:PV}{v:V}(r:RV K A H x v): ∀{kvs:List (z8×PV)} {us:List (z8×V)},RKs K A H kvs us->RKs K A H (kvs.map λkv=>if kv.1=k then(kv.1,x)else kv) (us.map λkv=>if kv.1=k then(kv.1,v)else kv)
 | _,_,.nil=> .nil
 | _,_,.cons (k:=k') r' t=>by
  rw[List.map_cons,List.map_cons];by_cases e:k'=k
  ·rw[if_pos e,if_pos e];exact .cons r (RKs.map r t)
  ·rw[if_neg e,if_neg e];exact .cons r' (RKs.map r t)
theorem RKs.append: ∀{a b:List (z8×PV)} {c d:List (z8×V)},RKs K A H a c->RKs K A H b d->RKs K A H (a++b) (c++d)
 | _,_,_,_,.nil,h=>h
 | _,_,_,_,.cons r t,h=> .cons r (RKs.append t h)
theorem RKs.put {k:z8}{x:PV}{v:V}(r:RV K A H x v){kvs:List (z8×PV)}{us:List (z8×V)}(h:RKs K A H kvs us):RKs K A H (vY kvs k x) (wL us k v):=by
 unfold vY wL;rw[h.any]
 split
 ·exact h.map r
 ·exact h.append (.cons r .nil)
theorem sI {y:PV}{w:V}{k:z8}(e:RE K A H y w)(h:vL y=some k):w=kV k:=by
 cases e with
 | obj e=>cases h
 | val e=>cases e <;> first | cases h;rfl | cases h
end
section
variable {X:Cx} {a b e:Expr} {es:List Expr} {pos p2:Pos} {Ta Tb:zD} {TA:yK}
def pE:R3:=λx y st Q=>match x with
 | .tup xs=>match y with | .int i=>(match atI xs i with | some z=>Q z st | none=>False) | _=>False
 | .lst xs=>match y with | .int i=>(match atI xs i with | some z=>Q z st | none=>False) | _=>False
 | .str z=>match y with | .int i=>z.length<=sizeLine/\(match atI z.cps.toList i with | some c=>Q (.str ⟨#[c]⟩) st | none=>False) | _=>False
 | .dct kvs=>(match vL y with | some k=>(match zU kvs k with | some z=>Q z st | none=>False) | none=>False)
 | .obj n=>(match st[n]? with
  | some (.lst xs)=>(match y with | .int i=>(match atI xs i with | some z=>Q z st | none=>False) | _=>False)
  | some (.dct kvs)=>(match vL y with | some k=>(match zU kvs k with | some z=>Q z st | none=>False) | none=>False)
  | _=>False)
 | _=>False
theorem RVs.atI {K:Frag}{A:List Addr}{H:Hp}{xs:List PV}{vs:List V}{i:Int}{x:PV}(r:RVs K A H xs vs)(h:L2.atI xs i=some x): ∃v,L2.atI vs i=some v/\RV K A H x v:=by
 unfold L2.atI at h⊢
 rw[<- r.len];cases e:wJ xs.length i with
 | none=>rw[e]at h;cases h
 | some j=>rw[e]at h;exact r.get h
theorem za_ {k:Nat}(hr:zY k X.A):rP X (λx y H Q=> ∃a v,x= .ref a/\qN H a y (some v)/\Q v H):=by
 intro value slice pins s σ H x y vv ww Q I rx ry h hs;obtain⟨a,v,rfl,g,q⟩:=h;cases rx;have hT:=ziW I g;unfold subscriptTail;refine wpAny_bind ?_;rw[getitemInPython_of_ne hT.not_modules];refine wpAny_bind (wpAny_specialOf hT PySem.F.slot_dict_getitem.lookup ?_);have fin:wpAny (model X.prog X.w) X.A (subscripted slice false (.ref a) ww) (λr s₃=>wpAny (model X.prog X.w) X.A (letTemporaryGo value (.ref a) r >>= λ_=>pure r) (EP X pins σ Q) X.xe s₃) X.xe s:=by
  rw[hs];exact wpAny_operating (ziR (by have:=hr.units;omega) I g ry λw' s3 I3 rw'=>wpAny_bind (wpAny_letTemporaryGo (wpAny_pure ⟨v,H,I3,rw',q⟩)))
 first
  | exact wpAny_pure (wpAny_bind fin)
  | exact wpAny_bind (wpAny_pure (wpAny_bind fin))
  | exact wpAny_bind fin
theorem zN {k:Nat}(hr:zY k X.A):rP X (xU X.K pE):=by
 intro value slice pins s σ H v w vv ww Q I rv rw ⟨A,st,x,y,Q3,rs,ex,ey,h,k⟩ hs;unfold pE at h
 split at h
 ·-- tuples
  cases ex with | val ex=>cases ex with | tup t z r=>
   split at h
   ·cases xN ey
    split at h
    ·rename_i i q z' e
     obtain⟨v',e',r'⟩:=r.atI e;exact zk5 value slice pins s σ H _ _ vv ww Q I rv rw ⟨_,_,_,_,rfl,rfl,t.sq,e',k.now rs (.val r') h⟩ hs
    ·exact h.elim
   ·exact h.elim
 ·cases ex with | val ex=>cases ex with | lst t z r=>
   split at h
   ·cases xN ey
    split at h
    ·rename_i i q z' e
     obtain⟨v',e',r'⟩:=r.atI e;exact zeF value slice pins s σ H _ _ vv ww Q I rv rw ⟨_,_,_,_,rfl,rfl,t.sq,e',k.now rs (.val r') h⟩ hs
    ·exact h.elim
   ·exact h.elim
 ·cases tU ex
  split at h
  ·cases xN ey
   obtain⟨hz,h⟩:=h
   split at h
   ·rename_i i q c e
    exact zk4 value slice pins s σ H _ _ vv ww Q I rv rw ⟨_,_,_,rfl,rfl,hz,e,k.now rs (.val (.str _)) h⟩ hs
   ·exact h.elim
  ·exact h.elim
 ·cases ex with | val ex=>cases ex with | dct t z r=>
   split at h
   ·rename_i kk ek
    split at h
    ·rename_i z' e
     rcases r.val (k:=kk)with⟨x',v',e1,e2,r'⟩ | ⟨e1,e2⟩
     ·rw[e]at e1;cases e1
      exact za_ hr value slice pins s σ H _ _ vv ww Q I rv rw ⟨_,v',rfl,.inl ⟨_,kk,.inl t.1,sI ey ek,e2.symm⟩,k.now rs (.val r') h⟩ hs
     ·rw[e]at e1;cases e1
    ·exact h.elim
   ·exact h.elim
 ·cases ex with
  | val ex=>cases ex
  | obj eo=>
   split at h
   ·rename_i n xs q
    obtain⟨vs,h1,r,hzz⟩:=rs.at_ _ _ _ eo q
    split at h
    ·cases xN ey
     split at h
     ·rename_i i q z' e
      obtain⟨v',e',r'⟩:=r.atI e;exact zeF value slice pins s σ H _ _ vv ww Q I rv rw ⟨_,_,_,_,rfl,rfl,.of h1,e',k.now rs (.val r') h⟩ hs
     ·exact h.elim
    ·exact h.elim
   ·rename_i n kvs q
    obtain⟨us,h1,r,hzz⟩:=rs.at_ _ _ _ eo q
    split at h
    ·rename_i kk ek
     split at h
     ·rename_i z' e
      rcases r.val (k:=kk)with⟨x',v',e1,e2,r'⟩ | ⟨e1,e2⟩
      ·rw[e]at e1;cases e1
       exact za_ hr value slice pins s σ H _ _ vv ww Q I rv rw ⟨_,v',rfl,.inl ⟨_,kk,.inl h1,sI ey ek,e2.symm⟩,k.now rs (.val r') h⟩ hs
      ·rw[e]at e1;cases e1
     ·exact h.elim
    ·exact h.elim
   ·exact h.elim
 ·exact h.elim
def lB:PV->PV->PV->z6->(z6->Prop)->Prop:=λo i v st Q=>match o with
 | .obj n=>(match st[n]? with
  | some (.lst xs)=>(match i with | .int k=>yJ v=true/\(match wJ xs.length k with | some j=>Q (st.set n (.lst (xs.set j v))) | none=>False) | _=>False)
  | some (.dct kvs)=>(match vL i with | some k=>yJ v=true/\kvs.length < sizeLine/\Q (st.set n (.dct (vY kvs k v))) | none=>False)
  | _=>False)
 | _=>False
def ziF (K:Frag):V->V->V->Hp->(Hp->Prop)->Prop:=λo i v H Q=> ∃A st x y z Q3,RS K A H st/\RE K A H x o/\RE K A H y i/\RE K A H z v/\lB x y z st Q3/\∀A' H' st',zZ A H A' H'->RS K A' H' st'->Q3 st'->Q H'
theorem RVs.set {K:Frag}{A:List Addr}{H:Hp}{x:PV}{v:V}(rx:RV K A H x v): ∀{xs:List PV} {vs:List V} (j:Nat),RVs K A H xs vs->RVs K A H (xs.set j x) (vs.set j v)
 | _,_,_,.nil=> .nil
 | _,_,0,.cons _ t=> .cons rx t
 | _,_,j+1,.cons r t=> .cons r (RVs.set rx j t)
theorem znX {k:Nat}(hr:zY k X.A):kL X (ziF X.K):=by
 intro pins s σ H o i v ov iv u Q I ro ri rv ⟨A,st,x,y,z,Q3,rs,ex,ey,ez,h,k⟩;unfold lB at h
 split at h
 ·cases ex with
  | val ex=>cases ex
  | obj eo=>
   have hm:=List.mem_of_getElem? eo
   split at h
   ·rename_i n xs q
    obtain⟨vs,h1,r,hzz⟩:=rs.at_ _ _ _ eo q
    split at h
    ·cases xN ey
     obtain⟨hz,h⟩:=h
     split at h
     ·rename_i kk q2 j e
      rw[r.len]at e;exact zoh pins s σ H _ _ _ ov iv u Q I ro ri rv ⟨_,vs,_,j,rfl,rfl,h1,e,k A _ _ (.put hm) (rs.put (q:= .lst (xs.set j z)) eo ⟨_,x9,RVs.set ((ez.rv hz).grow (.put hm)) j (r.grow (.put hm)),by rw[List.length_set];exact hzz⟩) h⟩
     ·exact h.elim
    ·exact h.elim
   ·rename_i n kvs q
    obtain⟨us,h1,r,hzz⟩:=rs.at_ _ _ _ eo q
    split at h
    ·rename_i kk ek
     obtain⟨hz,hl,h⟩:=h;cases ro;refine zcZ (by have:=hr.units;omega) I (.inl ⟨us,kk,h1,sI ey ek,by rw[<- r.len];exact hl,rfl⟩) ri rv λs' I'=>⟨_,I',k A _ _ (.put hm) (rs.put (q:= .dct (vY kvs kk z)) eo ⟨_,x9,RKs.put ((ez.rv hz).grow (.put hm)) (r.grow (.put hm)),Nat.le_trans (jC us kk v) (by rw[<- r.len];exact hl)⟩) h⟩
    ·exact h.elim
   ·exact h.elim
 ·exact h.elim
def gS (To Ti:zD):w9:=λv env st Q=>To env st λo st1=>Ti env st1 λi st2=>lB o i v st2 λst3=>Q env st3
theorem rA {k:Nat}(hr:zY k X.A)(ho:PE X a (zR X.K Ta))(hi:PE X b (zR X.K Tb))
  (ha: ∀v,assign (.Subscript a b pos) X.env v=(do
   let ov <- holding [v] (eval a X.env)
   let iv <- holding [v,ov] (eval b X.env)
   standAt pos
   holding [v,ov,iv] (setItem ov iv v)
   release [v,ov,iv] []):=by intro _;rfl):PG X (.Subscript a b pos) (vP X.K (gS Ta Tb)):=
 zbd (zbc ho hi (znX hr) ha) λv σ H Q ⟨A,env,st,x,Q3,rel,e,h,k⟩=>⟨A,env,st,_,rel,h,λA1 H1 st1 o v1 g1 s1 e1 h1=>⟨A1,env,st1,_,rel.grow g1 s1,h1,λA2 H2 st2 i v2 g2 s2 e2 h2=>
  ⟨A2,st2,o,i,x,_,s2,e1.grow g2,e2,e.grow (g1.trans g2),h2,λA3 H3 st3 g3 s3 h3=>k A3 H3 σ env st3 ((g1.trans g2).trans g3) (rel.grow ((g1.trans g2).trans g3) s3) h3⟩⟩⟩
theorem yU.one {K:Frag}{A:List Addr}{H:Hp}{x:PV}{vs:List V}(h:yU K A H [x] vs): ∃v,vs= [v]/\RE K A H x v:=by
 cases h with
 | cons r t=>cases t;exact⟨_,rfl,r⟩
theorem yU.two {K:Frag}{A:List Addr}{H:Hp}{x y:PV}{vs:List V}(h:yU K A H [x,y] vs): ∃v w,vs= [v,w]/\RE K A H x v/\RE K A H y w:=by
 cases h with
 | cons r t=>obtain⟨w,rfl,e⟩:=yU.one t;exact⟨_,w,rfl,r,e⟩
def p9:PV->z6->(Nat->Prop)->Prop
 | .tup xs,_,k=>k xs.length
 | .lst xs,_,k=>k xs.length
 | .dct xs,_,k=>False
 | .str z,_,k=>z.length<=sizeLine/\k z.length
 | .obj i,st,k=>match st[i]? with | some (.lst xs)=>k xs.length | some (.dct kvs)=>k kvs.length | _=>False
 | _,_,_=>False
def jS:y4:=λxs st Q=>match xs with | [x]=>p9 x st λn=>Q (.int n) st | _=>False
theorem wD:wF X (.builtin "len") (uX X.K jS):=by
 intro pins s σ H vs us Q I rv ⟨A,st,xs,Q3,rs,ex,h,k⟩;unfold jS at h
 split at h
 ·rename_i x
  obtain⟨v,rfl,ex1⟩:=yU.one ex;have fin: ∀{n:Nat},Q3 (.int n) st->Q (.int n) H:=λq=>k.now rs (.val (.int _)) q;cases ex1 with
  | obj eo=>
   dsimp only[p9]at h
   split at h
   ·rename_i q
    obtain⟨vs,h1,r,hzz⟩:=rs.at_ _ _ _ eo q;exact kS pins s σ H _ us Q I rv ⟨_,_,rfl,.inl ⟨_,.of h1,rfl⟩,by rw[<- r.len];exact fin h⟩
   ·rename_i q
    obtain⟨vs,h1,r,hzz⟩:=rs.at_ _ _ _ eo q;exact ziA pins s σ H _ us Q I rv ⟨_,_,rfl,h1,by rw[<- r.len];exact fin h⟩
   ·exact h.elim
  | val e=>
   cases e with
   | str z=>exact kS pins s σ H _ us Q I rv ⟨_,_,rfl,⟨h.1,rfl⟩,fin h.2⟩
   | tup t z r=>exact kS pins s σ H _ us Q I rv ⟨_,_,rfl,.inr ⟨_,t.sq,rfl⟩,by rw[<- r.len];exact fin h⟩
   | lst t z r=>exact kS pins s σ H _ us Q I rv ⟨_,_,rfl,.inl ⟨_,t.sq,rfl⟩,by rw[<- r.len];exact fin h⟩
   | _=>exact False.elim h
 ·exact h.elim
def lC:y4:=λxs st Q=>match xs with
 | [.lst ys]=>Q (.tup ys) st
 | [.tup ys]=>Q (.tup ys) st
 | [.obj i]=>(match st[i]? with | some (.lst ys)=>Q (.tup ys) st | some (.dct kvs)=>Q (.tup (kvs.map λq=>match q.1 with | .inl i=> .int i | .inr z=> .str z)) st | _=>False)
 | _=>False
theorem zeI {K:Frag}{A:List Addr}{H:Hp} : ∀{kvs:List (z8×PV)} {us:List (z8×V)},RKs K A H kvs us->RVs K A H (kvs.map λq=>match q.1 with | .inl i=> .int i | .inr z=> .str z) (us.map λq=>kV q.1)
 | _,_,.nil=> .nil
 | _,_,.cons (k:=k) r t=>by
  rw[List.map_cons,List.map_cons];refine .cons ?_ (zeI t);cases k with
  | inl i=>exact .int i
  | inr z=>exact .str z
theorem pA (hc:X.calm=true):wF X (.type "tuple") (uX X.K lC):=by
 intro pins s σ H vs us Q I rv ⟨A,st,xs,Q3,rs,ex,h,k⟩;unfold lC at h
 split at h
 ·cases ex with | cons ex et=>cases et;cases ex with | val e=>cases e with | lst t z r=>
   exact gX pins s σ H _ us Q I rv ⟨_,_,rfl,.inl ⟨t.sq,k.tup rs r z h⟩⟩
 ·cases ex with | cons ex et=>cases et;cases ex with | val e=>cases e with | tup t z r=>
   exact gX pins s σ H _ us Q I rv ⟨_,_,rfl,.inr ⟨t.sq,k.now rs (.val (.tup t z r)) h⟩⟩
 ·cases ex with | cons ex et=>cases et;cases ex with
  | val e=>cases e
  | obj eo=>
   split at h
   ·rename_i q
    obtain⟨vs,h1,r,hzz⟩:=rs.at_ _ _ _ eo q;have hz:=hzz;exact gX pins s σ H _ us Q I rv ⟨_,_,rfl,.inl ⟨.of h1,k.tup rs r hz h⟩⟩
   ·rename_i q
    obtain⟨vs,h1,r,hzz⟩:=rs.at_ _ _ _ eo q;have hz:=hzz;exact ziD hc pins s σ H _ us Q I rv ⟨_,_,rfl,h1,k.tup rs (zeI r) (by rw[List.length_map];exact hz) h⟩
   ·exact h.elim
 ·exact h.elim
def wX (xs:List PV)(lo hi:Option Int):List PV:=(xs.drop (HT.sIx xs.length 0 lo)).take (HT.sIx xs.length xs.length hi - HT.sIx xs.length 0 lo)
def pF:PV->Option Int->Option Int->z6->K3->Prop:=λx lo hi st Q=>match x with
 | .tup xs=>Q (.tup (wX xs lo hi)) st
 | .lst xs=>Q (.lst (wX xs lo hi)) st
 | .str z=>z.length<=sizeLine/\((Txt.slice z lo hi).length<=z.length->Q (.str (Txt.slice z lo hi)) st)
 | _=>False
def ziG (K:Frag):V->Option Int->Option Int->Hp->VK->Prop:=λv lo hi H Q=> ∃A st x Q3,RS K A H st/\RE K A H x v/\pF x lo hi st Q3/\w4 K A H Q3 Q
theorem RVs.cut {K:Frag}{A:List Addr}{H:Hp}{xs:List PV}{vs:List V}(r:RVs K A H xs vs)(lo hi:Option Int):RVs K A H (wX xs lo hi) (rR vs lo hi):=by
 unfold wX rR;rw[r.len];exact(r.drop _).take _
theorem zl8:mB X (ziG X.K):=by
 intro pins s σ H v vv vl vu lo hi sl Q I rx hs pl pu ⟨A,st,x,Q3,rs,ex,h,k⟩;unfold pF at h
 split at h
 ·cases ex with | val e=>cases e with | tup t z r=>
   rename_i xs a vs;by_cases hw:HT.sIx vs.length 0 lo=0/\HT.sIx vs.length vs.length hi=vs.length
   ·cases rx
    obtain⟨its,r',ht,hz⟩:=I.tuple t.sq;refine⟨"tuple",_,PyProof.Rows.slot_tuple_getitem.lookup,ht.typeIs,?_⟩;have hl:its.toArray.size=vs.length:=by rw[List.size_toArray,<- r'.length]
    refine zkg ht hs pl pu (by rw[hl];exact hw) ⟨.ref a,H,I,rfl,k.now rs (.val (.tup t z r)) ?_⟩;rw[<- r.len]at hw;have e:wX xs lo hi=xs:=by
     unfold wX;rw[hw.1,hw.2,List.drop_zero,Nat.sub_zero,List.take_of_length_le (Nat.le_refl _)]
    rw[e]at h;exact h
   ·refine zon pins s σ H _ vv vl vu lo hi sl Q I rx hs pl pu ⟨_,_,rfl,t.sq,?_,k.tup rs (r.cut lo hi) (Nat.le_trans (kY _ lo hi) z) h⟩
    exact hw
 ·cases ex with | val e=>cases e with | lst t z r=>
   exact zol pins s σ H _ vv vl vu lo hi sl Q I rx hs pl pu ⟨_,_,rfl,t.sq,k.lst rs (r.cut lo hi) (Nat.le_trans (kY _ lo hi) z) h⟩
 ·cases tU ex
  exact zom pins s σ H _ vv vl vu lo hi sl Q I rx hs pl pu ⟨_,rfl,h.1,λhl=>k.now rs (.val (.str _)) (h.2 hl)⟩
 ·exact h.elim
abbrev sT:=zH->z6->(Option Int->z6->Prop)->Prop
def mK (K:Frag)(T:sT):TO:=λσ H Q=> ∃A env st Q3,xE K A H σ env st/\T env st Q3/\∀A' H' st' i,zZ A H A' H'->RS K A' H' st'->Q3 i st'->Q i H'
def zfa:sT:=λ_ st Q=>Q none st
def zfb (T:zD):sT:=λenv st Q=>T env st λx st1=>match x with | .int i=>Q (some i) st1 | _=>False
theorem zf7 {o:Option Expr}{t t':TO}(h:L2.PO X o t)(w: ∀σ H Q,t' σ H Q->t σ H Q):L2.PO X o t':=⟨λpins s σ H Q I q=>h pins s σ H Q I (w σ H Q q)⟩
theorem t8:L2.PO X none (mK X.K zfa):=zf7 zmT λσ H Q ⟨A,env,st,Q3,rel,h,k⟩=>k A H st none (.refl _ _) rel.rs h
theorem uN (h:PE X e (zR X.K Ta)):L2.PO X (some e) (mK X.K (zfb Ta)):=by
 refine zf7 (zmU h) λσ H Q ⟨A,env,st,Q3,rel,h,k⟩=>⟨A,env,st,_,rel,h,λA1 H1 st1 x v g1 s1 e1 h1=> ?_⟩;cases x with
 | int i=>cases xN e1;exact⟨i,rfl,k A1 H1 st1 _ g1 s1 h1⟩
 | _=>exact False.elim h1
def vSl (T:zD)(Tl Th:sT):zD:=λenv st Q=>T env st λx st1=>Tl env st1 λl st2=>Th env st2 λu st3=>pF x l u st3 Q
theorem t5 {lo hi:Option Expr}{Tl Th:sT}(he:PE X e (zR X.K Ta))(hl:L2.PO X lo (mK X.K Tl))(hu:L2.PO X hi (mK X.K Th)):PE X (.Subscript e (.Slice lo hi none p2) pos) (zR X.K (vSl Ta Tl Th)):=
 xP (zmD zl8 he hl hu) λσ H Q ⟨A,env,st,Q3,rel,h,k⟩=>⟨A,env,st,_,rel,h,λA1 H1 st1 x v g1 s1 e1 h1=>⟨A1,env,st1,_,rel.grow g1 s1,h1,λA2 H2 st2 l g2 s2 h2=>⟨A2,env,st2,_,(rel.grow g1 s1).grow g2 s2,h2,λA3 H3 st3 u g3 s3 h3=>
  ⟨A3,st3,x,Q3,s3,e1.grow (g2.trans g3),h3,k.after (g1.trans (g2.trans g3))⟩⟩⟩⟩
end
end L3
namespace L3
open PySem PySem.Spec PyProof.Rows L2
section
variable {X:Cx} {tg iter a b e:Expr} {es:List Expr} {pos p:Pos} {Ta:zD} {TA:yK}
def zkn (K:Frag)(tl:TE):TI:=λσ H R=>tl σ H λx H1=>(∃a,x= .ref a/\(∃xs,yX K H1 a xs)/\R (kI K a) H1)∨(∃a,x= .ref a/\(∃xs,xM K H1 a xs)/\R (iY K a) H1)∨∃z,x= .str z/\R (kJ z) H1
theorem zmM {tl:TE}(hl:PE X iter tl):PI X tg iter (zkn X.K tl):=by
 refine⟨λpins s σ H R I h=> ?_⟩;refine y0 (hl pins s σ H _ I h) λv s1 ⟨x,H1,I1,r1,q1⟩=> ?_;rcases q1 with⟨a,rfl,⟨xs,hq⟩,q⟩ | ⟨a,rfl,⟨xs,hq⟩,q⟩ | ⟨x,rfl,q⟩
 ·cases r1
  obtain⟨its,rv,p,hz⟩:=I1.list hq;refine wpAny_pyIter_list p.isList ?_;refine⟨s1.heap.objs.size,[s1.heap.objs.size],_,_,H1,rfl,I1.kept (t':=s1.toks) λb o e=>Heap.get?_push_of_some _ e,zoL a _,⟨_,Heap.get?_push_size _ rfl,rfl,rfl⟩,λb hb=> ?_,q⟩;have e:b=s1.heap.objs.size:=by simpa using hb
  subst e;exact I1.fpOk (Nat.le_refl _) (I1.hok.fresh (Nat.le_refl _))
 ·cases r1
  obtain⟨its,rv,p,hz⟩:=I1.tuple hq;refine wpAny_pyIter_tuple (show s1.heap.IsTuple a its.toArray from p) ?_;refine⟨s1.heap.objs.size,[s1.heap.objs.size],_,_,H1,rfl,I1.kept (t':=s1.toks) λb o e=>Heap.get?_push_of_some _ e,zoN a _,⟨_,Heap.get?_push_size _ rfl,rfl,rfl⟩,λb hb=> ?_,q⟩;have e:b=s1.heap.objs.size:=by simpa using hb
  subst e;exact I1.fpOk (Nat.le_refl _) (I1.hok.fresh (Nat.le_refl _))
 ·obtain⟨t,rfl⟩:=r1
  have fin: ∀(n:String) (o:Obj),qQ X.prog X.w X.K tg (kJ x) [s1.heap.objs.size] s1.heap.objs.size (λi h=>h.IsStrIter s1.heap.objs.size n x t i)->(s1.heap.push o).IsStrIter s1.heap.objs.size n x t 0->kK X pins σ tg R (.ref s1.heap.objs.size) {s1 with heap:=s1.heap.push o} :=λn o T st=>
   ⟨s1.heap.objs.size,[s1.heap.objs.size],_,_,H1,rfl,I1.kept (t':=s1.toks) λb u e=>Heap.get?_push_of_some _ e,T,st,λb hb=>by
    have e:b=s1.heap.objs.size:=by simpa using hb
    subst e;exact I1.fpOk (Nat.le_refl _) (I1.hok.fresh (Nat.le_refl _)),q⟩
  cases ha:x.cps.all (· < 128)
  ·exact wpAny_pyIter_wide ha (fin "str_iterator" _ (zgQ _ x t (by decide) (λA hA=>Walks.strWide hA _ x t) λ_ _ _ _ _ st hQ=>wpAny_pyIter_striter_wide st hQ) ⟨_,Heap.get?_push_size _ rfl,rfl,rfl⟩)
  ·exact wpAny_pyIter_ascii ha (fin "str_ascii_iterator" _ (zgQ _ x t (by decide) (λA hA=>Walks.strAscii hA _ x t) λ_ _ _ _ _ st hQ=>wpAny_pyIter_striter_ascii st hQ) ⟨_,Heap.get?_push_size _ rfl,rfl,rfl⟩)
def qF (z:Str):List PV:=z.cps.toList.map λc=> .str ⟨#[c]⟩
theorem zkz {K:Frag}{A:List Addr}{H:Hp}{z:Str}(hz:z.length<=sizeLine):rO K A H none (kJ z) (qF z) where
 go:=λi A' H' st g s _ hi=>by
  unfold qF at hi;have hi':i < z.cps.size:=by simpa using hi
  exact hi'
 yld:=λi x A' H' st v H2 hx g s _ y=>by
  obtain⟨rfl,c,hc,rfl⟩:=y;unfold qF at hx;rw[List.getElem?_map]at hx;have hc':z.cps.toList[i]?=some c:=by simpa using hc
  rw[hc']at hx;cases hx;exact⟨.refl _ _,s,.val (.str _)⟩
 stop:=λA' H' st g s _=>by
  unfold qF;show _=z.cps.size;simp
 small:=by
  unfold qF;rw[List.length_map];have:z.cps.toList.length=z.length:=by simp[Str.length]
  omega
def ze4 (T:zD):uD:=λenv st Q=>T env st λx st1=>match x with
 | .lst xs=>Q none xs st1
 | .tup xs=>Q none xs st1
 | .str z=>z.length<=sizeLine/\Q none (qF z) st1
 | .obj i=>(match st1[i]? with | some (.lst xs)=>Q (some (i,.lst xs)) xs st1 | _=>False)
 | _=>False
theorem wU (h:PE X iter (zR X.K Ta)):PI X tg iter (tJ X.K (ze4 Ta)):=by
 refine jM (zmM h) λσ H R ⟨A,env,st,Q3,rel,h,k⟩=>⟨A,env,st,_,rel,h,λA1 H1 st1 x v g1 s1 e1 h1=> ?_⟩;cases e1 with
 | obj eo=>
  dsimp only at h1
  split at h1
  ·rename_i q
   obtain⟨vs,h2,r,hz⟩:=s1.at_ _ _ _ eo q;exact .inl ⟨_,rfl,⟨_,.of h2⟩,k A1 H1 st1 _ _ _ g1 s1 (zky eo (by rw[r.len];exact hz)) h1⟩
  ·exact h1.elim
 | val e=>
  cases e with
  | tup t z r=>exact .inr (.inl ⟨_,rfl,⟨_,t.sq⟩,k A1 H1 st1 none _ _ g1 s1 (zk0 t z r) h1⟩)
  | lst t z r=>exact .inl ⟨_,rfl,⟨_,t.sq⟩,k A1 H1 st1 none _ _ g1 s1 (zkx t z r) h1⟩
  | str z=>exact .inr (.inr ⟨z,rfl,k A1 H1 st1 none _ _ g1 s1 (zkz h1.1) h1.2⟩)
  | _=>exact False.elim h1
theorem rB (hg:Gl X "range")(hm:X.mg "range" =none)(ha:PA X [a] (vO X.K TA))(hs:starEach [a] X.env= [(false,eval a X.env)]:=by rfl):PI X tg (.Call (.Name "range" p) [a] [] pos) (tJ X.K (ze5 TA)):=by
 refine jM (zmO hg hm ha hs) λσ H R ⟨A,env,st,Q3,rel,h,k⟩=>⟨A,env,st,_,rel,h,λA1 H1 st1 xs vs g1 s1 e1 h1=> ?_⟩
 split at h1
 ·rename_i j
  obtain⟨v,rfl,e⟩:=yU.one e1;cases xN e;have hb:(2000000:Nat)<=sizeLine:=by rw[sizeLine_eq];decide
  exact⟨j,rfl,by omega,by omega,k A1 H1 st1 none _ _ g1 s1 (zeB (by omega)) h1.2⟩
 ·exact h1.elim
theorem znv (hg:Gl X "range")(hm:X.mg "range" =none)(ha:PA X [a,b] (vO X.K TA))(hs:starEach [a,b] X.env= [(false,eval a X.env),(false,eval b X.env)]:=by rfl)(hs2:starEach [b] X.env= [(false,eval b X.env)]:=by rfl):
  PI X tg (.Call (.Name "range" p) [a,b] [] pos) (tJ X.K (ze6 TA)):=by
 refine jM (zmP hg hm ha hs hs2) λσ H R ⟨A,env,st,Q3,rel,h,k⟩=>⟨A,env,st,_,rel,h,λA1 H1 st1 xs vs g1 s1 e1 h1=> ?_⟩
 split at h1
 ·rename_i i j
  obtain⟨v,v',rfl,e,e2⟩:=yU.two e1;cases xN e;cases xN e2;have hb:(2000000:Nat)<=sizeLine:=by rw[sizeLine_eq];decide
  exact⟨i,j,rfl,by omega,k A1 H1 st1 none _ _ g1 s1 (zeB (by omega)) h1.2⟩
 ·exact h1.elim
end
def qJ (N:List Str)(xs:List PV):zH:=xs.map some++List.replicate (N.length - xs.length) none
def xG (m:Nat)(Q:K3):K3:=λr st=>match r with
 | .obj i=>if i < m then Q (.obj i) (st.take m)else(match st[i]? with | some (.lst xs)=>Q (.lst xs) (st.take m) | some (.dct xs)=>Q (.dct xs) (st.take m) | some (.itb xs)=>Q (.itb xs) (st.take m) | _=>False)
 | r=>Q r (st.take m)
section
variable {K:Frag} {A B:List Addr} {H H':Hp}
theorem xE.begin {st:z6}{xs:List PV}{vs:List V}{N:List Str}(s:RS K A H st)(e:yU K A H xs vs):xE K A H (L2.start N vs) (qJ N xs) st:=by
 have hl:xs.length=vs.length:=Paired.length e;refine⟨s,by unfold L2.start qJ;rw[List.length_append,List.length_append,List.length_map,List.length_map,List.length_replicate,List.length_replicate,hl],λi x h=> ?_⟩;unfold qJ at h;by_cases hi:i < xs.length
 ·rw[List.getElem?_append_left (by rw[List.length_map];exact hi),List.getElem?_map]at h
  cases ex:xs[i]? with
  | none=>rw[ex]at h;cases h
  | some y=>
   rw[ex]at h;cases h;have hv:i < vs.length:=by omega
   refine⟨vs[i],?_,zfx e ex (List.getElem?_eq_getElem hv)⟩;unfold L2.start;rw[List.getElem?_append_left (by rw[List.length_map];exact hv),List.getElem?_map,List.getElem?_eq_getElem hv];rfl
 ·rw[List.getElem?_append_right (by rw[List.length_map];omega),List.getElem?_replicate]at h
  split at h <;> cases h
theorem sB.less {A A':List Addr}(h: ∀b,b∈A'->b∈A){a:Addr}{vs:List V}(t:sB K A H a vs):sB K A' H a vs:=t.imp (λt=>⟨t.1,λm=>t.2 (h _ m)⟩) id
theorem sA.less {A A':List Addr}(h: ∀b,b∈A'->b∈A){a:Addr}{vs:List V}(t:sA K A H a vs):sA K A' H a vs:=t.imp (λt=>⟨t.1,λm=>t.2 (h _ m)⟩) id
mutual
theorem RV.less {A A':List Addr}(h: ∀b,b∈A'->b∈A){x:PV}{v:V} :RV K A H x v->RV K A' H x v
 | .non=> .non
 | .bl b=> .bl b
 | .int i=> .int i
 | .str x=> .str x
 | .ty n=> .ty n
 | .tup t z r=> .tup (t.less h) z (RVs.less h r)
 | .lst t z r=> .lst (t.less h) z (RVs.less h r)
 | .dct t z r=> .dct ⟨t.1,λm=>t.2 (h _ m)⟩ z (RKs.less h r)
 | .itb e n=> .itb e λm=>n (h _ m)
 | .clo e=> .clo ⟨⟨e.fn.1,λm=>e.fn.2 (h _ m)⟩,⟨e.cd.1,λm=>e.cd.2 (h _ m)⟩,⟨e.cl.1,λm=>e.cl.2 (h _ m)⟩,⟨e.dt.1,λm=>e.dt.2 (h _ m)⟩⟩
theorem RVs.less {A A':List Addr}(h: ∀b,b∈A'->b∈A){xs:List PV}{vs:List V} :RVs K A H xs vs->RVs K A' H xs vs
 | .nil=> .nil
 | .cons r t=> .cons (RV.less h r) (RVs.less h t)
theorem RKs.less {A A':List Addr}(h: ∀b,b∈A'->b∈A){xs:List (z8×PV)}{vs:List (z8×V)} :RKs K A H xs vs->RKs K A' H xs vs
 | .nil=> .nil
 | .cons r t=> .cons (RV.less h r) (RKs.less h t)
end
def gB (A A':List Addr)(a:Addr):Prop:= ∀(i j:Nat) (p:Addr),A[i]?=some a->j < i->A[j]?=some p->∃i',A'[i']?=some a/\j < i'/\A'[j]?=some p
theorem RR.less {A A':List Addr}(h: ∀b,b∈A'->b∈A){a:Addr}(hp:gB A A' a){x:PV}{v:V}(r:RR K A H a x v):RR K A' H a x v:=by
 cases r with
 | val r=>exact .val (r.less h)
 | obj e l e'=>obtain⟨_,x,y,z⟩:=hp _ _ _ e l e';exact .obj x y z
theorem xQ.less {A A':List Addr}(h: ∀b,b∈A'->b∈A){a:Addr}(hp:gB A A' a){xs:List (z8×PV)}{vs:List (z8×V)} :xQ K A H a xs vs->xQ K A' H a xs vs
 | .nil=> .nil
 | .cons r t=> .cons ⟨r.1,r.2.less h hp⟩ (xQ.less h hp t)
theorem OA.less {A A':List Addr}(h: ∀b,b∈A'->b∈A){a:Addr}{o:PO}(hp:gB A A' a)(x:OA K A H a o):OA K A' H a o:=by
 cases o with
 | lst xs=>obtain⟨vs,e,r,z⟩:=x;exact⟨vs,e,r.less h,z⟩
 | dct xs=>obtain⟨vs,e,r,z⟩:=x;exact⟨vs,e,r.less h,z⟩
 | tbl T pos q=>obtain⟨ea,ps,e,r⟩:=x;exact⟨ea,ps,e,r.imp id λ⟨c',e1,e2,e3⟩=>⟨c',e1,e2,λm=>e3 (h _ m)⟩⟩
 | itb kvs=>exact x
 | rcd xs=>obtain⟨vs,e,r,z⟩:=x;exact⟨vs,e,xQ.less h hp r,z⟩
theorem oV {α:Type}{l:List α}{m:Nat} : ∀b,b∈l.take m->b∈l:=λb h=>List.mem_of_mem_take h
theorem RS.take {st:z6}(s:RS K A H st)(m:Nat):RS K (A.take m) H (st.take m):=by
 refine⟨List.Nodup.sublist (List.take_sublist _ _) s.nd,by rw[List.length_take,List.length_take,s.len],λi a o h1 h2=> ?_⟩;have hi:i < m:=by
  have:=(List.getElem?_eq_some_iff.mp h1).1;rw[List.length_take]at this;omega
 rw[List.getElem?_take_of_lt hi]at h1 h2;refine(s.at_ i a o h1 h2).less oV λi' j p e l e'=> ?_;have hii:i'=i:=(List.getElem?_inj (List.getElem?_eq_some_iff.mp e).1 s.nd).mp (e.trans h1.symm);subst hii;exact⟨i',by rw[List.getElem?_take_of_lt hi];exact e,l,by rw[List.getElem?_take_of_lt (by omega)];exact e'⟩
theorem zZ.take {B':List Addr}(g:zZ A H B' H'){m:Nat}(h:A.length<=m):zZ A H (B'.take m) H':=by
 obtain⟨⟨C,rfl,hC⟩,k,l⟩:=g;refine⟨⟨C.take (m - A.length),?_,λb hb=>hC b (List.mem_of_mem_take hb)⟩,k,l⟩;rw[List.take_append,List.take_of_length_le h]
theorem w4.exit {Q3:K3}{Q:VK}{m:Nat}(k:w4 K A H Q3 Q)(hm:A.length<=m):w4 K A H (xG m Q3) Q:=by
 intro A' H' st' r v g s e q;have g':=g.take hm;have s':=s.take m;cases e with
 | val e=>
  refine k _ H' _ r v g' s' (.val (e.less oV)) ?_;cases r with
  | obj i=>cases e
  | _=>exact q
 | obj eo=>
  rename_i i a;unfold xG at q;dsimp only at q;by_cases hi:i < m
  ·rw[if_pos hi]at q
   exact k _ H' _ _ _ g' s' (.obj (by rw[List.getElem?_take_of_lt hi];exact eo)) q
  ·rw[if_neg hi]at q
   have na:a∉A'.take m:=λhm'=>by
    obtain⟨j,hj,e⟩:=List.getElem_of_mem hm';rw[List.length_take]at hj;have e2:A'[j]?=some a:=by
     rw[<- List.getElem?_take_of_lt (show j < m by omega),List.getElem?_eq_getElem (by rw[List.length_take];omega),e]
    have:=(List.getElem?_inj (List.getElem?_eq_some_iff.mp e2).1 s.nd).mp (e2.trans eo.symm);omega
   split at q
   ·rename_i xs e
    obtain⟨vs,h1,r,z⟩:=s.at_ _ _ _ eo e;exact k _ H' _ _ _ g' s' (.val (.lst (.inl ⟨.inl h1,na⟩) z (r.less oV))) q
   ·rename_i xs e
    obtain⟨vs,h1,r,z⟩:=s.at_ _ _ _ eo e;exact k _ H' _ _ _ g' s' (.val (.dct ⟨h1,na⟩ z (r.less oV))) q
   ·rename_i xs e
    exact k _ H' _ _ _ g' s' (.val (.itb (s.at_ _ _ _ eo e) na)) q
   ·exact q.elim
end
theorem x5 {P:Program}{w:World}{K:Frag}{mg:Str->Option Value}{base:Heap}{x qual:Str}{st:Stmt}{f:Addr}{fd:FuncData}{N ps:List Str}{k:Nat}{S:y4}(keep:Nat)(F:zV K x qual st f fd)(sc:yS N ps (zO st))(len: ∀xs st Q,S xs st Q->xs.length=ps.length)
  (hB: ∃T:yY,(∀(cdv:Value) (A:Around) (outer:List Env) (s:Shared) (H:Hp) (E:XK),zY k (A.deeper (envOfC qual (zO st) s.heap.objs.size f cdv))->xJ (qW zL P w K mg base N qual (zO st) f cdv A outer s H E).nox (yN st) (xO K T))/\
   ∀xs sto Q,S xs sto Q->T {nx:=λ_ s'=>xG (sto.length+keep) Q .non s',rt:=xG (sto.length+keep) Q} (qJ N xs) sto):zJ P w K mg base zL (k+1) f fd ps (zG K S):=by
 obtain⟨T,hT,hb⟩:=hB;refine F.ok sc (λvs H Q E h=> ?_) (λcdv A outer s H vs Q E hr h=>⟨_,hT cdv A outer s H E hr,?_⟩)
 ·obtain⟨A,sto,xs,Q3,rs,ex,hS,_⟩:=h
  rw[<- len xs sto Q3 hS];exact(Paired.length ex).symm
 ·obtain⟨A,sto,xs,Q3,rs,ex,hS,k⟩:=h
  have hm:A.length<=sto.length+keep:=by rw[rs.len];omega
  refine⟨A,qJ N xs,sto,_,xE.begin rs ex,hb xs sto Q3 hS,⟨λA' H' σ' env' st' g r q=> ?_,k.exit hm,λA' H' σ' env' st' g r q=>q.elim,λA' H' σ' env' st' g r q=>q.elim⟩⟩;exact k.exit hm A' H' st' .non .non g r.rs (.val .non) q
end L3
namespace L3
open PySem PySem.Spec PyProof.Rows L2
section
variable {X:Cx} {scope:Scope} {N' own:List Str} {Ti:uD} {Tg:w9} {tt:xF} {te:zD}
theorem zfH {elt target iter:Expr}{ifs:List Expr}{pos spos pos':Pos}{i0:Nat}{x:Str}(S:tG X scope N' own)(hN:X.N.Nodup)(hi0:X.N[i0]?=some x)(hx:tZ X.env.scope x)(hc:X.calm=true)(hi:PI X target iter (tJ X.K Ti))
  (hg: ∀C s H fp pins,PG (xC X scope (N'++own) C s H fp pins) target (vP X.K Tg)) (ht: ∀C s H fp pins,PF (xC X scope (N'++own) C s H fp pins) ifs (xB X.K tt)) (he: ∀C s H fp pins,PE (xC X scope (N'++own) C s H fp pins) elt (zR X.K te))
  (hs: ∀x,foldedSetIterable iter X.env x=pure x:=by intro _;rfl) (hsw:swapsWith (.ListComp elt [⟨target,iter,ifs,0⟩] scope pos) (some (.Name x pos')) spos.line X.env=pure true:=by rfl)
  (hf:X.fn x=true∨X.env.scope.names.lookup x=some .local:=by first | exact .inl rfl | exact .inr rfl | assumption):
  PS X (.Assign [.Name x pos'] (.ListComp elt [⟨target,iter,ifs,0⟩] scope pos) spos) (xO X.K (nN (iH own.length Ti Tg tt te) (gN i0))):=by
 refine sO (zfB hN hi0 hx S hc hi hg ht he hs hsw hf) λD σ H h=> ?_;obtain⟨A,env,st,Q3,rel,h,k⟩:=kU h;exact zcM ⟨A,env,st,Q3,rel,h,λA1 H1 st1 r v g s e q=>kW (k A1 H1 st1 r v g s e q)⟩
theorem znx {elt target iter:Expr}{ifs:List Expr}{pos spos pos':Pos}{i0:Nat}{x:Str}(S:tG X scope N' own)(hN:X.N.Nodup)(hi0:X.N[i0]?=some x)(hx:tZ X.env.scope x)(hc:X.calm=true)(hi:PI X target iter (tJ X.K Ti))
  (hg: ∀C s H fp pins,PG (xC X scope (N'++own) C s H fp pins) target (vP X.K Tg)) (ht: ∀C s H fp pins,PF (xC X scope (N'++own) C s H fp pins) ifs (xB X.K tt)) (he: ∀C s H fp pins,PE (xC X scope (N'++own) C s H fp pins) elt (zR X.K te))
  (hs: ∀x,foldedSetIterable iter X.env x=pure x:=by intro _;rfl) (hsw:swapsWith (.ListComp elt [⟨target,iter,ifs,0⟩] scope pos) (some (.Name x pos')) spos.line X.env=pure true:=by rfl)
  (hf:X.fn x=true∨X.env.scope.names.lookup x=some .local:=by first | exact .inl rfl | exact .inr rfl | assumption):
  PS X (.Assign [.Name x pos'] (.ListComp elt [⟨target,iter,ifs,0⟩] scope pos) spos) (xO X.K (nN (iI own.length Ti Tg tt te) (gN i0))):=by
 refine sO (zfB hN hi0 hx S hc hi hg ht he hs hsw hf) λD σ H h=> ?_;obtain⟨A,env,st,Q3,rel,h,k⟩:=kU h;exact zcN ⟨A,env,st,Q3,rel,h,λA1 H1 st1 r v g s e q=>kW (k A1 H1 st1 r v g s e q)⟩
end
end L3
namespace L3
open PySem PySem.Spec PyProof.Rows L2
def rY (a b c d e:Bool)(n:String):Option Bool:=if n= "int" then some a else if n= "bool" then some b else if n= "str" then some c else if n= "tuple" then some d else if n= "list" then some e else none
def xX:PV->String->Option Bool
 | .bl _,n=>rY true true false false false n
 | .int _,n=>rY true false false false false n
 | .str _,n=>rY false false true false false n
 | .tup _,n=>rY false false false true false n
 | .lst _,n=>rY false false false false true n
 | _,_=>none
theorem mP {a b c d e r:Bool}{n:String}(h:rY a b c d e n=some r):(n= "int" /\r=a)∨(n= "bool" /\r=b)∨(n= "str" /\r=c)∨(n= "tuple" /\r=d)∨(n= "list" /\r=e):=by
 unfold rY at h;by_cases h1:n= "int"
 ·rw[if_pos h1]at h;cases h;exact .inl ⟨h1,rfl⟩
 rw[if_neg h1]at h;by_cases h2:n= "bool"
 ·rw[if_pos h2]at h;cases h;exact .inr (.inl ⟨h2,rfl⟩)
 rw[if_neg h2]at h;by_cases h3:n= "str"
 ·rw[if_pos h3]at h;cases h;exact .inr (.inr (.inl ⟨h3,rfl⟩))
 rw[if_neg h3]at h;by_cases h4:n= "tuple"
 ·rw[if_pos h4]at h;cases h;exact .inr (.inr (.inr (.inl ⟨h4,rfl⟩)))
 rw[if_neg h4]at h;by_cases h5:n= "list"
 ·rw[if_pos h5]at h;cases h;exact .inr (.inr (.inr (.inr ⟨h5,rfl⟩)))
 rw[if_neg h5]at h;cases h
def zbp:y4:=λxs st Q=>match xs with | [x,.ty n]=>(match xX x n with | some b=>Q (.bl b) st | none=>False) | _=>False
section
variable {X:Cx} {pins:List (Addr×Obj)} {σ:St} {H:Hp} {s:Shared} {A:List Addr}
theorem zkv {Q:VK}{x:PV}{n:String}{b:Bool}{vv:Value}(I:z5 X pins σ H s)(kx:Kd s x vv)(h:xX x n=some b)(q:Q (.bl b) H):wpAny (model X.prog X.w) X.A (call (.builtin "isinstance") [vv,.type n]) (EP X pins σ Q) X.xe s:=by
 cases kx with
 | bl=>
  rcases mP h with⟨rfl,rfl⟩ | ⟨rfl,rfl⟩ | ⟨rfl,rfl⟩ | ⟨rfl,rfl⟩ | ⟨rfl,rfl⟩
  ·exact IsiPair.bool_int ⟨.bl true,H,I,rfl,q⟩
  ·exact IsiPair.bool_bool ⟨.bl true,H,I,rfl,q⟩
  ·exact IsiPair.bool_str ⟨.bl false,H,I.tok _,rfl,q⟩
  ·exact IsiPair.bool_tuple ⟨.bl false,H,I.tok _,rfl,q⟩
  ·exact IsiPair.bool_list ⟨.bl false,H,I.tok _,rfl,q⟩
 | int=>
  rcases mP h with⟨rfl,rfl⟩ | ⟨rfl,rfl⟩ | ⟨rfl,rfl⟩ | ⟨rfl,rfl⟩ | ⟨rfl,rfl⟩
  ·exact IsiPair.int_int ⟨.bl true,H,I,rfl,q⟩
  ·exact IsiPair.int_bool ⟨.bl false,H,I.tok _,rfl,q⟩
  ·exact IsiPair.int_str ⟨.bl false,H,I.tok _,rfl,q⟩
  ·exact IsiPair.int_tuple ⟨.bl false,H,I.tok _,rfl,q⟩
  ·exact IsiPair.int_list ⟨.bl false,H,I.tok _,rfl,q⟩
 | str=>
  rcases mP h with⟨rfl,rfl⟩ | ⟨rfl,rfl⟩ | ⟨rfl,rfl⟩ | ⟨rfl,rfl⟩ | ⟨rfl,rfl⟩
  ·exact IsiPair.str_int ⟨.bl false,H,I.tok _,rfl,q⟩
  ·exact IsiPair.str_bool ⟨.bl false,H,I.tok _,rfl,q⟩
  ·exact IsiPair.str_str ⟨.bl true,H,I,rfl,q⟩
  ·exact IsiPair.str_tuple ⟨.bl false,H,I.tok _,rfl,q⟩
  ·exact IsiPair.str_list ⟨.bl false,H,I.tok _,rfl,q⟩
 | tup p=>
  rcases mP h with⟨rfl,rfl⟩ | ⟨rfl,rfl⟩ | ⟨rfl,rfl⟩ | ⟨rfl,rfl⟩ | ⟨rfl,rfl⟩
  ·obtain⟨o,e,c,_⟩:=id p;exact IsiPair.tuple_int e c ⟨.bl false,H,I.tok _,rfl,q⟩
  ·obtain⟨o,e,c,_⟩:=id p;exact IsiPair.tuple_bool e c ⟨.bl false,H,I.tok _,rfl,q⟩
  ·obtain⟨o,e,c,_⟩:=id p;exact IsiPair.tuple_str e c ⟨.bl false,H,I.tok _,rfl,q⟩
  ·obtain⟨o,e,c,_⟩:=id p;exact IsiPair.tuple_tuple e c ⟨.bl true,H,I,rfl,q⟩
  ·obtain⟨o,e,c,_⟩:=id p;exact IsiPair.tuple_list e c ⟨.bl false,H,I.tok _,rfl,q⟩
 | lst p=>
  rcases mP h with⟨rfl,rfl⟩ | ⟨rfl,rfl⟩ | ⟨rfl,rfl⟩ | ⟨rfl,rfl⟩ | ⟨rfl,rfl⟩
  ·obtain⟨o,e,c,_⟩:=id p;exact IsiPair.list_int e c ⟨.bl false,H,I.tok _,rfl,q⟩
  ·obtain⟨o,e,c,_⟩:=id p;exact IsiPair.list_bool e c ⟨.bl false,H,I.tok _,rfl,q⟩
  ·obtain⟨o,e,c,_⟩:=id p;exact IsiPair.list_str e c ⟨.bl false,H,I.tok _,rfl,q⟩
  ·obtain⟨o,e,c,_⟩:=id p;exact IsiPair.list_tuple e c ⟨.bl false,H,I.tok _,rfl,q⟩
  ·obtain⟨o,e,c,_⟩:=id p;exact IsiPair.list_list e c ⟨.bl true,H,I,rfl,q⟩
 | _=>cases h
theorem oY:wF X (.builtin "isinstance") (uX X.K zbp):=by
 intro pins s σ H vs us Q I rv ⟨A,st,xs,Q3,rs,ex,h,k⟩;unfold zbp at h
 split at h
 ·rename_i x n
  obtain⟨v,w,rfl,ex1,ey1⟩:=yU.two ex;have hw:w= .ty n:=by cases ey1 with | val e=>cases e;rfl
  subst hw;obtain⟨u1,u2,rfl,r1,r2⟩:=zpg rv;cases r2
  split at h
  ·rename_i b e
   have hd:z9 x < 1000∨∃ys,x= .tup ys∨x= .lst ys:=by
    cases x with
    | tup ys=>exact .inr ⟨ys,.inl rfl⟩
    | lst ys=>exact .inr ⟨ys,.inr rfl⟩
    | non=>cases e
    | bl b=>exact .inl (by unfold z9;decide)
    | int b=>exact .inl (by unfold z9;decide)
    | str b=>exact .inl (by unfold z9;decide)
    | _=>cases e
   have q:=k.now rs (.val (.bl b)) h;refine zkv I ?_ e q;rcases hd with hd | ⟨ys,rfl | rfl⟩
   ·exact sY I (ex1.rv (mT hd)) r1 hd
   ·cases ex1 with | val e=>cases e with | tup t z r=>cases r1;obtain⟨its,_,p,_⟩:=I.tuple t.sq;exact .tup p
   ·cases ex1 with | val e=>cases e with | lst t z r=>cases r1;obtain⟨its,_,p,_⟩:=I.list t.sq;exact .lst p.isList
  ·exact h.elim
 ·exact h.elim
def jP:y4:=λxs st Q=>match xs with | [.int i]=>Q (.int i) st | [.bl b]=>Q (.int (if b then 1 else 0)) st | _=>False
theorem oX:wF X (.type "int") (uX X.K jP):=by
 intro pins s σ H vs us Q I rv ⟨A,st,xs,Q3,rs,ex,h,k⟩;unfold jP at h
 split at h
 ·obtain⟨v,rfl,ex1⟩:=yU.one ex
  cases xN ex1;exact zcK pins s σ H _ us Q I rv (.inl ⟨_,rfl,k.now rs (.val (.int _)) h⟩)
 ·obtain⟨v,rfl,ex1⟩:=yU.one ex
  cases zcH ex1;exact zcK pins s σ H _ us Q I rv (.inr ⟨_,rfl,k.now rs (.val (.int _)) h⟩)
 ·exact h.elim
def znH:y4:=λxs st Q=>match xs with | [.int i,.int j]=>Q (.int (if j < i then j else i)) st | _=>False
def znG:y4:=λxs st Q=>match xs with | [.int i,.int j]=>Q (.int (if j > i then j else i)) st | _=>False
theorem zfS {K:Frag} : ∀{bs:List Bool} {vs:List V},RVs K A H (bs.map PV.bl) vs->vs=bs.map V.bl
 | [],_,.nil=>rfl
 | b::bs,_,.cons r t=>by cases r;rw[zfS t];rfl
theorem zb5 {K:Frag} : ∀{bs:List Str} {vs:List V},RVs K A H (bs.map PV.str) vs->vs=bs.map V.str
 | [],_,.nil=>rfl
 | b::bs,_,.cons r t=>by cases r;rw[zb5 t];rfl
theorem zg_ {K:Frag} : ∀(bs:List Str),RVs K A H (bs.map PV.str) (bs.map V.str)
 | []=> .nil
 | b::bs=> .cons (.str b) (zg_ bs)
theorem ze8 {K:Frag} : ∀(bs:List Int),RVs K A H (bs.map PV.int) (bs.map V.int)
 | []=> .nil
 | b::bs=> .cons (.int b) (ze8 bs)
def oT:PV->z6->Option (List PV)
 | .lst xs,_=>some xs
 | .obj i,st=>(match st[i]? with | some (.lst xs)=>some xs | _=>none)
 | _,_=>none
theorem zaF {st:z6}{x:PV}{v:V}{xs:List PV}(rs:RS X.K A H st)(ex:RE X.K A H x v)(h:oT x st=some xs): ∃a vs,v= .ref a/\yX X.K H a vs/\RVs X.K A H xs vs/\vs.length<=sizeLine:=by
 cases ex with
 | val e=>
  cases e with
  | lst t z r=>cases h;exact⟨_,_,rfl,t.sq,r,z⟩
  | _=>cases h
 | obj eo=>
  dsimp only[oT]at h
  split at h
  ·rename_i q
   cases h;obtain⟨vs,h1,r,z⟩:=rs.at_ _ _ _ eo q;exact⟨_,_,rfl,.of h1,r,z⟩
  ·cases h
def zfI:y4:=λxs st Q=>match xs with | [x]=> ∃bs:List Bool,oT x st=some (bs.map PV.bl)/\Q (.bl (bs.all id)) st | _=>False
theorem zl0 (hc:X.calm=true):wF X (.builtin "all") (uX X.K zfI):=by
 intro pins s σ H vs us Q I rv ⟨A,st,xs,Q3,rs,ex,h,k⟩;unfold zfI at h
 split at h
 ·obtain⟨v,rfl,ex1⟩:=yU.one ex
  obtain⟨bs,e,h⟩:=h;obtain⟨a,ws,rfl,hs,r,z⟩:=zaF rs ex1 e;cases zfS r;exact zi9 hc pins s σ H _ us Q I rv ⟨a,bs,rfl,hs,k.now rs (.val (.bl _)) h⟩
 ·exact h.elim
def tO:z8->PV
 | .inl i=> .int i
 | .inr z=> .str z
def sH:PV->z6->Option (List PV)
 | .lst xs,_=>some xs
 | .tup xs,_=>some xs
 | .obj i,st=>(match st[i]? with | some (.lst xs)=>some xs | some (.dct kvs)=>some (kvs.map λq=>tO q.1) | _=>none)
 | .dct kvs,_=>some (kvs.map λq=>tO q.1)
 | _,_=>none
def zbr:y4:=λxs st Q=>match xs with | [x]=>(match sH x st with | some ys=>Q (.lst ys) st | none=>False) | _=>False
def znF:y4:=λxs st Q=>match xs with | [x]=>(match sH x st with | some ys=>Q (.obj st.length) (st++ [.lst ys]) | none=>False) | _=>False
theorem zaA {K:Frag} : ∀{kvs:List (z8×PV)} {us:List (z8×V)},RKs K A H kvs us->RVs K A H (kvs.map λq=>tO q.1) (us.map λq=>kV q.1)
 | _,_,.nil=> .nil
 | _,_,.cons (k:=k) r t=>by
  rw[List.map_cons,List.map_cons];refine .cons ?_ (zaA t);cases k with
  | inl i=>exact .int i
  | inr z=>exact .str z
theorem zkH (hc:X.calm=true){vs:List V}{us:List Value}{Q:VK}{st:z6}{x:PV}{ys:List PV}{v:V}(I:z5 X pins σ H s)(rv:zM [v] us)(rs:RS X.K A H st)(ex1:RE X.K A H x v)(e:sH x st=some ys)
  (k: ∀ws,RVs X.K A H ys ws->ws.length<=sizeLine->∀p,H p=none->Q (.ref p) (zQ H p (.lst ws))):wpAny (model X.prog X.w) X.A (call (.type "list") us) (EP X pins σ Q) X.xe s:=by
 cases ex1 with
 | val e1=>
  cases e1 with
  | lst t z r=>cases e;exact gW pins s σ H _ us Q I rv ⟨_,_,rfl,.inl t.sq,k _ r z⟩
  | tup t z r=>cases e;exact gW pins s σ H _ us Q I rv ⟨_,_,rfl,.inr t.sq,k _ r z⟩
  | dct t z r=>cases e;exact zcL hc pins s σ H _ us Q I rv ⟨_,_,rfl,t.1,k _ (zaA r) (by rw[List.length_map];exact z)⟩
  | _=>cases e
 | obj eo=>
  dsimp only[sH]at e
  split at e
  ·rename_i q
   cases e;obtain⟨ws,h1,r,z⟩:=rs.at_ _ _ _ eo q;exact gW pins s σ H _ us Q I rv ⟨_,_,rfl,.inl (.of h1),k _ r z⟩
  ·rename_i q
   cases e;obtain⟨ws,h1,r,z⟩:=rs.at_ _ _ _ eo q;exact zcL hc pins s σ H _ us Q I rv ⟨_,_,rfl,h1,k _ (zaA r) (by rw[List.length_map];exact z)⟩
  ·cases e
theorem zff (hc:X.calm=true):wF X (.type "list") (uX X.K zbr):=by
 intro pins s σ H vs us Q I rv ⟨A,st,xs,Q3,rs,ex,h,k⟩;unfold zbr at h
 split at h
 ·obtain⟨v,rfl,ex1⟩:=yU.one ex
  split at h
  ·rename_i ys e
   exact zkH (vs:= []) hc I rv rs ex1 e λws r z=>k.lst rs r z h
  ·exact h.elim
 ·exact h.elim
def zbz:y4:=λxs st Q=>match xs with | [x]=> ∃ss:List Str,oT x st=some (ss.map PV.str)/\ss.length < 64/\∀ss',ss'.Perm ss->sortedS ss'=true->Q (.lst (ss'.map PV.str)) st | _=>False
theorem zl9:wF X (.builtin "sorted") (uX X.K zbz):=by
 intro pins s σ H vs us Q I rv ⟨A,st,xs,Q3,rs,ex,h,k⟩;unfold zbz at h
 split at h
 ·obtain⟨v,rfl,ex1⟩:=yU.one ex
  obtain⟨ss,e,hl,h⟩:=h;obtain⟨a,ws,rfl,hs,r,z⟩:=zaF rs ex1 e;cases zb5 r;refine ziC pins s σ H _ us Q I rv ⟨a,ss,rfl,hs,hl,λp ss' hp h1 h2=> ?_⟩;exact k.lst rs (zg_ ss') (by rw[List.length_map,h1.length_eq];exact Nat.le_trans (Nat.le_of_lt hl) (by decide)) (h ss' h1 h2) p hp
 ·exact h.elim
def zgV:zD:=λ_ st Q=>Q (.obj st.length) (st++ [.dct []])
theorem zbi {pos:Pos} :PE X (.Dict [] [] pos) (zR X.K zgV):=xP zaZ λσ H Q ⟨A,env,st,Q3,rel,h,k⟩=>k.dctO rel.rs .nil (Nat.zero_le _) h
def jG (kvs more:List (z8×PV)):List (z8×PV):=more.foldl (λacc kv=>vY acc kv.1 kv.2) kvs
theorem RKs.merge {K:Frag} : ∀{b:List (z8×PV)} {d:List (z8×V)} {a:List (z8×PV)} {c:List (z8×V)},RKs K A H a c->RKs K A H b d->RKs K A H (jG a b) (sK c d)
 | _,_,_,_,h,.nil=>h
 | _,_,a,c,h,.cons (k:=k) (x:=x) (v:=v) r t=>RKs.merge (a:=vY a k x) (c:=wL c k v) (RKs.put r h) t
theorem zlb {us:List (z8×V)}{n:Nat}(h:us.length<=n):(sK [] us).length<=n:=by
 have:=zaD us [];simp only[List.length_nil,Nat.zero_add]at this;exact Nat.le_trans this h
end
end L3
namespace L3
open PySem PySem.Spec PyProof.Rows L2
def sG:PV->z6->String
 | .lst _,_=> "list"
 | .dct _,_=> "dict"
 | .str _,_=> "str"
 | .obj i,st=>(match st[i]? with | some (.lst _)=> "list" | some (.dct _)=> "dict" | _=> "")
 | _,_=> ""
def rQ (K:Frag)(R:PV->y4):V->List V->Hp->VK->Prop:=λv vs H Q=> ∃A st x xs Q3,RS K A H st/\RE K A H x v/\yU K A H xs vs/\R x xs st Q3/\w4 K A H Q3 Q
def vBM (T:String)(R:PV->y4)(To:zD)(TA:yK):zD:=λenv st Q=>To env st λx st1=>sG x st1=T/\TA env st1 λxs st2=>R x xs st2 Q
def zgU (T:String)(R:PV->y4)(To:zD):zD:=λenv st Q=>To env st λx st1=>sG x st1=T/\R x [] st1 Q
section
variable {X:Cx} {o e:Expr} {es:List Expr} {apos cpos:Pos} {To:zD} {TA:yK} {T id:String} {name:Str} {R:PV->y4}
theorem zgS {K:Frag}{A:List Addr}{H:Hp}{st:z6}{x:PV}{v:V}(rs:RS K A H st)(ex:RE K A H x v)(h:sG x st=T)(hT:T≠ ""):iF K T v H:=by
 subst h;cases ex with
 | val e=>
  cases e with
  | lst t z r=>exact .inl ⟨rfl,_,t.sq⟩
  | dct t z r=>exact .inr (.inr (.inl ⟨rfl,.inl ⟨_,t.1⟩⟩))
  | str z=>exact rfl
  | _=>exact absurd rfl hT
 | obj eo=>
  dsimp only[sG]at hT⊢
  split
  ·rename_i q
   obtain⟨vs,h1,r,z⟩:=rs.at_ _ _ _ eo q;exact .inl ⟨rfl,_,.of h1⟩
  ·rename_i q
   obtain⟨vs,h1,r,z⟩:=rs.at_ _ _ _ eo q;exact .inr (.inr (.inl ⟨rfl,.inl ⟨_,h1⟩⟩))
  ·exfalso
   split at hT
   ·rename_i n1 n2 _ _ q;exact n1 _ q
   ·rename_i n1 n2 _ _ q;exact n2 _ q
   ·exact hT rfl
theorem wT (pa:PlainAttrs T)(slot:Slot T name id)(hty:typeOf (.builtin id)=pure (.type "method_descriptor"))(hT:T≠ "")(hm:tI X id (rQ X.K R))(ho:PE X o (zR X.K To))(ha:PA X (e::es) (vO X.K TA))
  (hbase:attributeBase o name X.env (eval o X.env)=eval o X.env:=by rfl)
  (hfew:((backTo cpos (starEach (e::es) X.env)).all (λx=> !x.1)&&(backToKw cpos (keywordEach [] X.env)).all (λx=>x.1.isSome)
   &&decide ((e::es).length+([]:List Keyword).length+(if([]:List Keyword).isEmpty then 0 else 1) < 30))=true:=by rfl)
  (hline:(apos.endLine==cpos.line)=true:=by rfl) (hs:starEach (e::es) X.env=(false,eval e X.env)::starEach es X.env:=by rfl) (hplain:(backTo cpos (starEach es X.env)).any (·.1)=false:=by rfl):
  PE X (.Call (.Attribute o name apos) (e::es) [] cpos) (zR X.K (vBM T R To TA)):=
 xP (zmz pa slot hty hm ho ha hbase hfew hline hs hplain) λσ H Q ⟨A,env,st,Q3,rel,h,k⟩=>⟨A,env,st,_,rel,h,λA1 H1 st1 x v g1 s1 e1 h1=>⟨zgS s1 e1 h1.1 hT,A1,env,st1,_,rel.grow g1 s1,h1.2,λA2 H2 st2 xs vs g2 s2 e2 h2=>
  ⟨A2,st2,x,xs,Q3,s2,e1.grow g2,e2,h2,k.after (g1.trans g2)⟩⟩⟩
theorem zfE (pa:PlainAttrs T)(slot:Slot T name id)(hty:typeOf (.builtin id)=pure (.type "method_descriptor"))(hT:T≠ "")(hm:tI X id (rQ X.K R))(ho:PE X o (zR X.K To))
  (hbase:attributeBase o name X.env (eval o X.env)=eval o X.env:=by rfl) (hline:(apos.endLine==cpos.line)=true:=by rfl):PE X (.Call (.Attribute o name apos) [] [] cpos) (zR X.K (zgU T R To)):=
 xP (zm0 pa slot hty hm ho hbase hline) λσ H Q ⟨A,env,st,Q3,rel,h,k⟩=>⟨A,env,st,_,rel,h,λA1 H1 st1 x v g1 s1 e1 h1=>⟨zgS s1 e1 h1.1 hT,A1,st1,x,[],Q3,s1,e1,.nil,h1.2,k.after g1⟩⟩
def jO:PV->y4:=λx xs st Q=>match x,xs with
 | .obj i,[y]=>(match st[i]? with | some (.lst zs)=>yJ y=true/\zs.length < sizeLine/\Q .non (st.set i (.lst (zs++ [y]))) | _=>False)
 | _,_=>False
theorem uC:tI X "list.append" (rQ X.K jO):=by
 intro pins s σ H v vs vv us Q I rv rvs ⟨A,st,x,xs,Q3,rs,ex,exs,h,k⟩;unfold jO at h
 split at h
 ·rename_i i y
  obtain⟨w,rfl,ey⟩:=yU.one exs;cases ex with
  | val e=>cases e
  | obj eo=>
   have hm:=List.mem_of_getElem? eo
   split at h
   ·rename_i zs q
    obtain⟨ws,h1,r,z⟩:=rs.at_ _ _ _ eo q;obtain⟨hn,hl,h⟩:=h;rw[r.len]at hl;refine zlk pins s σ H _ _ vv us Q I rv rvs ⟨_,ws,w,rfl,rfl,h1,hl,k A _ _ _ _ (.put hm) (rs.put (q:= .lst (zs++ [y])) eo ⟨_,x9,(r.grow (.put hm)).append (.cons ((ey.rv hn).grow (.put hm)) .nil),?_⟩) (.val .non) h⟩;rw[List.length_append,List.length_singleton];exact hl
   ·exact h.elim
 ·exact h.elim
def zbn:PV->y4:=λx xs st Q=>match x,xs with
 | .obj i,[.lst ys]=>(match st[i]? with | some (.lst zs)=>zs.length+ys.length<=sizeLine/\Q .non (st.set i (.lst (zs++ys))) | _=>False)
 | _,_=>False
theorem zfc:tI X "list.extend" (rQ X.K zbn):=by
 intro pins s σ H v vs vv us Q I rv rvs ⟨A,st,x,xs,Q3,rs,ex,exs,h,k⟩;unfold zbn at h
 split at h
 ·rename_i i ys
  obtain⟨w,rfl,ey⟩:=yU.one exs;cases ex with
  | val e=>cases e
  | obj eo=>
   have hm:=List.mem_of_getElem? eo
   split at h
   ·rename_i zs q
    obtain⟨ws,hH,r,z⟩:=rs.at_ _ _ _ eo q;obtain⟨hl,h⟩:=h;cases ey with | val ey=>cases ey with | lst t z2 r2=>
     cases rv;obtain⟨u,rfl,ru⟩:=zM.one rvs;cases ru;obtain⟨zz,its,n,rr,hl1,e⟩:=I.lstM hH;obtain⟨its2,n2,rr2,e2,_⟩:=I.listX t.sq;have hl2:=rr2.length;have e3:=r.len;have e4:=r2.len;have hsz:its.toArray.size+its2.toArray.size<=sizeLine:=by rw[List.size_toArray,List.size_toArray];omega
     have hlong: ¬ (!its.toArray.isEmpty&&Builtin.List.listTooLong (its.toArray.size+its2.toArray.size))=true:=by
      rw[zly hsz,Bool.and_false];exact Bool.false_ne_true
     refine call_meets F.slot_list_extend ⟨_,e,rfl⟩ F.entry_list_extend (F.args_list_extend_2 _ _)
      (AutoSeq1.list_extend_list_list_0 _ its.toArray n _ its2.toArray n2 hlong (by rw[List.size_toArray];omega) (by omega)) ⟨e,e2,?_⟩
     refine⟨.non,_,I.lset (its':=its++its2) hH e (by simp) (rr.append rr2) ?_,rfl,k A _ _ _ _ (.put hm) (rs.put (q:= .lst (zs++ys)) eo ⟨_,x9,(r.grow (.put hm)).append (r2.grow (.put hm)),?_⟩) (.val .non) h⟩
     ·rw[List.length_append];omega
     ·rw[List.length_append];omega
   ·exact h.elim
 ·exact h.elim
def zbv:PV->y4:=λx xs st Q=>match x,xs with
 | .obj i,[]=>(match st[i]? with | some (.lst zs)=>(match zs.getLast? with | some y=>Q y (st.set i (.lst zs.dropLast)) | none=>False) | _=>False)
 | _,_=>False
theorem RVs.last {K:Frag}{A:List Addr}{H:Hp}{xs:List PV}{vs:List V}{y:PV}(r:RVs K A H xs vs)(h:xs.getLast?=some y): ∃w,vs[vs.length - 1]?=some w/\RV K A H y w:=by
 rw[List.getLast?_eq_getElem?,r.len]at h;exact r.get h
theorem RVs.front {K:Frag}{A:List Addr}{H:Hp}{xs:List PV}{vs:List V}(r:RVs K A H xs vs):RVs K A H xs.dropLast vs.dropLast:=by
 rw[List.dropLast_eq_take,List.dropLast_eq_take,r.len];exact r.take _
theorem zfg:tI X "list.pop" (rQ X.K zbv):=by
 intro pins s σ H v vs vv us Q I rv rvs ⟨A,st,x,xs,Q3,rs,ex,exs,h,k⟩;unfold zbv at h
 split at h
 ·cases exs
  cases ex with
  | val e=>cases e
  | obj eo=>
   have hm:=List.mem_of_getElem? eo
   split at h
   ·rename_i zs q
    obtain⟨ws,h1,r,z⟩:=rs.at_ _ _ _ eo q
    split at h
    ·rename_i y e
     obtain⟨w,ew,rw'⟩:=r.last e;refine zlm pins s σ H _ _ vv us Q I rv rvs ⟨_,ws,w,rfl,rfl,h1,ew,k A _ _ _ _ (.put hm) (rs.put (q:= .lst zs.dropLast) eo ⟨_,x9,(r.front).grow (.put hm),?_⟩) (.val (rw'.grow (.put hm))) h⟩;rw[List.length_dropLast];omega
    ·exact h.elim
   ·exact h.elim
 ·exact h.elim
def vU:PV->z6->Option (List (z8×PV))
 | .dct kvs,_=>some kvs
 | .obj i,st=>(match st[i]? with | some (.dct kvs)=>some kvs | _=>none)
 | _,_=>none
theorem kZ {K:Frag}{A:List Addr}{H:Hp}{st:z6}{x:PV}{v:V}{kvs:List (z8×PV)}(rs:RS K A H st)(ex:RE K A H x v)(h:vU x st=some kvs): ∃a us,v= .ref a/\H a=some (.dK us)/\RKs K A H kvs us/\us.length<=sizeLine:=by
 cases ex with
 | val e=>
  cases e with
  | dct t z r=>cases h;exact⟨_,_,rfl,t.1,r,z⟩
  | _=>cases h
 | obj eo=>
  dsimp only[vU]at h
  split at h
  ·rename_i q
   cases h;obtain⟨vs,h1,r,z⟩:=rs.at_ _ _ _ eo q;exact⟨_,_,rfl,h1,r,z⟩
  ·cases h
def nF:PV->y4:=λx xs st Q=>match vU x st,xs with
 | some kvs,[y]=>(match vL y with | some k=>Q ((zU kvs k).getD .non) st | none=>False)
 | some kvs,[y,z]=>(match vL y with | some k=>yJ z=true/\Q ((zU kvs k).getD z) st | none=>False)
 | _,_=>False
theorem zl1 {k:Nat}(hr:zY k X.A):tI X "dict.get" (rQ X.K nF):=by
 intro pins s σ H v vs vv us Q I rv rvs ⟨A,st,x,xs,Q3,rs,ex,exs,h,k⟩;have hu:X.A.units+1 < cLine:=by have:=hr.units;omega
 unfold nF at h
 split at h
 ·rename_i kvs y ed
  obtain⟨a,ks,rfl,h1,r,z⟩:=kZ rs ex ed;obtain⟨w,rfl,ey⟩:=yU.one exs;cases rv;obtain⟨u,rfl,ru⟩:=zM.one rvs
  split at h
  ·rename_i kk ek
   have ew:=sI ey ek;refine ziP hu I (.inl ⟨ks,kk,.inl h1,ew,rfl⟩) ru λw' s' I' rw'=> ?_;rcases r.val (k:=kk)with⟨x',v',e1,e2,r'⟩ | ⟨e1,e2⟩
   ·rw[e2]at rw';rw[e1]at h
    exact⟨v',H,I',rw',k.now rs (.val r') h⟩
   ·rw[e2]at rw';rw[e1]at h
    exact⟨.non,H,I',rw',k.now rs (.val .non) h⟩
  ·exact h.elim
 ·rename_i kvs y z0 ed
  obtain⟨a,ks,rfl,h1,r,z⟩:=kZ rs ex ed;obtain⟨w,w2,rfl,ey,ez⟩:=yU.two exs;cases rv;obtain⟨u,u2,rfl,ru,ru2⟩:=zM.two rvs
  split at h
  ·rename_i kk ek
   have ew:=sI ey ek;refine ziQ hu I (.inl ⟨ks,kk,.inl h1,ew,rfl⟩) ru ru2 λw' s' I' rw'=> ?_;rcases r.val (k:=kk)with⟨x',v',e1,e2,r'⟩ | ⟨e1,e2⟩
   ·rw[e2]at rw';rw[e1]at h
    exact⟨v',H,I',rw',k.now rs (.val r') h.2⟩
   ·rw[e2]at rw';rw[e1]at h
    exact⟨_,H,I',rw',k.now rs ez h.2⟩
  ·exact h.elim
 ·exact h.elim
def zbq:PV->y4:=λx xs st Q=>match x,xs with
 | .str sep,[y]=> ∃ss:List Str,oT y st=some (ss.map PV.str)/\(ss.map (·.length)).sum+ss.length * sep.length<=16777216/\Q (.str (Txt.join sep ss)) st
 | _,_=>False
theorem zl3:tI X "str.join" (rQ X.K zbq):=by
 intro pins s σ H v vs vv us Q I rv rvs ⟨A,st,x,xs,Q3,rs,ex,exs,h,k⟩;unfold zbq at h
 split at h
 ·obtain⟨w,rfl,ey⟩:=yU.one exs
  cases tU ex;obtain⟨ss,e,hl,h⟩:=h;obtain⟨a,ws,rfl,hs,r,z⟩:=zaF rs ey e;cases zb5 r;exact zll pins s σ H _ _ vv us Q I rv rvs ⟨_,a,ss,rfl,rfl,hs,hl,k.now rs (.val (.str _)) h⟩
 ·exact h.elim
def wG:PV->Bool
 | .non=>true
 | .bl _=>true
 | .int _=>true
 | .str _=>true
 | _=>false
def wI (x:PV)(ys:List PV):Bool:=ys.any λy=>zW y x
theorem zav {K:Frag}{A:List Addr}{H:Hp}{x:PV}{v:V}(r:RV K A H x v):sF v=wG x:=by
 cases r <;> rfl
theorem zaw {K:Frag}{A:List Addr}{H:Hp} : ∀{xs:List PV} {vs:List V},RVs K A H xs vs->vs.all sF=xs.all wG
 | _,_,.nil=>rfl
 | _,_,.cons r t=>by rw[List.all_cons,List.all_cons,zav r,zaw t]
theorem zji {K:Frag}{A:List Addr}{H:Hp}{x y:PV}{v w:V}(r:RV K A H x v)(r2:RV K A H y w)(f:wG x=true)(f2:wG y=true):sE v w=zW x y:=by
 cases r <;> first | (exact absurd f Bool.false_ne_true) | skip
 all_goals (cases r2 <;> first | (exact absurd f2 Bool.false_ne_true) | skip)
 all_goals (unfold sE zW;rfl)
theorem za4 {K:Frag}{A:List Addr}{H:Hp}{x:PV}{v:V}(r:RV K A H x v)(f:wG x=true): ∀{xs:List PV} {vs:List V},RVs K A H xs vs->xs.all wG=true->rX v vs=wI x xs
 | _,_,.nil,_=>rfl
 | _,_,.cons r1 t,h=>by
  rw[List.all_cons,Bool.and_eq_true]at h;have ih:=za4 r f t h.2;unfold rX wI at ih⊢
  rw[List.any_cons,List.any_cons,ih,zji r1 r h.1 f]
def vE:PV->z6->Option (List PV)
 | .tup xs,_=>some xs
 | .lst xs,_=>some xs
 | .obj i,st=>(match st[i]? with | some (.lst xs)=>some xs | _=>none)
 | _,_=>none
def xY (neg:Bool):R3:=λx y st Q=>match vE y st with
 | some xs=>(wG x=true/\xs.all wG=true)/\Q (.bl (if neg then !wI x xs else wI x xs)) st
 | none=>(match vU y st with
  | some kvs=>(match vL x with | some k=>Q (.bl (if neg then !(zU kvs k).isSome else(zU kvs k).isSome)) st | none=>False)
  | none=>(match x,y with | .str i,.str j=>Q (.bl (if neg then !(!(Builtin.Str.occurrences j i 0 j.length 1).isEmpty)else !(Builtin.Str.occurrences j i 0 j.length 1).isEmpty)) st | _,_=>False))
theorem zgb {K:Frag}{A:List Addr}{H:Hp}{st:z6}{x:PV}{v:V}{xs:List PV}(rs:RS K A H st)(ex:RE K A H x v)(h:vE x st=some xs): ∃a vs,v= .ref a/\(yX K H a vs∨xM K H a vs)/\RVs K A H xs vs:=by
 cases ex with
 | val e=>
  cases e with
  | lst t z r=>cases h;exact⟨_,_,rfl,.inl t.sq,r⟩
  | tup t z r=>cases h;exact⟨_,_,rfl,.inr t.sq,r⟩
  | _=>cases h
 | obj eo=>
  dsimp only[vE]at h
  split at h
  ·rename_i q
   cases h;obtain⟨vs,h1,r,z⟩:=rs.at_ _ _ _ eo q;exact⟨_,_,rfl,.inl (.of h1),r⟩
  ·cases h
theorem zex {x:PV}(h:wG x=true):yJ x=true:=by
 cases x <;> first | rfl | cases h
theorem mU {k:Nat}(hr:zY k X.A):yG X (compareOp .In) (xU X.K (xY false)):=uK λpins s σ H A st x y v w vv ww Q3 Q I rs ex ey rv rw h k=>by
 have hu:X.A.units+1 < cLine:=by have:=hr.units;omega
 unfold xY at h
 split at h
 ·rename_i xs e
  obtain⟨a,ws,rfl,hs,r⟩:=zgb rs ey e;obtain⟨⟨f1,f2⟩,h⟩:=h;have ex':=ex.rv (zex f1);refine zmg pins s σ H _ _ vv ww Q I rv rw ⟨a,ws,rfl,hs,by rw[zav ex'];exact f1,by rw[zaw r];exact f2,?_⟩;have e2:=za4 ex' f1 r f2;have:(if false=true then !rX v ws else rX v ws)=wI x xs:=by rw[if_neg Bool.false_ne_true,e2]
  rw[this];exact k.now rs (.val (.bl _)) h
 ·split at h
  ·rename_i kvs e
   obtain⟨a,us,rfl,h1,r,z⟩:=kZ rs ey e
   split at h
   ·rename_i kk ek
    cases rw;refine ziS hu I (.inl ⟨us,kk,.inl h1,sI ex ek,rfl⟩) rv λs' I'=>⟨.bl _,H,I',rfl,?_⟩;rcases r.val (k:=kk)with⟨x',v',e1,e2,r'⟩ | ⟨e1,e2⟩
    ·rw[e2];rw[e1]at h;exact k.now rs (.val (.bl _)) h
    ·rw[e2];rw[e1]at h;exact k.now rs (.val (.bl _)) h
   ·exact h.elim
  ·split at h
   ·cases tU ex;cases tU ey
    exact zmh pins s σ H _ _ vv ww Q I rv rw ⟨_,_,rfl,rfl,k.now rs (.val (.bl _)) h⟩
   ·exact h.elim
theorem zaP {k:Nat}(hr:zY k X.A):yG X (compareOp .NotIn) (xU X.K (xY true)):=uK λpins s σ H A st x y v w vv ww Q3 Q I rs ex ey rv rw h k=>by
 have hu:X.A.units+1 < cLine:=by have:=hr.units;omega
 unfold xY at h
 split at h
 ·rename_i xs e
  obtain⟨a,ws,rfl,hs,r⟩:=zgb rs ey e;obtain⟨⟨f1,f2⟩,h⟩:=h;have ex':=ex.rv (zex f1);refine zmm pins s σ H _ _ vv ww Q I rv rw ⟨a,ws,rfl,hs,by rw[zav ex'];exact f1,by rw[zaw r];exact f2,?_⟩;have e2:=za4 ex' f1 r f2;have:(if true=true then !rX v ws else rX v ws)= !wI x xs:=by rw[if_pos rfl,e2]
  rw[this];exact k.now rs (.val (.bl _)) h
 ·split at h
  ·rename_i kvs e
   obtain⟨a,us,rfl,h1,r,z⟩:=kZ rs ey e
   split at h
   ·rename_i kk ek
    cases rw;refine ziU hu I (.inl ⟨us,kk,.inl h1,sI ex ek,rfl⟩) rv λs' I'=>⟨.bl _,H,I',rfl,?_⟩;rcases r.val (k:=kk)with⟨x',v',e1,e2,r'⟩ | ⟨e1,e2⟩
    ·rw[e2];rw[e1]at h;exact k.now rs (.val (.bl _)) h
    ·rw[e2];rw[e1]at h;exact k.now rs (.val (.bl _)) h
   ·exact h.elim
  ·split at h
   ·cases tU ex;cases tU ey
    exact zmn pins s σ H _ _ vv ww Q I rv rw ⟨_,_,rfl,rfl,k.now rs (.val (.bl _)) h⟩
   ·exact h.elim
end
end L3
namespace L3
open PySem PySem.Spec PyProof.Rows L2
section
variable {X:Cx} {o:Expr} {To:zD} {p ap cp pos:Pos}
end
end L3
namespace L3
open PySem PySem.Spec PyProof.Rows L2
theorem at0 {α:Type}{x:α}{xs:List α} :atI (x::xs) 0=some x:=vT (j:=0) rfl
theorem at1 {α:Type}{x y:α}{xs:List α} :atI (x::y::xs) 1=some y:=vT (j:=1) rfl
theorem at2 {α:Type}{x y z:α}{xs:List α} :atI (x::y::z::xs) 2=some z:=vT (j:=2) rfl
theorem at3 {α:Type}{x y z u:α}{xs:List α} :atI (x::y::z::u::xs) 3=some u:=vT (j:=3) rfl
theorem at4 {α:Type}{x y z u v:α}{xs:List α} :atI (x::y::z::u::v::xs) 4=some v:=vT (j:=4) rfl
theorem ix0 {n:Nat} :wJ (n+1) 0=some 0:=by unfold wJ;rw[if_pos (by decide),if_pos (by omega)];rfl
theorem ix1 {n:Nat} :wJ (n+2) 1=some 1:=by unfold wJ;rw[if_pos (by decide),if_pos (by omega)];rfl
theorem zgL {α:Type}{st:List α} :st.take (st.length+0)=st:=by simp
theorem iD {α:Type}{st:List α}{i:Nat}{x:α} :(st.set i x).take (st.length+0)=st.set i x:=by rw[Nat.add_zero,List.take_of_length_le (by simp)]
theorem set_set {α:Type}{st:List α}{i:Nat}{x y:α} :(st.set i x).set i y=st.set i y:=by simp
theorem tM {α:Type}{st:List α}{i:Nat}{x y:α}(h:st[i]?=some y):(st.set i x)[i]?=some x:=List.getElem?_set_self (List.getElem?_eq_some_iff.mp h).1
end L3
namespace L3
open PySem PySem.Spec PyProof.Rows L2
def sU (l:List (Str×Int)):PV:= .tup (l.map λq=> .tup [.str q.1,.int q.2])
theorem zkh {α:Type}{st:List α}{i:Nat}{x:α}(h:(st[i]?).isSome=true):(st.set i x)[i]?=some x:=by
 obtain⟨y,e⟩:=Option.isSome_iff_exists.mp h;exact tM e
theorem zjm {Q:K3}{st:z6}{x:PO} :xG (st.length+1) Q (.obj st.length) (st++ [x])=Q (.obj st.length) (st++ [x]):=by
 show(if st.length < st.length+1 then _ else _)=_;rw[if_pos (Nat.lt_succ_self _),List.take_of_length_le (by simp)]
theorem j4 {Q:K3}{st:z6}{xs:List PV} :xG (st.length+0) Q (.obj st.length) (st++ [.lst xs])=Q (.lst xs) st:=by
 show(if st.length < st.length+0 then _ else _)=_;rw[if_neg (by omega)];have:(st++ [PO.lst xs])[st.length]?=some (.lst xs):=by simp
 rw[this];simp
theorem zdr {Q:K3}{st:z6}{xs:List (z8×PV)} :xG (st.length+0) Q (.obj st.length) (st++ [.dct xs])=Q (.dct xs) st:=by
 show(if st.length < st.length+0 then _ else _)=_;rw[if_neg (by omega)];have:(st++ [PO.dct xs])[st.length]?=some (.dct xs):=by simp
 rw[this];simp
theorem oJ {α:Type}(f:α->PV){ns:List α}{k:Int}(h0:0<=k)(h1:k < ns.length): ∃z∈ns,atI (ns.map f) k=some (f z):=by
 obtain⟨y,hy,e⟩:=zij (ns.map f) h0 (by simpa using h1);obtain⟨z,hz,rfl⟩:=List.mem_map.mp hy;exact⟨z,hz,e⟩
theorem uY {α:Type}{st:List α}{x:α} :(st++ [x])[st.length]?=some x:=by simp
theorem nK {α:Type}{st:List α}{x y:α} :(st++ [x]).set st.length y=st++ [y]:=by simp
theorem zbM {α:Type}{st:List α}{x:α} :(st++ [x]).take (st.length+0)=st:=by simp
theorem zoF {α:Type}{st:List α}{x:α} :(st++ [x]).take (st.length+1)=st++ [x]:=by rw[List.take_of_length_le (by simp)]
end L3
namespace L3
open PySem PySem.Spec PyProof.Rows L2
theorem oR {α:Type}{e:List α}(h:e.length=1): ∃a,e= [a]:=List.length_eq_one_iff.mp h
def CP (f:PV->Option PV)(own:Nat)(xs:List PV)(env:zH)(st:z6)(i:Nat)(ys:List PV)(env':zH)(st':z6):Prop:=ys=(xs.take i).filterMap f/\st'=st/\∃e',e'.length=own/\env'=env++e'
theorem lT {α:Type}{xs:List α}{i:Nat}{x:α}(h:xs[i]?=some x):xs.take (i+1)=xs.take i++ [x]:=by rw[List.take_succ,h];rfl
theorem CP.yes {f:PV->Option PV}{own:Nat}{xs:List PV}{env:zH}{st:z6}{i:Nat}{x y:PV}{e':zH}(h:xs[i]?=some x)(hf:f x=some y)(he:e'.length=own):CP f own xs env st (i+1) ((xs.take i).filterMap f++ [y]) (env++e') st:=by
 refine⟨?_,rfl,e',he,rfl⟩;rw[lT h,List.filterMap_append,List.filterMap_cons,hf];rfl
theorem CP.no {f:PV->Option PV}{own:Nat}{xs:List PV}{env:zH}{st:z6}{i:Nat}{x:PV}{e':zH}(h:xs[i]?=some x)(hf:f x=none)(he:e'.length=own):CP f own xs env st (i+1) ((xs.take i).filterMap f) (env++e') st:=by
 refine⟨?_,rfl,e',he,rfl⟩;rw[lT h,List.filterMap_append,List.filterMap_cons,hf];simp
theorem qV {own:Nat}{g:w9}{tt:xF}{el:zD}{xs:List PV}{Q:List PV->z6->Prop}{env:zH}{st:z6}(f:PV->Option PV)
  (hs: ∀i x e,xs[i]?=some x->e.length=own->g x (env++e) st λe1 s1=>tt e1 s1 λb s2=>if b=true then el e1 s2 λy s3=>yJ y=true/\CP f own xs env st (i+1) ((xs.take i).filterMap f++ [y]) e1 s3 else CP f own xs env st (i+1) ((xs.take i).filterMap f) e1 s2)
  (hd:Q (xs.filterMap f) st):oF own g tt el none xs Q env st:=by
 refine⟨CP f own xs env st,⟨by simp,rfl,_,by simp,rfl⟩,?_,?_⟩
 ·rintro i x ys env' st' hx ⟨rfl,rfl,e',he,rfl⟩
  exact hs i x e' hx he
 ·rintro ys env' st' ⟨rfl,rfl,e',he,rfl⟩
  show Q _ _;rw[List.take_of_length_le (Nat.le_refl _)];exact hd
theorem wH {g:w9}{b:yY}{src:w5}{xs:List PV}{D:xS}{env:zH}{st:z6}(P:Nat->zH->z6->Prop)(h0:P 0 env st)
  (hs: ∀i x env st,xs[i]?=some x->P i env st->tF src st (g x env st λe s=>b {D with nx:=P (i+1),ct:=P (i+1),bk:=D.nx} e s)) (hd: ∀env st,P xs.length env st->tF src st (D.nx env st)):iP g b src xs D env st:=⟨P,h0,hs,hd⟩
theorem wC {α:Type}{f:α->PV}{l:List α}{i:Nat}{x:PV}(h:(l.map f)[i]?=some x): ∃y,l[i]?=some y/\x=f y:=by
 rw[List.getElem?_map]at h;cases e:l[i]? with
 | none=>rw[e]at h;cases h
 | some y=>rw[e]at h;exact⟨y,rfl,(Option.some.inj h).symm⟩
theorem j3 {x:PV}{Q:K3}{st:z6}(h:yJ x=true)(q:Q x st):xG (st.length+0) Q x st:=by
 cases x with
 | obj i=>cases h
 | _=>show Q _ (st.take (st.length+0));rw[zgL];exact q
theorem zjl {x:PV}{Q:K3}{st:z6}{i:Nat}{o:PO}(h:yJ x=true)(q:Q x (st.set i o)):xG (st.length+0) Q x (st.set i o):=by
 cases x with
 | obj i=>cases h
 | _=>show Q _ ((st.set i o).take (st.length+0));rw[iD];exact q
theorem zdg {α:Type}{f:α->PV}{n:Nat}(h: ∀x,z9 (f x)<=n): ∀(l:List α),dpts (l.map f)<=n
 | []=>by rw[List.map_nil];unfold dpts;exact Nat.zero_le _
 | x::l=>by
  rw[List.map_cons];unfold dpts;exact Nat.max_le.mpr ⟨h x,zdg h l⟩
theorem zdc (l:List (Str×Int)):z9 (sU l)<=2:=by
 unfold sU z9;exact Nat.succ_le_succ (zdg (λq=>by simp[z9,dpts]) l)
end L3
namespace L3
open PySem PySem.Spec PyProof.Rows L2
theorem zb_ {α:Type}{st:List α}{i:Nat}{x o:α}(h:i < st.length):(st++ [o]).set i x=st.set i x++ [o]:=by rw[List.set_append_left _ _ h]
theorem za1 {α:Type}{st:List α}{i:Nat}{x o:α}(h:st[i]?=some x):(st++ [o])[i]?=some x:=by rw[List.getElem?_append_left (List.getElem?_eq_some_iff.mp h).1];exact h
end L3
namespace L3
open PySem PySem.Spec PyProof.Rows L2
theorem tS {t u:yY}{D:xS}{env:zH}{st:z6}(P:zH->z6->Prop)(h1: ∀N:zH->z6->Prop,(∀e s,P e s->N e s)->t {D with nx:=N} env st)(h2: ∀e s,P e s->u D e s):u8 t u D env st:=h1 (u D) h2
theorem rV:(∀{i j:Int},zW (.int i) (.int j)=(i==j))/\(∀{a b:Str},zW (.str a) (.str b)=(a==b))/\(∀{a b:Bool},zW (.bl a) (.bl b)=(a==b))/\(zW .non .non=true)/\(∀{a b:List PV},zW (.tup a) (.tup b)=eqPs a b)/\(∀{a b:List PV},zW (.lst a) (.lst b)=eqPs a b)/\(∀{i:Int},zW (.int i) .non=false)/\(∀{i:Str},zW (.str i) .non=false)/\(∀{i:List PV},zW (.tup i) .non=false)/\(∀{i:Int},zW .non (.int i)=false)/\(∀{i:Str},zW .non (.str i)=false)/\(∀{i:List PV},zW .non (.tup i)=false)/\(∀{a:List PV} {b:Str},zW (.tup a) (.str b)=false)/\(∀{a:List PV} {b:Str},zW (.str b) (.tup a)=false)/\(eqPs [] []=true)/\(∀{x xs},eqPs (x::xs) []=false)/\(∀{x xs},eqPs [] (x::xs)=false)/\(∀{x xs y ys},eqPs (x::xs) (y::ys)=(zW x y&&eqPs xs ys)):=by
 refine⟨?_,?_,?_,?_,?_,?_,?_,?_,?_,?_,?_,?_,?_,?_,?_,?_,?_,?_⟩ <;> intros <;> first | rfl | (unfold zW;rfl) | (unfold eqPs;rfl)
theorem zdd:(z9 .non=0)/\(∀{i},z9 (.int i)=0)/\(∀{i},z9 (.str i)=0)/\(∀{i},z9 (.bl i)=0)/\(∀{i},z9 (.tup i)=dpts i+1)/\(∀{i},z9 (.lst i)=dpts i+1)/\(dpts []=0)/\(∀{x xs},dpts (x::xs)=max (z9 x) (dpts xs)):=by
 refine⟨?_,?_,?_,?_,?_,?_,?_,?_⟩ <;> intros <;> first | rfl | (unfold z9;rfl) | (unfold dpts;rfl)
theorem zde (l:List (Str×Int)):z9 (sU l)<=50:=Nat.le_trans (zdc l) (by decide)
theorem zdf (l:List (Str×Int)):z9 (sU l) < 1000:=Nat.lt_of_le_of_lt (zdc l) (by decide)
end L3
namespace L3
open PySem PySem.Spec PyProof.Rows L2
def zoZ:yY:=λ_ _ _=>False
section
variable {X:Cx}
theorem zi5 (n:Nat):sliceBounds none none (some (-1)) n=((n:Int) - 1,-1,-1):=by
 simp[sliceBounds]
theorem znO (n:Nat):sliceRange ((n:Int) - 1) (-1) (-1)=(List.range n).map λk=>n - 1 - k:=by
 unfold sliceRange;have e:(if(-1:Int) > 0 then(if(n:Int) - 1 < -1 then((-1:Int) - ((n:Int) - 1)+ -1 - 1) / -1 else 0)else(if(n:Int) - 1 > -1 then((n:Int) - 1 - -1 - -1 - 1) / (- -1)else 0)).toNat=n:=by
  rw[if_neg (by decide),show(- -1:Int)=1 by decide,Int.ediv_one]
  split <;> omega
 show(List.range ((if(-1:Int) > 0 then(if(n:Int) - 1 < -1 then((-1:Int) - ((n:Int) - 1)+ -1 - 1) / -1 else 0)else(if(n:Int) - 1 > -1 then((n:Int) - 1 - -1 - -1 - 1) / (- -1)else 0)).toNat)).map _=_;rw[e];refine List.map_congr_left λk hk=> ?_;have:=List.mem_range.mp hk;omega
theorem zmR (its:List Value):slicePick its.toArray none none (some (-1))=its.reverse.toArray:=by
 unfold slicePick;rw[zi5];dsimp only;rw[znO]
 congr 1
 have gen: ∀(l:List Value) (n:Nat),n<=l.length->((List.range n).map λk=>n - 1 - k).filterMap (λi=>l.toArray[i]?)=(l.take n).reverse:=by
  intro l n
  induction n with
  | zero=>intro _;simp
  | succ n ih=>
   intro h;rw[List.range_succ_eq_map,List.map_cons,List.map_map,List.filterMap_cons];have h1:l.toArray[n+1 - 1 - 0]?=some l[n]:=by simp
   rw[h1];have e:((λk=>n+1 - 1 - k) ∘ Nat.succ)=λk=>n - 1 - k:=by funext k;show n+1 - 1 - (k+1)=n - 1 - k;omega
   rw[e,ih (by omega),lT (x:=l[n]) (by simp),List.reverse_append];rfl
 have:=gen its its.toArray.size (by simp);rw[this,List.take_of_length_le (by simp)]
def zoA (K:Frag)(te:TE)(tl:TO):TE:=λσ H Q=>te σ H λx H1=>tl σ H1 λl H2=>l=some (-1)/\∃a xs,x= .ref a/\yX K H2 a xs/\∀p,H2 p=none->Q (.ref p) (zQ H2 p (.lst xs.reverse))
theorem zmC {e se:Expr}{te:TE}{tl:TO}{p2 pos:Pos}(he:PE X e te)(hl:L2.PO X (some se) tl):PE X (.Subscript e (.Slice none none (some se) p2) pos) (zoA X.K te tl):=by
 refine⟨λpins s σ H Q I h=> ?_⟩;refine Subscript_ (y0 (he pins s σ H _ I h) λv s1 ⟨x,H1,I1,r1,q1⟩=> ?_);refine wpAny_Slice ?_;rw[evalPart_none];refine wpAny_pure (wpAny_pure ?_);refine y0 (hl pins s1 σ H1 _ I1 q1) λvu s3 ⟨u,H3,I3,pu,hu,a,xs,ex,hx,q⟩=> ?_;subst hu ex;cases r1;have I4:z5 X pins σ H3 {s3 with heap:=s3.heap.push {cls:= .type "slice",data:= .fields #[.none,.none,vu]}} :=I3.kept (t':=s3.toks) λb ob q=>Heap.get?_push_of_some _ q;obtain⟨its,r,ht,hz⟩:=I4.list hx;have hlen:=r.length;show wpAny (model X.prog X.w) X.A (subscriptTail e (.Slice none none (some se) p2) (.ref a) (.ref s3.heap.objs.size)) (EP X pins σ Q) X.xe {s3 with heap:=s3.heap.push {cls:= .type "slice",data:= .fields #[.none,.none,vu]}};refine tail_any (ops:= [.ref a,.ref s3.heap.objs.size]) ht.isList.typeIs slot_list_getitem.lookup ?_ (by with_unfolding_all rfl);refine wpAny_getItem_list_slice ht.isList (Heap.IsSliceOf.new ..) .none .none pu (by simp) ?_ (by rw[List.size_toArray] <;> omega);rw[zmR];refine⟨.ref _,_,I4.laid (t':=s3.toks) (o:= .lst xs.reverse) (λb ob q=>Heap.get?_push_of_some _ q) (Nat.le_refl _) ?_,rfl,q _ (I4.hok.fresh (Nat.le_refl _))⟩;exact⟨by rw[List.length_reverse];exact hz,its.reverse,0,r.reverse,Heap.get?_push_size _ rfl⟩
def zhh (T:zD)(Tl:sT):zD:=λenv st Q=>T env st λx st1=>Tl env st1 λl st2=>l=some (-1)/\(match x with | .lst xs=>Q (.lst xs.reverse) st2 | _=>False)
theorem zns {e se:Expr}{Ta:zD}{Tl:sT}{p2 pos:Pos}(he:PE X e (zR X.K Ta))(hl:L2.PO X (some se) (mK X.K Tl)):PE X (.Subscript e (.Slice none none (some se) p2) pos) (zR X.K (zhh Ta Tl)):=by
 refine xP (zmC he hl) λσ H Q ⟨A,env,st,Q3,rel,h,k⟩=>⟨A,env,st,_,rel,h,λA1 H1 st1 x v g1 s1 e1 h1=>⟨A1,env,st1,_,rel.grow g1 s1,h1,λA2 H2 st2 l g2 s2 h2=>⟨h2.1,?_⟩⟩⟩;have h3:=h2.2
 split at h3
 ·cases e1.grow g2 with | val e=>cases e with | lst t z r=>
   exact⟨_,_,rfl,t.sq,(k.after (g1.trans g2)).lst s2 r.reverse (by rw[List.length_reverse];exact z) h3⟩
 ·exact h3.elim
end
end L3
namespace L3
open PySem PySem.Spec PyProof.Rows L2
theorem zcY (xs:List PV)(a:Nat):wX xs (some (a:Int)) none=xs.drop a:=by
 unfold wX;rw[HT.sIx_nat,HT.sIx_none];rcases Nat.le_total a xs.length with h | h
 ·rw[Nat.min_eq_left h,List.take_of_length_le (by rw[List.length_drop];exact Nat.le_refl _)]
 ·rw[Nat.min_eq_right h,List.drop_of_length_le (Nat.le_refl _),List.drop_of_length_le h];simp
theorem mM (xs:List PV)(b:Nat):wX xs none (some (b:Int))=xs.take b:=by
 unfold wX;rw[HT.sIx_nat,HT.sIx_none,List.drop_zero,Nat.sub_zero];rcases Nat.le_total b xs.length with h | h
 ·rw[Nat.min_eq_left h]
 ·rw[Nat.min_eq_right h,List.take_of_length_le (Nat.le_refl _),List.take_of_length_le h]
end L3
namespace L3
open PySem PySem.Spec PyProof.Rows L2
section
variable {α:Type} [DecidableEq α]
end
section
variable {α:Type} [DecidableEq α]
def both (w:List α)(a b:Nat)(u:List α)(c d:Nat)(v:List α):List α:=w.take a++u++(w.take c).drop b++v++w.drop d
end
section
variable {X:Cx}
theorem znR {vs:List V}{its:List Value}{acc:Array Value}(r:zM vs its)(h:ItemsOf (λi v=>its.toArray[its.toArray.size - 1 - i]?=some v) acc its.toArray.size):zM vs.reverse acc.toList:=by
 have hl:=r.length;have h1:acc.size=its.length:=by simpa using h.1
 have h2:acc.toList.length=acc.size:=Array.length_toList;refine nP (by rw[List.length_reverse];omega) λj v x hv hx=> ?_;have hj:j < acc.size:=by have:=(List.getElem?_eq_some_iff.mp hv).1;simpa using this
 have q:=h.2 j v (by simpa using hv);have hj2:j < vs.length:=by omega
 rw[List.getElem?_reverse hj2]at hx;have hk:vs.length - 1 - j < vs.length:=by omega
 obtain⟨u,hu,ru⟩:=r.get (i:=vs.length - 1 - j) (x:=x) hx;rw[List.size_toArray,<- hl]at q;have q2:its[vs.length - 1 - j]?=some v:=by simpa using q
 rw[q2]at hu;cases hu;exact ru
def zpe (T:zD):zD:=λenv st Q=>T env st λx st1=>match x with | .tup xs=>Q (.tup xs.reverse) st1 | _=>False
end
end L3
namespace L3
open PySem PySem.Spec PyProof.Rows L2
section
variable {X:Cx} {a b c:Expr} {pos:Pos} {Tx:yK}
def zpb (i j l:Nat)(T:yK):yY:=λD env st=>T env st λxs st1=>match xs with | [x,y,z]=>D.nx (((env.set l (some z)).set j (some y)).set i (some x)) st1 | _=>False
end
end L3
namespace L3
open PySem PySem.Spec PyProof.Rows L2
section
variable {X:Cx}
end
end L3
namespace L3
set_option smartUnfolding false
open PySem PySem.Spec PyProof.Rows L2
def xR {α:Type}(o:Option α)(F:α->Prop):Prop:=match o with | some x=>F x | none=>False
section
variable {i j:Int} {a b:Str} {xs ys zs:List PV} {x y z:PV} {n m:Nat} {st:z6} {Q:K3} {p q:Bool} {kvs:List (z8×PV)} {env:zH}
@[simp] theorem zp7:nE (.int i) (.int j) st Q=Q (.int (i+j)) st:=rfl
@[simp] theorem zp9:nE (.str a) (.str b) st Q=(a.length+b.length<=sizeLine/\Q (.str (a++b)) st):=rfl
@[simp] theorem zp_:nE (.tup xs) (.tup ys) st Q=(xs.length+ys.length<=sizeLine/\Q (.tup (xs++ys)) st):=rfl
@[simp] theorem zp8:nE (.lst xs) (.lst ys) st Q=(xs.length+ys.length<=sizeLine/\Q (.lst (xs++ys)) st):=rfl
@[simp] theorem zr_:zb0 (.int i) (.int j) st Q=Q (.int (i - j)) st:=rfl
@[simp] theorem zqR:jT (.int i) (.int j) st Q=(((-(2 ^ 64) < i/\i < 2 ^ 64)∨(-(2 ^ 64) < j/\j < 2 ^ 64))/\Q (.int (i * j)) st):=rfl
@[simp] theorem zqS:jT (.str a) (.int i) st Q=(if i=0 then Q (.str Str.empty) st else i=1/\Q (.str a) st):=rfl
@[simp] theorem zqQ:zbs (.int i) (.int j) st Q=(0 < j/\Q (.int (i % j)) st):=rfl
@[simp] theorem zpO:zbk (.int i) (.int j) st Q=((0 < j/\j < 1099511627776)/\Q (.int (i / j)) st):=rfl
@[simp] theorem zrv:zbx (.int i) (.int j) st Q=(lX i j/\Q (.int (i ^ j.toNat)) st):=rfl
@[simp] theorem zqT:zbt (.int i) st Q=Q (.int (-i)) st:=rfl
@[simp] theorem zpK {f:Int->Int->Bool} :pD f (.int i) (.int j) st Q=Q (.bl (f i j)) st:=rfl
@[simp] theorem zqr:zbo x .non st Q=Q (.bl (vW x)) st:=rfl
@[simp] theorem zre:zbu x .non st Q=Q (.bl (!vW x)) st:=rfl
@[simp] theorem zqU:vW .non=true:=rfl
@[simp] theorem zqX:vW (.int i)=false:=rfl
@[simp] theorem zra:vW (.str a)=false:=rfl
@[simp] theorem zqV:vW (.bl p)=false:=rfl
@[simp] theorem zrb:vW (.tup xs)=false:=rfl
@[simp] theorem zqY:vW (.lst xs)=false:=rfl
@[simp] theorem zqW:vW (.dct kvs)=false:=rfl
@[simp] theorem zqZ:vW (.obj n)=false:=rfl
@[simp] theorem zqD:vL (.int i)=some (.inl i):=rfl
@[simp] theorem zqE:vL (.str a)=some (.inr a):=rfl
def ixO (o:Option PO)(y:PV)(st:z6)(Q:K3):Prop:=match o with
 | some (.lst xs)=>(match y with | .int i=>xR (atI xs i) λz=>Q z st | _=>False)
 | some (.dct kvs)=>xR (vL y) λk=>xR (zU kvs k) λz=>Q z st
 | _=>False
@[simp] theorem zqC:pE (.tup xs) (.int i) st Q=xR (atI xs i) λz=>Q z st:=rfl
@[simp] theorem zq8:pE (.lst xs) (.int i) st Q=xR (atI xs i) λz=>Q z st:=rfl
@[simp] theorem zqB:pE (.str a) (.int i) st Q=(a.length<=sizeLine/\xR (atI a.cps.toList i) λc=>Q (.str ⟨#[c]⟩) st):=rfl
@[simp] theorem zq7:pE (.dct kvs) y st Q=xR (vL y) λk=>xR (zU kvs k) λz=>Q z st:=rfl
@[simp] theorem zq9:pE (.obj n) y st Q=ixO st[n]? y st Q:=rfl
@[simp] theorem zqA:ixO (some (.lst xs)) (.int i) st Q=xR (atI xs i) λz=>Q z st:=rfl
@[simp] theorem zq_:ixO (some (.dct kvs)) y st Q=xR (vL y) λk=>xR (zU kvs k) λz=>Q z st:=rfl
def zb9 (o:Option PO)(n:Nat)(i v:PV)(st:z6)(Q:z6->Prop):Prop:=match o with
 | some (.lst xs)=>(match i with | .int k=>yJ v=true/\xR (wJ xs.length k) λj=>Q (st.set n (.lst (xs.set j v))) | _=>False)
 | some (.dct kvs)=>xR (vL i) λk=>yJ v=true/\kvs.length < sizeLine/\Q (st.set n (.dct (vY kvs k v)))
 | _=>False
@[simp] theorem zr2 {Q:z6->Prop} :lB (.obj n) x y st Q=zb9 st[n]? n x y st Q:=rfl
@[simp] theorem zr4 {Q:z6->Prop} :zb9 (some (.lst xs)) n (.int i) y st Q=(yJ y=true/\xR (wJ xs.length i) λj=>Q (st.set n (.lst (xs.set j y)))):=rfl
@[simp] theorem zr3 {Q:z6->Prop} :zb9 (some (.dct kvs)) n x y st Q=xR (vL x) λk=>yJ y=true/\kvs.length < sizeLine/\Q (st.set n (.dct (vY kvs k y))):=rfl
@[simp] theorem zr7 {l h:Option Int} :pF (.tup xs) l h st Q=Q (.tup (wX xs l h)) st:=rfl
@[simp] theorem zr5 {l h:Option Int} :pF (.lst xs) l h st Q=Q (.lst (wX xs l h)) st:=rfl
@[simp] theorem zr6 {l h:Option Int} :pF (.str a) l h st Q=(a.length<=sizeLine/\((Txt.slice a l h).length<=a.length->Q (.str (Txt.slice a l h)) st)):=rfl
def zaC (o:Option PO)(k:Nat->Prop):Prop:=match o with | some (.lst xs)=>k xs.length | some (.dct kvs)=>k kvs.length | _=>False
@[simp] theorem zqF:jS [x] st Q=p9 x st λn=>Q (.int n) st:=rfl
@[simp] theorem zqL {k:Nat->Prop} :p9 (.tup xs) st k=k xs.length:=rfl
@[simp] theorem zqG {k:Nat->Prop} :p9 (.lst xs) st k=k xs.length:=rfl
@[simp] theorem zqK {k:Nat->Prop} :p9 (.str a) st k=(a.length<=sizeLine/\k a.length):=rfl
@[simp] theorem zqH {k:Nat->Prop} :p9 (.obj n) st k=zaC st[n]? k:=rfl
@[simp] theorem zqJ {k:Nat->Prop} :zaC (some (.lst xs)) k=k xs.length:=rfl
@[simp] theorem zqI {k:Nat->Prop} :zaC (some (.dct kvs)) k=k kvs.length:=rfl
def zbQ (o:Option PO)(st:z6)(Q:K3):Prop:=match o with | some (.lst ys)=>Q (.tup ys) st | some (.dct kvs)=>Q (.tup (kvs.map λq=>match q.1 with | .inl i=> .int i | .inr z=> .str z)) st | _=>False
@[simp] theorem zrO:lC [.lst ys] st Q=Q (.tup ys) st:=rfl
@[simp] theorem zrS:lC [.tup ys] st Q=Q (.tup ys) st:=rfl
@[simp] theorem zrP:lC [.obj n] st Q=zbQ st[n]? st Q:=rfl
@[simp] theorem zrR:zbQ (some (.lst ys)) st Q=Q (.tup ys) st:=rfl
@[simp] theorem zrQ:zbQ (some (.dct kvs)) st Q=Q (.tup (kvs.map λq=>match q.1 with | .inl i=> .int i | .inr z=> .str z)) st:=rfl
@[simp] theorem zq0 {t:String} :zbp [x,.ty t] st Q=xR (xX x t) λb=>Q (.bl b) st:=rfl
@[simp] theorem zqf:xX (.bl p) "int" =some true:=rfl
@[simp] theorem zqg:xX (.bl p) "bool" =some true:=rfl
@[simp] theorem zqh:xX (.bl p) "str" =some false:=rfl
@[simp] theorem zqi:xX (.bl p) "tuple" =some false:=rfl
@[simp] theorem zqj:xX (.bl p) "list" =some false:=rfl
@[simp] theorem zqk:xX (.int i) "int" =some true:=rfl
@[simp] theorem zql:xX (.int i) "bool" =some false:=rfl
@[simp] theorem zqm:xX (.int i) "str" =some false:=rfl
@[simp] theorem zqn:xX (.int i) "tuple" =some false:=rfl
@[simp] theorem zqo:xX (.int i) "list" =some false:=rfl
@[simp] theorem zqs:xX (.str a) "int" =some false:=rfl
@[simp] theorem zqt:xX (.str a) "str" =some true:=rfl
@[simp] theorem zqu:xX (.str a) "tuple" =some false:=rfl
@[simp] theorem zqv:xX (.tup xs) "int" =some false:=rfl
@[simp] theorem zqw:xX (.tup xs) "str" =some false:=rfl
@[simp] theorem zqx:xX (.tup xs) "tuple" =some true:=rfl
@[simp] theorem zqy:xX (.tup xs) "list" =some false:=rfl
@[simp] theorem zqp:xX (.lst xs) "tuple" =some false:=rfl
@[simp] theorem zqq:xX (.lst xs) "list" =some true:=rfl
@[simp] theorem zqe:jP [.int i] st Q=Q (.int i) st:=rfl
@[simp] theorem zqd:jP [.bl p] st Q=Q (.int (if p then 1 else 0)) st:=rfl
@[simp] theorem zqP:znH [.int i,.int j] st Q=Q (.int (if j < i then j else i)) st:=rfl
@[simp] theorem zqO:znG [.int i,.int j] st Q=Q (.int (if j > i then j else i)) st:=rfl
def zbP (o:Option PO)(k:Bool->Prop):Prop:=match o with | some (.lst xs)=>k (!xs.isEmpty) | some (.dct xs)=>k (!xs.isEmpty) | _=>False
@[simp] theorem zrI {k:Bool->Prop} :tE .non st k=k false:=rfl
@[simp] theorem zrE {k:Bool->Prop} :tE (.bl p) st k=k p:=rfl
@[simp] theorem zrG {k:Bool->Prop} :tE (.int i) st k=k (i !=0):=rfl
@[simp] theorem zrM {k:Bool->Prop} :tE (.str a) st k=(a.length<=sizeLine/\k ((a.length:Int) !=0)):=rfl
@[simp] theorem zrN {k:Bool->Prop} :tE (.tup xs) st k=k (!xs.isEmpty):=rfl
@[simp] theorem zrH {k:Bool->Prop} :tE (.lst xs) st k=k (!xs.isEmpty):=rfl
@[simp] theorem zrF {k:Bool->Prop} :tE (.dct kvs) st k=k (!kvs.isEmpty):=rfl
@[simp] theorem zrJ {k:Bool->Prop} :tE (.obj n) st k=zbP st[n]? k:=rfl
@[simp] theorem zrL {k:Bool->Prop} :zbP (some (.lst xs)) k=k (!xs.isEmpty):=rfl
@[simp] theorem zrK {k:Bool->Prop} :zbP (some (.dct kvs)) k=k (!kvs.isEmpty):=rfl
def zc_ (o:Option PO)(n:Nat)(y:PV)(st:z6)(Q:K3):Prop:=match o with | some (.lst zs)=>yJ y=true/\zs.length < sizeLine/\Q .non (st.set n (.lst (zs++ [y]))) | _=>False
@[simp] theorem zpI:jO (.obj n) [y] st Q=zc_ st[n]? n y st Q:=rfl
@[simp] theorem zpJ:zc_ (some (.lst zs)) n y st Q=(yJ y=true/\zs.length < sizeLine/\Q .non (st.set n (.lst (zs++ [y])))):=rfl
def zds (o:Option PO)(n:Nat)(ys:List PV)(st:z6)(Q:K3):Prop:=match o with | some (.lst zs)=>zs.length+ys.length<=sizeLine/\Q .non (st.set n (.lst (zs++ys))) | _=>False
@[simp] theorem zpW:zbn (.obj n) [.lst ys] st Q=zds st[n]? n ys st Q:=rfl
@[simp] theorem zpX:zds (some (.lst zs)) n ys st Q=(zs.length+ys.length<=sizeLine/\Q .non (st.set n (.lst (zs++ys)))):=rfl
def zf8 (o:Option PO)(n:Nat)(st:z6)(Q:K3):Prop:=match o with | some (.lst zs)=>xR zs.getLast? λy=>Q y (st.set n (.lst zs.dropLast)) | _=>False
@[simp] theorem zrt:zbv (.obj n) [] st Q=zf8 st[n]? n st Q:=rfl
@[simp] theorem zru:zf8 (some (.lst zs)) n st Q=xR zs.getLast? λy=>Q y (st.set n (.lst zs.dropLast)):=rfl
def dctO (o:Option PO):Option (List (z8×PV)):=match o with | some (.dct kvs)=>some kvs | _=>none
@[simp] theorem zpL:vU (.dct kvs) st=some kvs:=rfl
@[simp] theorem zpM:vU (.obj n) st=dctO st[n]?:=rfl
@[simp] theorem zpN:dctO (some (.dct kvs))=some kvs:=rfl
theorem zdk:nF x [y] st Q=xR (vU x st) λkvs=>xR (vL y) λk=>Q ((zU kvs k).getD .non) st:=by
 unfold nF xR;cases vU x st <;> rfl
theorem zdl:nF x [y,z] st Q=xR (vU x st) λkvs=>xR (vL y) λk=>yJ z=true/\Q ((zU kvs k).getD z) st:=by
 unfold nF xR;cases vU x st <;> rfl
def tyO (o:Option PO):String:=match o with | some (.lst _)=> "list" | some (.dct _)=> "dict" | _=> ""
@[simp] theorem zrU:sG (.lst xs) st= "list" :=rfl
@[simp] theorem zrT:sG (.dct kvs) st= "dict" :=rfl
@[simp] theorem zrY:sG (.str a) st= "str" :=rfl
@[simp] theorem zrV:sG (.obj n) st=tyO st[n]?:=rfl
@[simp] theorem zrX:tyO (some (.lst xs))= "list" :=rfl
@[simp] theorem zrW:tyO (some (.dct kvs))= "dict" :=rfl
def za8 (o:Option PO):Option (List PV):=match o with | some (.lst xs)=>some xs | some (.dct kvs)=>some (kvs.map λq=>tO q.1) | _=>none
@[simp] theorem zq2:sH (.lst xs) st=some xs:=rfl
@[simp] theorem zq6:sH (.tup xs) st=some xs:=rfl
@[simp] theorem zq1:sH (.dct kvs) st=some (kvs.map λq=>tO q.1):=rfl
@[simp] theorem zq3:sH (.obj n) st=za8 st[n]?:=rfl
@[simp] theorem zq5:za8 (some (.lst xs))=some xs:=rfl
@[simp] theorem zq4:za8 (some (.dct kvs))=some (kvs.map λq=>tO q.1):=rfl
@[simp] theorem zqM:zbr [x] st Q=xR (sH x st) λys=>Q (.lst ys) st:=rfl
@[simp] theorem zqN:znF [x] st Q=xR (sH x st) λys=>Q (.obj st.length) (st++ [.lst ys]):=rfl
def zgM (Q:Bool->z6->Prop)(x:PV)(st:z6):Prop:=match x with | .bl k=>Q k st | _=>False
@[simp] theorem zrA {T:zD}{Q:Bool->z6->Prop} :lU T env st Q=T env st (zgM Q):=rfl
@[simp] theorem zrB {Q:Bool->z6->Prop} :zgM Q (.bl p) st=Q p st:=rfl
def zc9 (T:zD)(env:zH)(Q:K3)(x:PV)(st:z6):Prop:=match x with | .bl c=>if c=true then T env st Q else Q (.bl false) st | _=>False
@[simp] theorem zpA {T U:zD} :zgT T U env st Q=T env st (zc9 U env Q):=rfl
@[simp] theorem zpB {T:zD} :zc9 T env Q (.bl p) st=if p=true then T env st Q else Q (.bl false) st:=rfl
def orK (T:zD)(env:zH)(Q:K3)(x:PV)(st:z6):Prop:=match x with | .bl c=>if c=true then Q (.bl true) st else T env st Q | _=>False
@[simp] theorem zrn {T U:zD} :zpa T U env st Q=T env st (orK U env Q):=rfl
@[simp] theorem zro {T:zD} :orK T env Q (.bl p) st=if p=true then Q (.bl true) st else T env st Q:=rfl
def zeZ (Q:K3)(x:PV)(st:z6):Prop:=match x with | .bl c=>Q (.bl (!c)) st | _=>False
@[simp] theorem zrc {T:zD} :zhe T env st Q=T env st (zeZ Q):=rfl
@[simp] theorem zrd:zeZ Q (.bl p) st=Q (.bl (!p)) st:=rfl
@[simp] theorem zqa {gs:uW}{Q:zH->z6->Prop} :gT n gs (.tup xs) env st Q=(xs.length=n/\gs xs env st Q):=rfl
@[simp] theorem zpY {gs:uW}{Q:zH->z6->Prop} :gT n gs (.lst xs) env st Q=(xs.length=n/\gs xs env st Q):=rfl
@[simp] theorem zqc {Q:zH->z6->Prop} :gsN [] env st Q=Q env st:=rfl
@[simp] theorem zqb {g:w9}{gs:uW}{Q:zH->z6->Prop} :gsC g gs (x::xs) env st Q=g x env st λenv1 st1=>gs xs env1 st1 Q:=rfl
def zfz (n m:Nat)(D:xS)(env:zH)(xs:List PV)(st:z6):Prop:=match xs with | [x,y]=>D.nx ((env.set n (some x)).set m (some y)) st | _=>False
@[simp] theorem zrp {T:yK}{D:xS} :zhf n m T D env st=T env st (zfz n m D env):=rfl
@[simp] theorem zrq {D:xS} :zfz n m D env [x,y] st=D.nx ((env.set n (some x)).set m (some y)) st:=rfl
def zfy (n m l:Nat)(D:xS)(env:zH)(xs:List PV)(st:z6):Prop:=match xs with | [x,y,z]=>D.nx (((env.set l (some z)).set m (some y)).set n (some x)) st | _=>False
@[simp] theorem zrr {l:Nat}{T:yK}{D:xS} :zpb n m l T D env st=T env st (zfy n m l D env):=rfl
@[simp] theorem zrs {l:Nat}{D:xS} :zfy n m l D env [x,y,z] st=D.nx (((env.set l (some z)).set m (some y)).set n (some x)) st:=rfl
def gH (o:Option PO)(n:Nat)(st:z6)(Q:w5->List PV->z6->Prop):Prop:=match o with | some (.lst xs)=>Q (some (n,.lst xs)) xs st | _=>False
def mD (Q:w5->List PV->z6->Prop)(x:PV)(st:z6):Prop:=match x with
 | .lst xs=>Q none xs st
 | .tup xs=>Q none xs st
 | .str z=>z.length<=sizeLine/\Q none (qF z) st
 | .obj n=>gH st[n]? n st Q
 | _=>False
@[simp] theorem zpC {T:zD}{Q:w5->List PV->z6->Prop} :ze4 T env st Q=T env st (mD Q):=rfl
@[simp] theorem zpD {Q:w5->List PV->z6->Prop} :mD Q (.lst xs) st=Q none xs st:=rfl
@[simp] theorem zpH {Q:w5->List PV->z6->Prop} :mD Q (.tup xs) st=Q none xs st:=rfl
@[simp] theorem zpG {Q:w5->List PV->z6->Prop} :mD Q (.str a) st=(a.length<=sizeLine/\Q none (qF a) st):=rfl
@[simp] theorem zpE {Q:w5->List PV->z6->Prop} :mD Q (.obj n) st=gH st[n]? n st Q:=rfl
@[simp] theorem zpF {Q:w5->List PV->z6->Prop} :gH (some (.lst xs)) n st Q=Q (some (n,.lst xs)) xs st:=rfl
def zfP (Q:w5->List PV->z6->Prop)(xs:List PV)(st:z6):Prop:=match xs with | [.int j]=>(-1000000<=j/\j<=1000000)/\Q none (u3 0 j.toNat) st | _=>False
@[simp] theorem zry {T:yK}{Q:w5->List PV->z6->Prop} :ze5 T env st Q=T env st (zfP Q):=rfl
@[simp] theorem zrz {Q:w5->List PV->z6->Prop} :zfP Q [.int j] st=((-1000000<=j/\j<=1000000)/\Q none (u3 0 j.toNat) st):=rfl
def zfO (Q:w5->List PV->z6->Prop)(xs:List PV)(st:z6):Prop:=match xs with | [.int i,.int j]=>(-1000000<=i/\i<=1000000/\ -1000000<=j/\j<=1000000)/\Q none (u3 i (j - i).toNat) st | _=>False
@[simp] theorem zr0 {T:yK}{Q:w5->List PV->z6->Prop} :ze6 T env st Q=T env st (zfO Q):=rfl
@[simp] theorem zr1 {Q:w5->List PV->z6->Prop} :zfO Q [.int i,.int j] st=((-1000000<=i/\i<=1000000/\ -1000000<=j/\j<=1000000)/\Q none (u3 i (j - i).toNat) st):=rfl
def zgf (Q:Option Int->z6->Prop)(x:PV)(st:z6):Prop:=match x with | .int i=>Q (some i) st | _=>False
@[simp] theorem zr8 {T:zD}{Q:Option Int->z6->Prop} :zfb T env st Q=T env st (zgf Q):=rfl
@[simp] theorem zr9 {Q:Option Int->z6->Prop} :zgf Q (.int i) st=Q (some i) st:=rfl
def zgP (Q:K3)(x:PV)(st:z6):Prop:=match x with | .tup xs=>Q (.tup xs.reverse) st | _=>False
@[simp] theorem zrC {T:zD} :zpe T env st Q=T env st (zgP Q):=rfl
@[simp] theorem zrD:zgP Q (.tup xs) st=Q (.tup xs.reverse) st:=rfl
def zfN (Q:K3)(x:PV)(st:z6):Prop:=match x with | .lst xs=>Q (.lst xs.reverse) st | _=>False
@[simp] theorem zrw {T:zD}{U:sT} :zhh T U env st Q=T env st λx st1=>U env st1 λl st2=>l=some (-1)/\zfN Q x st2:=rfl
@[simp] theorem zrx:zfN Q (.lst xs) st=Q (.lst xs.reverse) st:=rfl
@[simp] theorem zpR:xG m Q (.int i) st=Q (.int i) (st.take m):=rfl
@[simp] theorem zpU:xG m Q (.str a) st=Q (.str a) (st.take m):=rfl
@[simp] theorem zpP:xG m Q (.bl p) st=Q (.bl p) (st.take m):=rfl
@[simp] theorem zpT:xG m Q .non st=Q .non (st.take m):=rfl
@[simp] theorem zpV:xG m Q (.tup xs) st=Q (.tup xs) (st.take m):=rfl
@[simp] theorem zpS:xG m Q (.lst xs) st=Q (.lst xs) (st.take m):=rfl
@[simp] theorem zpQ:xG m Q (.dct kvs) st=Q (.dct kvs) (st.take m):=rfl
@[simp] theorem zrZ {P:Prop} :tF none st P=P:=rfl
@[simp] theorem zsa {P:Prop}{o:PO} :tF (some (n,o)) st P=(st[n]?=some o/\P):=rfl
@[simp] theorem zrj:yJ .non=true:=rfl
@[simp] theorem zrh:yJ (.int i)=true:=rfl
@[simp] theorem zrl:yJ (.str a)=true:=rfl
@[simp] theorem zrf:yJ (.bl p)=true:=rfl
@[simp] theorem zrm:yJ (.tup xs)=true:=rfl
@[simp] theorem zri:yJ (.lst xs)=true:=rfl
@[simp] theorem zrg:yJ (.dct kvs)=true:=rfl
@[simp] theorem zrk:yJ (.obj n)=false:=rfl
end
@[simp] theorem zs7 {D:xS}{env:zH}{st:z6} :zbT D env st=(D.nx env st):=rfl
@[simp] theorem zsj {T:zD}{g:w9}{D:xS}{env:zH}{st:z6} :nN T g D env st=(T env st λx st1=>g x env st1 D.nx):=rfl
@[simp] theorem zs0 {c:xF}{t u:yY}{D:xS}{env:zH}{st:z6} :iK c t u D env st=(c env st λb st1=>if b=true then t D env st1 else u D env st1):=rfl
@[simp] theorem zsC {T:zD}{D:xS}{env:zH}{st:z6} :zhg T D env st=(T env st D.rt):=rfl
@[simp] theorem zsD {D:xS}{w1:zH}{st:z6} :zpd D w1 st=(D.rt .non st):=rfl
@[simp] theorem zsx {T:zD}{D:xS}{env:zH}{st:z6} :iJ T D env st=(T env st λ_ st1=>D.nx env st1):=rfl
@[simp] theorem zsF {T:zD}{env:zH}{st:z6}{Q:Bool->z6->Prop} :zhj T env st Q=(T env st λx st1=>tE x st1 λk=>Q k st1):=rfl
@[simp] theorem zsi {t u:xF}{env:zH}{st:z6}{Q:Bool->z6->Prop} :iG t u env st Q=(t env st λc st1=>if c=true then u env st1 Q else Q false st1):=rfl
@[simp] theorem zsA {t u:xF}{env:zH}{st:z6}{Q:Bool->z6->Prop} :vOr t u env st Q=(t env st λc st1=>if c=true then Q true st1 else u env st1 Q):=rfl
@[simp] theorem zs9 {t:xF}{env:zH}{st:z6}{Q:Bool->z6->Prop} :zhd t env st Q=(t env st λc st1=>Q (!c) st1):=rfl
@[simp] theorem zsz {t:xF}{Ta Tb:zD}{env:zH}{st:z6}{Q:K3} :vIf t Ta Tb env st Q=(t env st λc st1=>if c=true then Ta env st1 Q else Tb env st1 Q):=rfl
@[simp] theorem zs_ {R:R3}{Ta Tb:zD}{env:zH}{st:z6}{Q:K3} :rM R Ta Tb env st Q=(Ta env st λx st1=>Tb env st1 λy st2=>R x y st2 Q):=rfl
@[simp] theorem zsH {R:PV->z6->K3->Prop}{Ta:zD}{env:zH}{st:z6}{Q:K3} :vUn R Ta env st Q=(Ta env st λx st1=>R x st1 Q):=rfl
@[simp] theorem zso {x:PV}{w0:zH}{st:z6}{Q:K3} :vC x w0 st Q=(Q x st):=rfl
@[simp] theorem zs8 {w0:zH}{st:z6}{Q:List PV->z6->Prop} :oB w0 st Q=(Q [] st):=rfl
@[simp] theorem zst {Ta:zD}{Tr:yK}{env:zH}{st:z6}{Q:List PV->z6->Prop} :uR Ta Tr env st Q=(Ta env st λx st1=>Tr env st1 λxs st2=>Q (x::xs) st2):=rfl
@[simp] theorem zsG {T:yK}{env:zH}{st:z6}{Q:K3} :zhk T env st Q=(T env st λxs st1=>uI xs=true/\Q (.tup xs) st1):=rfl
@[simp] theorem zs2 {T:yK}{env:zH}{st:z6}{Q:K3} :zgZ T env st Q=(T env st λxs st1=>uI xs=true/\Q (.lst xs) st1):=rfl
@[simp] theorem zs3 {T:yK}{env:zH}{st:z6}{Q:K3} :zha T env st Q=(T env st λxs st1=>uI xs=true/\Q (.obj st1.length) (st1++ [.lst xs])):=rfl
@[simp] theorem zsp {R:y4}{T:yK}{env:zH}{st:z6}{Q:K3} :rL R T env st Q=(T env st λxs st1=>R xs st1 Q):=rfl
@[simp] theorem zsE {T:zD}{Tl Th:sT}{env:zH}{st:z6}{Q:K3} :vSl T Tl Th env st Q=(T env st λx st1=>Tl env st1 λl st2=>Th env st2 λu st3=>pF x l u st3 Q):=rfl
@[simp] theorem zsd {w0:zH}{st:z6}{Q:Option Int->z6->Prop} :zfa w0 st Q=(Q none st):=rfl
@[simp] theorem zsc {To Ti:zD}{v:PV}{env:zH}{st:z6}{Q:zH->z6->Prop} :gS To Ti v env st Q=(To env st λo st1=>Ti env st1 λi st2=>lB o i v st2 λst3=>Q env st3):=rfl
@[simp] theorem zsk {T:String}{R:PV->y4}{To:zD}{TA:yK}{env:zH}{st:z6}{Q:K3} :vBM T R To TA env st Q=(To env st λx st1=>sG x st1=T/\TA env st1 λxs st2=>R x xs st2 Q):=rfl
@[simp] theorem zsl {T:String}{R:PV->y4}{To:zD}{env:zH}{st:z6}{Q:K3} :zgU T R To env st Q=(To env st λx st1=>sG x st1=T/\R x [] st1 Q):=rfl
@[simp] theorem zsv {w0:zH}{st:z6}{Q:K3} :zgV w0 st Q=(Q (.obj st.length) (st++ [.dct []])):=rfl
@[simp] theorem zsn {D:xS}{env:zH}{st:z6} :zoT D env st=(D.bk env st):=rfl
@[simp] theorem zsu {D:xS}{env:zH}{st:z6} :zoV D env st=(D.ct env st):=rfl
@[simp] theorem zsf {x:PV}{y:PV}{st:z6}{Q:K3} :zbl x y st Q=((z9 x<=50/\z9 y < 1000)/\Q (.bl (zW x y)) st):=rfl
@[simp] theorem zsg {x:PV}{y:PV}{st:z6}{Q:K3} :zfK x y st Q=((z9 x<=50/\z9 y < 1000)/\Q (.bl (!zW x y)) st):=rfl
@[simp] theorem zsb {i:Nat}{x:PV}{env:zH}{st:z6}{Q:zH->z6->Prop} :gN i x env st Q=(Q (env.set i (some x)) st):=rfl
@[simp] theorem zs6 {w0:xS}{w1:zH}{w2:z6} :zoZ w0 w1 w2=(False):=rfl
@[simp] theorem zsy {I:uD}{g:w9}{b:yY}{D:xS}{env:zH}{st:z6} :zgX I g b D env st=(I env st λsrc xs st1=>iP g b src xs D env st1):=rfl
@[simp] theorem zsr {own:Nat}{I:uD}{g:w9}{tt:xF}{el:zD}{env:zH}{st:z6}{Q:K3} :iH own I g tt el env st Q=(I env st λsrc xs st1=>oF own g tt el src xs (λys st2=>Q (.lst ys) st2) env st1):=rfl
@[simp] theorem zss {own:Nat}{I:uD}{g:w9}{tt:xF}{el:zD}{env:zH}{st:z6}{Q:K3} :iI own I g tt el env st Q=(I env st λsrc xs st1=>oF own g tt el src xs (λys st2=>Q (.obj st2.length) (st2++ [.lst ys])) env st1):=rfl
@[simp] theorem zsI {w0:zH}{st:z6}{Q:Bool->z6->Prop} :zhl w0 st Q=(Q true st):=rfl
@[simp] theorem zsh {N:List Str}{xs:List PV} :qJ N xs=xs.map some++List.replicate (N.length - xs.length) none:=rfl
@[simp] theorem zse {xs:List PV} :uI xs=(xs.all yJ&&Nat.ble xs.length 1000):=rfl
@[simp] theorem zp5 {x:PV}{e:zH}{st:z6}{Q:K3} :vQ 0 (some x::e) st Q=Q x st:=rfl
@[simp] theorem zp6 {i:Nat}{x:Option PV}{e:zH}{st:z6}{Q:K3} :vQ (i+1) (x::e) st Q=vQ i e st Q:=rfl
@[simp] theorem zp0 {α:Type}{x:α}{F:α->Prop} :xR (some x) F=F x:=rfl
section
variable {α β:Type} {x y z u v:α} {xs ys:List α} {f:α->β} {n i:Nat} {p:Prop} {b:Bool} {st:List α}
@[simp] theorem zpv:(x::xs).map f=f x::xs.map f:=rfl
@[simp] theorem zpw:([]:List α).map f= []:=rfl
@[simp] theorem zpt:(x::xs).length=xs.length+1:=rfl
@[simp] theorem zpu:([]:List α).length=0:=rfl
@[simp] theorem zpl:(x::xs)++ys=x::(xs++ys):=rfl
@[simp] theorem zpm: []++ys=ys:=rfl
@[simp] theorem zp1:List.replicate (n+1) x=x::List.replicate n x:=rfl
@[simp] theorem zp2:List.replicate 0 x= []:=rfl
@[simp] theorem zp3:(x::xs).set 0 y=y::xs:=rfl
@[simp] theorem zp4:(x::xs).set (n+1) y=x::xs.set n y:=rfl
@[simp] theorem zpr:(x::xs)[0]?=some x:=rfl
@[simp] theorem zps:(x::xs)[n+1]?=xs[n]?:=rfl
@[simp] theorem zpy:(!true)=false:=rfl
@[simp] theorem zpx:(!false)=true:=rfl
@[simp] theorem zcJ:(some x).isSome=true:=rfl
@[simp] theorem zpq:(some x).getD y=x:=rfl
@[simp] theorem zpp:(none:Option α).getD y=y:=rfl
@[simp] theorem zpj {q:α->Bool} :(x::xs).all q=(q x&&xs.all q):=rfl
@[simp] theorem zpk {q:α->Bool} :([]:List α).all q=true:=rfl
@[simp] theorem zpn {m:Nat} :Nat.ble (n+1) (m+1)=Nat.ble n m:=rfl
end
section
variable {Q:K3} {st:z6} {x:PO} {xs:List PV} {kvs:List (z8×PV)} {i j:Int} {a b:Str} {p q:Bool} {l:List (Str×Int)}
@[simp] theorem zpo {m:Nat} :xG m Q (sU l) st=Q (sU l) (st.take m):=rfl
@[simp] theorem zpz:yJ (sU l)=true:=rfl
end
theorem cB:(∀{α:Type} {x:α} {xs:List α},atI (x::xs) 0=some x)/\(∀{α:Type} {x y:α} {xs:List α},atI (x::y::xs) 1=some y)/\(∀{α:Type} {x y z:α} {xs:List α},atI (x::y::z::xs) 2=some z)/\(∀{α:Type} {x y z u:α} {xs:List α},atI (x::y::z::u::xs) 3=some u)/\(∀{α:Type} {x y z u v:α} {xs:List α},atI (x::y::z::u::v::xs) 4=some v)/\
  (∀{n:Nat},wJ (n+1) 0=some 0)/\(∀{n:Nat},wJ (n+2) 1=some 1)/\(∀{p:Prop},(True/\p)=p)/\(∀{p:Prop},(p/\True)=p)/\(∀{q r:Prop},(if True then q else r)=q)/\(∀{q r:Prop},(if False then q else r)=r)/\((false=true)=False)/\(∀{p:Prop},(p∨True)=True)/\(∀{p:Prop},(True∨p)=True)/\(∀{p:Prop},(p/\p)=p)/\
  (∀{α:Type} {st:List α},st.take (st.length+0)=st)/\(∀{α:Type} {st:List α},st.take st.length=st)/\(∀{α:Type} {st:List α} {i:Nat} {x:α},(st.set i x).take (st.length+0)=st.set i x)/\(∀{α:Type} {st:List α} {i:Nat} {x:α},(st.set i x).take st.length=st.set i x)/\(∀{α:Type} {st:List α} {i:Nat} {x y:α},(st.set i x).set i y=st.set i y)/\
  (∀{α:Type} {st:List α} {i:Nat} {x:α},(st[i]?).isSome=true->(st.set i x)[i]?=some x)/\(∀{α:Type} {st:List α} {x:α},(st++ [x])[st.length]?=some x)/\(∀{α:Type} {st:List α} {x y:α},(st++ [x]).set st.length y=st++ [y])/\(∀{α:Type} {st:List α} {x:α},(st++ [x]).take (st.length+0)=st)/\(∀{α:Type} {st:List α} {x:α},(st++ [x]).take st.length=st)/\(∀{α:Type} {st:List α} {x:α},(st++ [x]).take (st.length+1)=st++ [x])/\
  (∀{b:Bool},(b&&true)=b)/\(∀{b:Bool},(true&&b)=b)/\(∀{m:Nat},Nat.ble 0 m=true)/\(∀{m:Nat},(0<=m)=True)/\(∀{n:Nat},max n 0=n)/\(∀{n:Nat},max 0 n=n)/\(∀{h:Decidable True},@decide True h=true)/\(∀{h:Decidable False},@decide False h=false)/\
  (∀{Q:K3} {st:z6} {x:PO},xG (st.length+1) Q (.obj st.length) (st++ [x])=Q (.obj st.length) (st++ [x]))/\(∀{Q:K3} {st:z6} {xs:List PV},xG (st.length+0) Q (.obj st.length) (st++ [.lst xs])=Q (.lst xs) st)/\(∀{Q:K3} {st:z6} {kvs:List (z8×PV)},xG (st.length+0) Q (.obj st.length) (st++ [.dct kvs])=Q (.dct kvs) st)/\
  (∀{Q:K3} {st:z6} {xs:List PV},xG st.length Q (.obj st.length) (st++ [.lst xs])=Q (.lst xs) st)/\(∀{Q:K3} {st:z6} {kvs:List (z8×PV)},xG st.length Q (.obj st.length) (st++ [.dct kvs])=Q (.dct kvs) st):=
 ⟨at0,at1,at2,at3,at4,ix0,ix1,true_and _,and_true _,if_pos trivial,if_neg id,Bool.false_eq_true,or_true _,true_or _,and_self _,zgL,List.take_length,iD,iD,set_set,zkh,uY,nK,zbM,zbM,zoF,Bool.and_true _,Bool.true_and _,Nat.ble_eq_true_of_le (Nat.zero_le _),eq_true (Nat.zero_le _),Nat.max_zero _,Nat.zero_max _,(by simp),(by simp),zjm,j4,zdr,j4,zdr⟩
end L3
namespace L3
open PySem PySem.Spec PyProof.Rows L2
def nO:List (zD×zD)->zH->z6->(List (PV×PV)->z6->Prop)->Prop
 | [],_,st,Q=>Q [] st
 | (tk,tv)::r,env,st,Q=>tk env st λx st1=>tv env st1 λy st2=>nO r env st2 λps st3=>Q ((x,y)::ps) st3
abbrev hZ (K:Frag)(A:List Addr)(H:Hp):List (PV×PV)->List (V×V)->Prop:=Paired λp q=>RE K A H p.1 q.1/\RE K A H p.2 q.2
theorem zaY {K:Frag} : ∀{trs:List (zD×zD)} {A:List Addr} {env:zH} {st:z6} {σ:St} {H:Hp} {Q3:List (PV×PV)->z6->Prop} {Q:List (V×V)->Hp->Prop},xE K A H σ env st->nO trs env st Q3->
  (∀A' H' st' ps qs,zZ A H A' H'->RS K A' H' st'->hZ K A' H' ps qs->Q3 ps st'->Q qs H')->iA (trs.map λp=>(zR K p.1,zR K p.2)) σ H Q
 | [],A,env,st,σ,H,Q3,Q,rel,h,k=>k A H st [] [] (.refl _ _) rel.rs .nil h
 | (tk,tv)::r,A,env,st,σ,H,Q3,Q,rel,h,k=>
  ⟨A,env,st,_,rel,h,λA1 H1 st1 x v g1 s1 e1 h1=>⟨A1,env,st1,_,rel.grow g1 s1,h1,λA2 H2 st2 y u g2 s2 e2 h2=>
   zaY (trs:=r) (rel.grow (g1.trans g2) s2) h2 λA3 H3 st3 ps qs g3 s3 e3 h3=>k A3 H3 st3 _ _ ((g1.trans g2).trans g3) s3 (.cons ⟨e1.grow (g2.trans g3),e2.grow g3⟩ e3) h3⟩⟩
theorem znQ {K:Frag}{A:List Addr}{H:Hp}{x:PV}{v:V}(e:RE K A H x v)(h:yJ x=true):RV K A H x v:=by
 cases e with
 | val e=>exact e
 | obj e=>cases h
theorem zeH {k:z8} :vL (tO k)=some k:=by cases k <;> rfl
theorem zf9 {K:Frag}{A:List Addr}{H:Hp} : ∀{kvs:List (z8×PV)} {qs:List (V×V)},hZ K A H (kvs.map λkv=>(tO kv.1,kv.2)) qs->(kvs.all λkv=>yJ kv.2)=true->∃us:List (z8×V),qs=us.map (λkv=>(kV kv.1,kv.2))/\RKs K A H kvs us
 | [],qs,h,_=>by cases h;exact⟨[],rfl,.nil⟩
 | kv::kvs,qs,h,hn=>by
  rw[List.all_cons,Bool.and_eq_true]at hn;cases h with
  | @cons _ b _ _ r t=>
   obtain⟨us,rfl,rk⟩:=zf9 t hn.2;obtain⟨q1,q2⟩:=b;have e1:q1=kV kv.1:=sI r.1 zeH;subst e1;exact⟨(kv.1,q2)::us,rfl,.cons (znQ r.2 hn.1) rk⟩
def zgW (trs:List (zD×zD)):zD:=λenv st Q=>nO trs env (st++ [.dct []]) λps st2=> ∃kvs:List (z8×PV),ps=kvs.map (λkv=>(tO kv.1,kv.2))/\kvs.length<=15/\(kvs.all λkv=>yJ kv.2)=true/\st2[st.length]?=some (.dct [])/\Q (.obj st.length) (st2.set st.length (.dct (jG [] kvs)))
section
variable {X:Cx}
theorem zno {pos:Pos}{keys:List (Option Expr)}{values:List Expr}{trs:List (zD×zD)}(h:sS X pos keys values (trs.map λp=>(zR X.K p.1,zR X.K p.2)))(hall:keys.all (·.isSome)=true)(hl:keys.length=values.length)(h0:keys≠ [])(h15:keys.length<=15):
  PE X (.Dict keys values pos) (zR X.K (zgW trs)):=by
 refine xP (zf1 h hall hl h0 h15) λσ H Q ⟨A,env,st,Q3,rel,hT,k⟩=> ?_;intro p hp;have g0:zZ A H (A++ [p]) (zQ H p (.dK [])):= .newObj hp;have rs1:RS X.K (A++ [p]) (zQ H p (.dK [])) (st++ [.dct []]):=rel.rs.newObj (q:= .dct []) hp ⟨[],x9,.nil,Nat.zero_le _⟩;refine zaY (rel.grow g0 rs1) hT λA2 H2 st2 ps qs g s2 e h2=> ?_;obtain⟨kvs,rfl,h15,hno,hat,q⟩:=h2;have hA:A2[st.length]?=some p:=by
  obtain⟨B,rfl,_⟩:=g.ext;rw[List.getElem?_append_left (by rw[List.length_append,<- rel.rs.len];exact Nat.lt_succ_self _),<- rel.rs.len,List.getElem?_append_right (Nat.le_refl _),Nat.sub_self];rfl
 obtain⟨us0,e0,r0,_⟩:=s2.at_ _ _ _ hA hat;cases r0;obtain⟨us,rfl,rk⟩:=zf9 e hno;have hlen:us.length<=15:=by rw[<- rk.len];exact h15
 refine⟨e0,us,rfl,hlen,?_⟩;have mp:p∈A2:=List.mem_of_getElem? hA;exact k A2 _ _ _ _ ((g0.trans g).trans (.put mp)) (s2.put (q:= .dct (jG [] kvs)) hA ⟨_,x9,(RKs.merge .nil rk).grow (.put mp),Nat.le_trans (zlb hlen) (by decide)⟩) (.obj hA) q
abbrev kT (K:Frag)(trs:List (zD×zD)):List (TE×TE):=trs.map λp=>(zR K p.1,zR K p.2)
theorem zfG {pos:Pos} :sS X pos [] [] (kT X.K []):=zmX
theorem l0 {pos:Pos}{k v:Expr}{ks:List (Option Expr)}{vs:List Expr}{Tk Tv:zD}{trs:List (zD×zD)}(hk:PE X k (zR X.K Tk))(hv:PE X v (zR X.K Tv))(hr:sS X pos ks vs (kT X.K trs)):sS X pos (some k::ks) (v::vs) (kT X.K ((Tk,Tv)::trs)):=zmW hk hv hr
end
end L3
namespace L3
open PySem PySem.Spec PyProof.Rows L2 PySem.SeqAt
section
variable {X:Cx} {o e:Expr} {es:List Expr} {apos cpos:Pos} {To:zD} {TA:yK} {id:String} {name:Str} {R:PV->y4}
def za6:PV->Bool | .tup _=>true | _=>false
@[simp] theorem zqz {xs:List PV} :za6 (.tup xs)=true:=rfl
def zoS (R:PV->y4)(To:zD)(TA:yK):zD:=λenv st Q=>To env st λx st1=>za6 x=true/\TA env st1 λys st2=>R x ys st2 Q
@[simp] theorem zsm {env:zH}{st:z6}{Q:K3} :zoS R To TA env st Q=To env st λx st1=>za6 x=true/\TA env st1 λys st2=>R x ys st2 Q:=rfl
end
end L3
namespace L2
open PySem PySem.Spec PyProof.Rows
section
variable {X:Cx}
end
end L2
namespace L2
open PySem PySem.Spec PyProof.Rows
end L2
namespace L3
open PySem PySem.Spec PyProof.Rows L2
def jE (kvs:List (List Int×Int))(k:List Int):Option Int:=(kvs.find? λkv=>decide (kv.1=k)).map (·.2)
def zfC (kvs:List (List Int×Int))(k:List Int)(v:Int):List (List Int×Int):=
 if(kvs.any λkv=>decide (kv.1=k))=true then kvs.map (λkv=>if kv.1=k then(kv.1,v)else kv)else kvs++ [(k,v)]
def zeC:PV->z6->Option (List (List Int×Int))
 | .itb kvs,_=>some kvs
 | .obj i,st=>(match st[i]? with | some (.itb kvs)=>some kvs | _=>none)
 | _,_=>none
def zoW:zD:=λ_ st Q=>Q (.obj st.length) (st++ [.itb []])
def zoY (Ta:zD)(TA:yK):zD:=λenv st Q=>Ta env st λx st1=>TA env st1 λys st2=> ∃(k:List Int) (kvs:List (List Int×Int)) (v:Int),ys=k.map PV.int/\zeC x st2=some kvs/\k.length<=100/\jE kvs k=some v/\Q (.int v) st2
def zpc (Td:zD)(TA:yK)(Tv:zD):yY:=λD env st=>Tv env st λv st1=>Td env st1 λx st2=>TA env st2 λys st3=> ∃(k:List Int) (i:Nat) (kvs:List (List Int×Int)) (z:Int),ys=k.map PV.int/\v= .int z/\x= .obj i/\st3[i]?=some (.itb kvs)/\k.length<=100/\kvs.length < sizeLine/\D.nx env (st3.set i (.itb (zfC kvs k z)))
@[simp] theorem zsw {env:zH}{st:z6}{Q:K3} :zoW env st Q=Q (.obj st.length) (st++ [.itb []]):=rfl
@[simp] theorem zs1 {Ta:zD}{TA:yK}{env:zH}{st:z6}{Q:K3} :zoY Ta TA env st Q=(Ta env st λx st1=>TA env st1 λys st2=> ∃(k:List Int) (kvs:List (List Int×Int)) (v:Int),ys=k.map PV.int/\zeC x st2=some kvs/\k.length<=100/\jE kvs k=some v/\Q (.int v) st2):=rfl
@[simp] theorem zsB {Td:zD}{TA:yK}{Tv:zD}{D:xS}{env:zH}{st:z6} :zpc Td TA Tv D env st=(Tv env st λv st1=>Td env st1 λx st2=>TA env st2 λys st3=> ∃(k:List Int) (i:Nat) (kvs:List (List Int×Int)) (z:Int),ys=k.map PV.int/\v= .int z/\x= .obj i/\st3[i]?=some (.itb kvs)/\k.length<=100/\kvs.length < sizeLine/\D.nx env (st3.set i (.itb (zfC kvs k z)))):=rfl
section
variable {X:Cx} {a value:Expr} {es:List Expr} {pos pos' p2:Pos} {Ta Tv:zD} {TA:yK}
end
end L3
namespace L3
open PySem PySem.Spec PyProof.Rows L2
def zoU (good:qM->Prop)(i:Nat)(TA:yK):zD:=λenv st Q=> ∃D:qM,env[i]?=some (some (.clo D))/\good D/\TA env st λxs st1=> ∃(k:List Int) (v:Int),xs=k.map PV.int/\k.length=3/\jE D.kvs k=some v/\Q (.int v) st1
@[simp] theorem zsq {good:qM->Prop}{i:Nat}{TA:yK}{env:zH}{st:z6}{Q:K3} :zoU good i TA env st Q= ∃D:qM,env[i]?=some (some (.clo D))/\good D/\TA env st λxs st1=> ∃(k:List Int) (v:Int),xs=k.map PV.int/\k.length=3/\jE D.kvs k=some v/\Q (.int v) st1:=rfl
section
variable {X:Cx} {e:Expr} {es:List Expr} {p pos:Pos} {TA:yK}
end
end L3
namespace L2
open PySem PySem.Spec PyProof.Rows
section
variable {prog:Program} {w:World} {A:Around} {J:Addr} {fp wr:List Addr} {n:Nat} {P:Nat->Value->Prop} {Sn:Nat->Heap->Prop}
end
section
variable {prog:Program} {w:World} {A:Around} {E:Value->Shared->Prop} {s:Shared}
end
section
variable {X:Cx} {e e2:Expr} {t:TA} {tk:TA} {p pos kpos:Pos}
end
end L2
namespace L3
open PySem PySem.Spec PyProof.Rows L2
end L3
namespace L3
open PySem PySem.Spec PyProof.Rows L2
section
variable {X:Cx} {a b e:Expr} {es:List Expr} {pos p p2:Pos} {Ta Tb:zD} {TA:yK}
def oM (xs:List PV):List PV:=xs.mapIdx λi x=> .tup [.int (i:Int),x]
theorem mN {xs:List PV} :(oM xs).length=xs.length:=by unfold oM;simp
theorem fF {xs:List PV}{i:Nat}{y:PV}(h:(oM xs)[i]?=some y): ∃x,xs[i]?=some x/\y= .tup [.int (i:Int),x]:=by
 unfold oM at h;rw[List.getElem?_mapIdx]at h;cases e:xs[i]? with
 | none=>rw[e]at h;cases h
 | some x=>rw[e]at h;exact⟨x,rfl,(Option.some.inj h).symm⟩
end
end L3
namespace Sets
open PySem
def zhV (xs:Array Nat):Prop:= ∀i j (hi:i < xs.size) (hj:j < xs.size),i < j->xs[i] < xs[j]
structure zhK (led:Bool)(n:Nat)(t:SetTable):Prop where
 fits:t.fits n=true
 led:t.led=led
 rise:zhV t.place
 dum:t.dummies= #[]
end Sets
namespace Sets
open PySem PyProof.Rows
def zhW (led:Bool)(a:Addr)(es:Array (Int×Value))(h:Heap):Prop:= ∃o ep t,h.get? a=some o/\o.ExactSet/\o.data= .set es ep t/\zhK led es.size t
section
variable {prog:Program} {w:World} {K:Type} [DecidableEq K] {knd:KeyKind prog w K} {A:Around} {E:Value->Shared->Prop} {s:Shared}
end
end Sets
namespace Sets
open PySem PyProof.Rows
section
variable {prog:Program} {w:World} {A:Around} {E:Value->Shared->Prop} {s:Shared}
end
end Sets
namespace Sets
open PySem PyProof.Rows
section
variable {prog:Program} {w:World} {A:Around} {E:Value->Shared->Prop} {s:Shared}
end
end Sets
namespace Sets
open PySem PyProof.Rows
section
variable {prog:Program} {w:World} {A:Around} {E:Value->Shared->Prop} {s:Shared}
end
end Sets
namespace Sets
open PySem PyProof.Rows
section
variable {prog:Program} {w:World} {A:Around} {E:Value->Shared->Prop} {s:Shared}
abbrev zkG (w:World):Bool:= !w.params.followText "set-order"
end
inductive kP {α β:Type}(R:α->β->Prop):List α->List β->Prop
 | nil:kP R [] []
 | cons {a:α} {b:β} {l:List α} {m:List β} :R a b->kP R l m->kP R (a::l) (b::m)
def zhZ {K:Type}[DecidableEq K](ds:List K)(k:K):List K:=if k∈ds then ds else ds++ [k]
def dd {K:Type}[DecidableEq K](ks:List K):List K:=ks.foldl zhZ []
section
variable {prog:Program} {w:World} {K:Type} [DecidableEq K] (knd:KeyKind prog w K)
def IsE (e:Int×Value)(k:K):Prop:=knd.is k e.2=true/\e.1=knd.hash k/\e.2.scannable=true
def zhw (es:Array (Int×Value))(ds:List K):Prop:= ∃ds':List K,ds'.Perm ds/\kP (IsE knd) es.toList ds'
variable {knd}
end
end Sets
namespace Sets
open PySem PyProof.Rows
section
variable {prog:Program} {w:World} {A:Around} {E:Value->Shared->Prop} {s:Shared} {K:Type} [DecidableEq K] {knd:KeyKind prog w K}
def Holds (knd:KeyKind prog w K)(a:Addr)(ds:List K)(h:Heap):Prop:= ∃es,zhW (zkG w) a es h/\zhw knd es ds
end
end Sets
namespace Sets
open PySem PyProof.Rows
section
variable {prog:Program} {w:World} {A:Around} {E:Value->Shared->Prop} {s:Shared} {K:Type} [DecidableEq K] {knd:KeyKind prog w K}
end
end Sets
namespace L2
open PySem PySem.Spec PyProof.Rows
section
variable {X:Cx} {pins:List (Addr×Obj)} {σ:St} {H:Hp} {s s':Shared}
end
end L2
namespace L3
open PySem PySem.Spec PyProof.Rows L2
section
variable {X:Cx} {To:zD} {o:Expr} {p q pos ap:Pos}
end
end L3
set_option maxHeartbeats 1000000
namespace L3
section
variable {α:Type} [DecidableEq α] {w U u l:List α} {A B a b:Nat}
variable {ds:List (Nat×Nat×List α)} {h k:Nat} {x:List α} {n:Nat}
end
end L3
set_option maxHeartbeats 4000000
namespace L2
open PySem PySem.Spec PyProof.Rows
section
variable {X:Cx}
end
end L2
namespace L3
open PySem PySem.Spec PyProof.Rows L2
section
variable {X:Cx}
def zbw:PV->y4:=λx xs st Q=> ∃(i k:Nat) (y:PV) (zs:List PV),x= .obj i/\xs= [.int (k:Nat)]/\st[i]?=some (.lst zs)/\zs[k]?=some y/\Q y (st.set i (.lst (zs.eraseIdx k)))
theorem RVs.erase {K:Frag}{A:List Addr}{H:Hp} : ∀{xs:List PV} {vs:List V} (n:Nat),RVs K A H xs vs->RVs K A H (xs.eraseIdx n) (vs.eraseIdx n)
 | _,_,_,.nil=> .nil
 | _,_,0,.cons r t=>t
 | _,_,n+1,.cons r t=> .cons r (RVs.erase n t)
theorem zfh:tI X "list.pop" (rQ X.K zbw):=by
 intro pins s σ H v vs vv us Q I rv rvs ⟨A,st,x,xs,Q3,rs,ex,exs,h,k⟩;obtain⟨i,n,y,zs,rfl,rfl,q,hy,h⟩:=h;obtain⟨w,rfl,e1⟩:=yU.one exs;cases xN e1;cases ex with
 | val e=>cases e
 | obj eo=>
  have hm:=List.mem_of_getElem? eo;obtain⟨ws,h1,r,z⟩:=rs.at_ _ _ _ eo q;obtain⟨u,hu,ru⟩:=r.get hy;have hlt:n < ws.length:=(List.getElem?_eq_some_iff.mp hu).1;have hi:((n:Nat):Int) < 2 ^ 63:=Int.lt_of_lt_of_le (Int.ofNat_lt.mpr (Nat.lt_of_lt_of_le hlt z)) (by decide);refine zln pins s σ H _ _ vv us Q I rv rvs ⟨_,ws,(n:Int),n,u,rfl,rfl,h1,Int.le_trans (by decide: -(2:Int) ^ 63<=0) (Int.natCast_nonneg n),hi,PySem.StrLaws.seqIndex_nonneg (Int.natCast_nonneg n) (Int.ofNat_lt.mpr hlt),hu,k A _ _ _ _ (.put hm) (rs.put (q:= .lst (zs.eraseIdx n)) eo ⟨_,x9,(r.erase n).grow (.put hm),?_⟩) (.val (ru.grow (.put hm))) h⟩;exact Nat.le_trans (List.length_eraseIdx_le ..) z
end
end L3
namespace L2
open PySem PySem.Spec PyProof.Rows
section
variable {X:Cx} {es:List Expr} {pos:Pos} {t:TA}
end
end L2
namespace L3
open PySem PySem.Spec PyProof.Rows L2
section
variable {X:Cx} {Te:zD} {e:Expr} {p q r pos tp:Pos} {k:Nat}
end
end L3
namespace L2
open PySem PySem.Spec PyProof.Rows
section
variable {prog:Program} {w:World} {A:Around} {E:Value->Shared->Prop} {s:Shared}
theorem zja {it t:Addr}{i:Nat}{its:Array Value}{x:Value}{Q:Value->Shared->Prop}(hit:s.heap.IsTupleIter it t i)(ht:s.heap.IsTuple t its)(hx:its[i]?=some x)
  (hQ: ∀h',h'.IsTupleIter it t (i+1)->Heap.SameBut it s.heap h'->Q x {s with heap:=h'}):wpAny (model prog w) A (Builtin.SmallTypes.nextOf (.ref it)) Q E s:=by
 obtain⟨o,ho,hc,hd⟩:=id hit;obtain⟨_,hol,_,_,hdl⟩:=ht;unfold Builtin.SmallTypes.nextOf;refine wpAny_bind (wpAny_callSpecial?_slot (name:=Str.ofString "__next__") hit.typeIs F.slot_tuple_iterator_next (wpAny_call_entry F.slot_tuple_iterator_next hit.typeIs F.entry_tuple_iterator_next ?_ (F.args_tuple_iterator_next_1 _)));refine wpAny_bind (m:=field (.ref it) 0) (wpAny_field ho hd (x:= .ref t) rfl ?_);rw[if_neg (show ¬ ((Value.ref t==Value.none)=true)from Bool.false_ne_true)];refine wpAny_bind (m:=field (.ref it) 1) (wpAny_field ho hd (x:= .int i 0) rfl ?_);refine wpAny_bind (m:=seqItems? (.ref t)) (wpAny_seqItems hol hdl ?_);simp only[Int.toNat_natCast,hx];refine wpAny_bind (wpAny_setField ho hd (by simp) (wpAny_pure ⟨x,rfl,wpAny_pure (hQ _ ⟨_,Heap.get?_update_self _ ho (Obj.isFreed_of_fields (Obj.data_mapFields hd _)),(Obj.cls_mapFields ..).trans hc,?_⟩ (Heap.SameBut.update ..))⟩));rw[Obj.data_mapFields hd];simp[rawInt]
theorem ziZ {it t:Addr}{i:Nat}{its:Array Value}{Q:Value->Shared->Prop}(hh:A.handled=none)(hit:s.heap.IsTupleIter it t i)(ht:s.heap.IsTuple t its)(hx:its[i]?=none)
  (hE: ∀h' e,Heap.ExtBut it s.heap h'->(∃o,h'.get? e=some o/\o.cls= .type "StopIteration")->E (.ref e) {s with heap:=h'}):wpAny (model prog w) A (Builtin.SmallTypes.nextOf (.ref it)) Q E s:=by
 obtain⟨o,ho,hc,hd⟩:=id hit;obtain⟨_,hol,_,_,hdl⟩:=ht;unfold Builtin.SmallTypes.nextOf;refine wpAny_bind (wpAny_callSpecial?_slot (name:=Str.ofString "__next__") hit.typeIs F.slot_tuple_iterator_next (wpAny_call_entry F.slot_tuple_iterator_next hit.typeIs F.entry_tuple_iterator_next ?_ (F.args_tuple_iterator_next_1 _)));refine wpAny_bind (m:=field (.ref it) 0) (wpAny_field ho hd (x:= .ref t) rfl ?_);rw[if_neg (show ¬ ((Value.ref t==Value.none)=true)from Bool.false_ne_true)];refine wpAny_bind (m:=field (.ref it) 1) (wpAny_field ho hd (x:= .int i 0) rfl ?_);refine wpAny_bind (m:=seqItems? (.ref t)) (wpAny_seqItems hol hdl ?_);simp only[Int.toNat_natCast,hx];refine wpAny_bind (wpAny_rule (wpAny_bind (wpAny_setField ho hd (by simp) ?_)));refine wpAny_bind (m:=newExc (.type "StopIteration") []) ?_;simp only[newExc,newTuple];refine wpAny_bind (wpAny_newObj_type ?_ (by size_fits));refine wpAny_bind (m:=firstArgMember _ _) (wpAny_of_eq (a:=Value.none) (by first | rfl | (simp only[firstArgMember];rfl)) (wpAny_newObj_type ?_ (by size_fits)));simp only[raiseNew];refine wpAny_bind (wpAny_handled ?_)
 first | rw[show A.in1.handled=none from hh] | rw[hh]
 exact wpAny_bind (wpAny_pure (wpAny_throw (hE _ _ (((Heap.SameBut.update ..).extBut.push _).push _) ⟨_,Heap.get?_push_size _ rfl,rfl⟩)))
end
theorem zdi {prog:Program}{w:World}{A:Around}(hh:A.handled=none)(it t:Addr)(hne:t≠it)(its:Array Value):Draws prog w A it [it,t] its.size (λi v=>its[i]?=some v) (λi h=>h.IsTupleIter it t i/\h.IsTuple t its) where
 live:=λ_ _ st=>let⟨o,ho,_⟩:=st.1;⟨o,ho⟩
 frame:=λ_ _ _ st hk=>⟨st.1.at λo e=>hk it (by simp) o e,let⟨o,ho,r⟩:=st.2;⟨o,hk t (by simp) o ho,r⟩⟩
 item:=λi s Q E hi st hQ=>zja st.1 st.2 (x:=its[i]) (by simp[hi]) λh' hit' hs'=>hQ _ h' s.toks (by simp[hi]) ⟨hit',st.2.extBut hs'.extBut hne⟩ hs'
 done:=λs Q E st hE=>ziZ hh st.1 st.2 (by simp) hE
open AutoSeq1 (wpAny_loadPart') in
theorem zjf (t:Addr)(its:Array Value)(n:Nat)(dct:Option Addr)(sl:Array (Option Value)):
  Meets (Builtin.«enumerate.__new__» ⟨[.type "enumerate",.ref t],[]⟩) (λ_ R s=>s.heap.get? t=some {cls:= .type "tuple",dict:=dct,data:= .seq its n,slots:=sl} /\
   R (.ok (.ret (.ref (s.heap.push {cls:= .type "tuple_iterator",data:= .fields #[.ref t,.int 0 0]}).objs.size)))
    {s with heap:=(s.heap.push {cls:= .type "tuple_iterator",data:= .fields #[.ref t,.int 0 0]}).push {cls:= .type "enumerate",data:= .fields #[.none,.bool false,.ref s.heap.objs.size,rawInt 0,.none,.none]}}):=
 .of_wp λprog w A R s h=>by
  obtain⟨hp,g,d,tk,os⟩:=s;obtain⟨ht,h⟩:=h;have hsub:=sub_enumerate;have hT:Heap.IsTuple (Shared.heap ⟨hp,g,d,tk,os⟩) t its:=⟨_,ht,rfl,n,rfl⟩
  wp_walk using wpAny_loadPart' ht
  refine wpAny_stack_any λst=>wpAny_pure ?_
  split
  ·rename_i c _ _ _ _ _
   cases(c==Value.type "enumerate") <;> (wp_walk using wpAny_loadPart' ht,wpAny_pyIter_tuple hT;exact⟨_,rfl,h⟩)
  ·wp_walk using wpAny_loadPart' ht,wpAny_pyIter_tuple hT
   exact⟨_,rfl,h⟩
theorem zi_ {prog:Program}{w:World}{A:Around}{E:Value->Shared->Prop}{s:Shared}{t:Addr}{its:Array Value}{Q:Value->Shared->Prop}(hT:s.heap.IsTuple t its)
  (h: ∀h',IsEnum h' (s.heap.objs.size+1) s.heap.objs.size 0 .none->h'.IsTupleIter s.heap.objs.size t 0->h'.objs.size=s.heap.objs.size+2->(∀b o,s.heap.get? b=some o->h'.get? b=some o)->Q (.ref (s.heap.objs.size+1)) {s with heap:=h'}):
  wpAny (model prog w) A (call (.type "enumerate") [.ref t]) Q E s:=by
 obtain⟨⟨c,dct,dt,sl⟩,ht,hc,n,hd⟩:=hT;cases hc;cases hd;refine callType_new F.called_enumerate (by decide) (F.typeCall_enumerate_1 _) (F.newCall_enumerate_1 _) (λobj=>F.args_object_init_2 obj _) F.entry_enumerate_new (zjf t its n dct sl) ⟨ht,?_⟩;have hz:(s.heap.push {cls:= .type "tuple_iterator",data:= .fields #[.ref t,.int 0 0]}).objs.size=s.heap.objs.size+1:=Heap.size_push ..;show _/\_;rw[hz];have he:IsEnum ((s.heap.push {cls:= .type "tuple_iterator",data:= .fields #[.ref t,.int 0 0]}).push {cls:= .type "enumerate",data:= .fields #[.none,.bool false,.ref s.heap.objs.size,rawInt 0,.none,.none]}) (s.heap.objs.size+1) s.heap.objs.size 0 .none:=by
  have:=Heap.get?_push_size (s.heap.push {cls:= .type "tuple_iterator",data:= .fields #[.ref t,.int 0 0]}) (o:= {cls:= .type "enumerate",data:= .fields #[.none,.bool false,.ref s.heap.objs.size,rawInt 0,.none,.none]}) rfl;rw[hz]at this;exact this
 exact⟨⟨_,he,rfl⟩,h _ he ⟨_,Heap.get?_push_of_some _ (Heap.get?_push_size _ rfl),rfl,rfl⟩ (by rw[Heap.size_push,hz]) λb o x=>Heap.get?_push_of_some _ (Heap.get?_push_of_some _ x)⟩
def iX (K:Frag)(a:Addr):It:=
 ⟨λi H=> ∃xs x,xM K H a xs/\xs[i]?=some x,λi H y H'=> ∃p x,H p=none/\(∀xs,xM K H a xs->xs[i]?=some x)/\y= .ref p/\H'=zQ H p (.tup [.int i,x]),λi H=> ∃xs,xM K H a xs/\xs.length=i⟩
theorem zoK {P:Program}{w:World}{K:Frag}{elts:List Expr}{k:Nat}{pos:Pos}(a e it:Addr)(ne:e≠it)(ae:a≠e)(ai:a≠it):
  qQ P w K (.Tuple elts k pos) (iX K a) [e,it] e (λi h=>(∃old,IsEnum h e it i old)/\h.IsTupleIter it a i) where
 mem:=by simp
 obj:=λi h st b hb=>by
  obtain⟨⟨old,he⟩,o,ho,c,d⟩:=st;rcases List.mem_cons.mp hb with rfl | hb
  ·exact⟨_,he,λv z=>by cases z⟩
  ·rw[List.mem_singleton.mp hb];exact⟨o,ho,λv z=>by rw[d]at z;cases z⟩
 keep:=λi h h' st kk=>by
  obtain⟨⟨old,he⟩,hit⟩:=st;exact⟨⟨old,kk e (by simp) _ he⟩,hit.at λo e'=>kk it (by simp) o e'⟩
 item:=by
  intro X hP hw hK hc i pins s σ H E I hf st hg;subst hP hw hK;obtain⟨xs,x,hq,hx⟩:=hg;obtain⟨its,rv,p,hz⟩:=I.tuple hq;obtain⟨u,hu,ru⟩:=rv.get hx;obtain⟨⟨old,he⟩,hit⟩:=st;have le:e < s.heap.objs.size:=Heap.lt_size he;have li:it < s.heap.objs.size:=by obtain⟨o,ho,_⟩:=hit;exact Heap.lt_size ho
  have hi:i < its.toArray.size:=by have:=(List.getElem?_eq_some_iff.mp hu).1;simpa using this
  refine wpAny_pyNext_enum_itemD (zdi (A:=X.A.in1) (I.ok.hd hc) it a ai its.toArray) he ⟨hit,p⟩ hi ne (by simp[ne,ae.symm]) λx' h' tk hPx ho hst hT hsz kk=>⟨_,rfl,?_⟩;have ex:x'=u:=by
   have h1:its.toArray[i]?=some u:=by simpa using hu
   rw[h1]at hPx;exact(Option.some.inj hPx).symm
  subst ex;refine wpAny_letOwnedTupleGo_enum (s:= {s with heap:=h',toks:=tk+1}) ho λh2 he2 hs2=> ?_;have nT:s.heap.objs.size≠e:=Nat.ne_of_gt le;have hT2:h2.get? s.heap.objs.size=some {cls:= .type "tuple",data:= .seq #[.int i tk,x']} :=(hs2.2 _ nT).trans hT;have I1:z5 X pins σ H {s with heap:=h2,toks:=tk+1} :=I.turnedL (fp:= [e,it]) (λb o hb q=>(hs2.2 b λz=>hb (by simp[z])).trans (kk b o (λz=>hb (by simp[z])) (λz=>hb (by simp[z])) q)) hf;have I2:z5 X pins σ (zQ H s.heap.objs.size (.tup [.int i,x])) {s with heap:=h2,toks:=tk+1} :=by
   refine za5 I1 I.fresh I.sz (Nat.ne_of_gt I.lt) (λx' c e' z=> ?_) (λp' hp z=> ?_) ⟨(by show 2<=sizeLine;decide),[.int i tk,x'],.cons ⟨_,rfl⟩ (.cons ru .nil),_,hT2,rfl,_,rfl,rfl⟩
   ·obtain⟨v,q⟩:=I.cell x' c e'
    have:=q.lt;rw[z]at this;exact Nat.lt_irrefl _ this
   ·have:=Heap.lt_size (I.pin p' hp).1;rw[z]at this;exact Nat.lt_irrefl _ this
  refine⟨.ref s.heap.objs.size,_,I2,rfl,⟨_,x,I.fresh,λys hy=>by rw[I.tuple_inj hy hq];exact hx,rfl,rfl⟩,⟨⟨x',by simpa using he2⟩,hst.1.at λo e'=>(hs2.2 it ne.symm).trans e'⟩,λb hb=> ?_⟩;have nb:b≠s.heap.objs.size:=by
   rcases List.mem_cons.mp hb with rfl | hb
   ·exact Nat.ne_of_lt le
   ·rw[List.mem_singleton.mp hb];exact Nat.ne_of_lt li
  rw[yR nb];exact(hf b hb).1
 done:=by
  intro X hP hw hK hc i pins s σ H E I hf st hg;subst hP hw hK;obtain⟨xs,hq,rfl⟩:=hg;obtain⟨its,rv,p,hz⟩:=I.tuple hq;obtain⟨⟨old,he⟩,hit⟩:=st;have hl:=rv.length;have hl2:xs.length=its.toArray.size:=by simpa using hl
  rw[hl2]at hit;exact wpAny_pyNext_enum_endD (zdi (A:=X.A.in1) (I.ok.hd hc) it a ai its.toArray) he ⟨hit,p⟩ λh' eb=>⟨rfl,I.turnedL (t':=s.toks) (fp:= [e,it]) (λb o hb q=>eb b o (λz=>hb (by simp[z])) q) hf⟩
 self:=λ_ _ _ _ _ st h=>by
  obtain⟨⟨old,he⟩,_⟩:=st;exact wpAny_pyIter_enum he h
section
variable {X:Cx} {elts:List Expr} {k:Nat} {pos':Pos}
def zko (K:Frag)(ta:TA):TI:=λσ H R=>ta σ H λvs H1=> ∃a,vs= [.ref a]/\(∃xs,xM K H1 a xs)/\R (iX K a) H1
theorem zmN {a:Expr}{ta:TA}{p pos:Pos}(hg:Gl X "enumerate")(hm:X.mg "enumerate" =none)(ha:PA X [a] ta)(hs:starEach [a] X.env= [(false,eval a X.env)]:=by rfl):PI X (.Tuple elts k pos') (.Call (.Name "enumerate" p) [a] [] pos) (zko X.K ta):=⟨λpins s σ H R I h=>by
 refine Call_ (sJ I hg hm boot_enumerate (callWith_type1 (y0 (ha pos pins s σ H _ I h) λus s1 ⟨vs,H1,I1,r1,q1⟩=> ?_) hs rfl));obtain⟨a,e,⟨xs,hq⟩,q⟩:=q1;subst e;obtain⟨u,rfl,ru⟩:=tW r1;cases ru;obtain⟨its,rv,p,hz⟩:=I1.tuple hq;have la:a < s1.heap.objs.size:=by obtain⟨o,ho,_⟩:=p;exact Heap.lt_size ho
 refine zi_ p λh' hE hI hsz kk=> ?_;refine wpAny_pyIter_enum hE ?_;refine⟨s1.heap.objs.size+1,[s1.heap.objs.size+1,s1.heap.objs.size],_,_,H1,rfl,I1.kept (t':=s1.toks) kk,zoK a _ _ (Nat.succ_ne_self _) (Nat.ne_of_lt (Nat.lt_succ_of_lt la)) (Nat.ne_of_lt la),⟨⟨.none,by simpa using hE⟩,hI⟩,λb hb=> ?_,q⟩;rcases List.mem_cons.mp hb with rfl | hb
 ·exact I1.fpOk (Nat.le_succ _) (I1.hok.fresh (Nat.le_succ _))
 ·rw[List.mem_singleton.mp hb];exact I1.fpOk (Nat.le_refl _) (I1.hok.fresh (Nat.le_refl _))⟩
end
end L2
namespace L3
open PySem PySem.Spec PyProof.Rows L2
section
variable {X:Cx} {a:Expr} {p pos:Pos} {TA:yK}
theorem zkw {K:Frag}{A:List Addr}{H:Hp}{a:Addr}{xs:List PV}(hz:xs.length<=sizeLine)(hv: ∀A' H' st,zZ A H A' H'->RS K A' H' st->∃vs,xM K H' a vs/\RVs K A' H' xs vs):rO K A H none (iX K a) (oM xs) where
 go:=λi A' H' st g s ok hi=>by
  obtain⟨vs,h,r⟩:=hv A' H' st g s;rw[mN,r.len]at hi;exact⟨vs,vs[i],h,by simp[hi]⟩
 yld:=λi x A' H' st v H2 hx g s ok y=>by
  obtain⟨p,x',hp,hx',rfl,rfl⟩:=y;obtain⟨vs,h,r⟩:=hv A' H' st g s;obtain⟨z,hz',rfl⟩:=fF hx;obtain⟨w,ew,rw'⟩:=r.get hz';have:=hx' vs h;rw[ew]at this;cases this;exact⟨.new hp,s.new hp,.val (.tup (.inl ⟨.inl x9,s.fresh hp⟩) (by show 2<=sizeLine;decide) (.cons (.int _) (.cons (rw'.grow (.new hp)) .nil)))⟩
 stop:=λA' H' st g s ok=>by
  obtain⟨vs,h,r⟩:=hv A' H' st g s;exact⟨vs,h,by rw[mN,r.len]⟩
 small:=by rw[mN];exact hz
def za3 (T:yK):uD:=λenv st Q=>T env st λzs st1=> ∃xs,zs= [.tup xs]/\Q none (oM xs) st1
theorem zfF {elts:List Expr}{k:Nat}{pos':Pos}(hg:Gl X "enumerate")(hm:X.mg "enumerate" =none)(ha:PA X [a] (vO X.K TA))(hs:starEach [a] X.env= [(false,eval a X.env)]:=by rfl):PI X (.Tuple elts k pos') (.Call (.Name "enumerate" p) [a] [] pos) (tJ X.K (za3 TA)):=by
 refine jM (zmN hg hm ha hs) λσ H R ⟨A,env,st,Q3,rel,h,k⟩=>⟨A,env,st,_,rel,h,λA1 H1 st1 zs vs g1 s1 e1 h1=> ?_⟩;obtain⟨xs,rfl,h1⟩:=h1;obtain⟨v,rfl,e⟩:=yU.one e1;cases e with | val e=>cases e with | tup t hz r=>
  exact⟨_,rfl,⟨_,t.sq⟩,k A1 H1 st1 _ _ _ g1 s1 (zkw (by rw[r.len];exact hz) λA' H' st' g s=>⟨_,(t.grow g).sq,r.grow g⟩) h1⟩
end
end L3
namespace L3
open PySem PySem.Spec PyProof.Rows L2
def qY (m:Nat)(y:PV):Option PV->Option PV
 | some (.obj i)=>if i=m then some y else some (.obj i)
 | o=>o
def j8 (m:Nat)(y:PV)(env:zH):zH:=env.map (qY m y)
section
variable {K:Frag} {A:List Addr} {H:Hp} {σ:St} {env:zH} {st0:z6} {xs:List PV}
theorem xE.freeze (r:xE K A H σ env (st0++ [.lst xs])):xE K (A.take st0.length) H σ (j8 st0.length (.lst xs) env) st0:=by
 have s:=r.rs.take st0.length;have et:(st0++ [PO.lst xs]).take st0.length=st0:=by rw[List.take_append_of_le_length (Nat.le_refl _),List.take_length]
 rw[et]at s;refine⟨s,by unfold j8;rw[List.length_map];exact r.len,λi x e=> ?_⟩;unfold j8 at e;rw[List.getElem?_map]at e;cases e1:env[i]? with
 | none=>rw[e1]at e;cases e
 | some o=>
  rw[e1]at e;have e2:qY st0.length (.lst xs) o=some x:=Option.some.inj e;cases o with
  | none=>cases e2
  | some y=>
   obtain⟨v,ev,re⟩:=r.at_ i y e1;refine⟨v,ev,?_⟩;cases re with
   | val rv=>
    have:y=x:=by
     cases y with
     | obj j=>cases rv
     | _=>exact Option.some.inj e2
    rw[<- this];exact .val (rv.less oV)
   | obj eo=>
    rename_i j a;unfold qY at e2;dsimp only at e2;by_cases hj:j=st0.length
    ·rw[if_pos hj]at e2
     cases e2;subst hj;obtain⟨vs,h1,rr,z⟩:=r.rs.at_ _ _ _ eo (by simp:(st0++ [PO.lst xs])[st0.length]?=some (.lst xs));refine .val (.lst (.inl ⟨.inl h1,λhm'=> ?_⟩) z (rr.less oV));obtain⟨k,hk,ek⟩:=List.getElem_of_mem hm';rw[List.length_take]at hk;have e3:A[k]?=some a:=by rw[<- List.getElem?_take_of_lt (show k < st0.length by omega),List.getElem?_eq_getElem (by rw[List.length_take];omega),ek]
     have:=(List.getElem?_inj (List.getElem?_eq_some_iff.mp e3).1 r.rs.nd).mp (e3.trans eo.symm);omega
    ·rw[if_neg hj]at e2
     cases e2;have hl:=r.rs.len;have hlt:=(List.getElem?_eq_some_iff.mp eo).1;rw[List.length_append,List.length_singleton]at hl;exact .obj (by rw[List.getElem?_take_of_lt (by omega)];exact eo)
end
section
variable {X:Cx} {a b:Stmt} {rst:List Stmt} {Ts Tu Tw:yY}
def zgY (T:yY):yY:=λD env st=>T {D with nx:=λenv' st'=> ∃st0 xs,st'=st0++ [.lst xs]/\st.length<=st0.length/\D.nx (j8 st0.length (.lst xs) env') st0} env st
theorem zny (h1:PS X a (xO X.K Ts))(h2:PS X b (xO X.K Tu))(h3:xJ X rst (xO X.K Tw)):xJ X (a::b::rst) (xO X.K (u8 (zgY (u8 Ts Tu)) Tw)):=
 jN (mW h1 (mW h2 h3)) λD σ H ⟨A,env,st,D3,rel,h,k⟩=>⟨A,env,st,_,rel,h,λA1 H1 σ1 env1 st1 g1 r1 h1=>⟨A1,env1,st1,_,r1,h1,λA2 H2 σ2 env2 st2 g2 r2 h2=>by
  obtain⟨st0,xs,rfl,hl,h2⟩:=h2;exact⟨_,_,st0,D3,r2.freeze,h2,k.after ((g1.trans g2).take (by rw[rel.rs.len];exact hl))⟩,k.rt.after g1,(k.after g1).bk,(k.after g1).ct⟩,k.rt,k.bk,k.ct⟩
end
end L3
namespace L3
open PySem PySem.Spec PyProof.Rows L2
section
variable {K:Frag} {A B:List Addr} {H H':Hp}
theorem xQ.val {a:Addr}{k:z8}{x:PV} : ∀{kvs:List (z8×PV)} {us:List (z8×V)},xQ K A H a kvs us->zU kvs k=some x->∃v,u9 us k=some v/\RE K A H x v
 | _,_,.nil,h=>by cases h
 | (k',x')::ps,(k2,v')::qs,.cons r t,h=>by
  have ek:k'=k2:=r.1;have rx:RR K A H a x' v':=r.2;subst ek;by_cases e:k'=k
  ·have e1:zU ((k',x')::ps) k=some x':=by unfold zU;rw[List.find?_cons,decide_eq_true e];rfl
   rw[e1]at h;cases h;refine⟨v',lW e,?_⟩;cases rx with
   | val r=>exact .val r
   | obj _ _ e=>exact .obj e
  ·have e1:zU ((k',x')::ps) k=zU ps k:=by unfold zU;rw[List.find?_cons,decide_eq_false e]
   rw[e1]at h;obtain⟨v,e2,r2⟩:=xQ.val t h;exact⟨v,(lV (p:=(k',v')) e).trans e2,r2⟩
theorem zZ.perm {C C':List Addr}(g:zZ A H (A++C) H')(h: ∀b,b∈C'->b∈C):zZ A H (A++C') H':=by
 obtain⟨⟨D,e,hD⟩,k,l⟩:=g;have:=List.append_cancel_left e;subst this;exact⟨⟨C',rfl,λb m=>hD b (h b m)⟩,k,l⟩
theorem RS.rot {p:Addr}{st tl:z6}{o:PO}(hl:A.length=st.length)(s:RS K (A++p::B) H (st++o::tl))(hn: ∀x∈tl,∀kvs,x≠PO.rcd kvs):RS K (A++(B++ [p])) H (st++(tl++ [o])):=by
 have hm: ∀b,b∈A++(B++ [p])->b∈A++p::B:=λb h=>by
  simp only[List.mem_append,List.mem_cons,List.not_mem_nil,or_false]at h⊢
  rcases h with h | h | h <;> simp[h]
 have hlen:=s.len;rw[List.length_append,List.length_append,List.length_cons,List.length_cons]at hlen;have hlB:B.length=tl.length:=by omega
 refine⟨?_,by simp only[List.length_append,List.length_cons,List.length_nil];omega,λi a u h1 h2=> ?_⟩
 ·have hp:(A++(B++ [p])).Perm (A++p::B):=List.Perm.append_left A (List.perm_append_singleton p B)
  exact hp.nodup_iff.mpr s.nd
 ·by_cases hi:i < A.length
  ·rw[List.getElem?_append_left hi]at h1
   rw[List.getElem?_append_left (by omega)]at h2;have h1':(A++p::B)[i]?=some a:=by rw[List.getElem?_append_left hi];exact h1
   refine(s.at_ i a u h1' (by rw[List.getElem?_append_left (by omega)];exact h2)).less hm λi' j q e l e'=> ?_;have hii:i'=i:=(List.getElem?_inj (List.getElem?_eq_some_iff.mp e).1 s.nd).mp (e.trans h1'.symm);subst hii;refine⟨i',by rw[List.getElem?_append_left hi];exact h1,l,?_⟩;rw[List.getElem?_append_left (by omega)]at e'⊢
   exact e'
  ·rw[List.getElem?_append_right (by omega)]at h1
   rw[List.getElem?_append_right (by omega)]at h2;by_cases hj:i < A.length+B.length
   ·rw[List.getElem?_append_left (by omega)]at h1
    rw[List.getElem?_append_left (by omega)]at h2;have hu:=hn u (List.mem_of_getElem? h2);have h1':(A++p::B)[i+1]?=some a:=by rw[List.getElem?_append_right (by omega),show i+1 - A.length=(i - A.length)+1 by omega,List.getElem?_cons_succ];exact h1
    have h2':(st++o::tl)[i+1]?=some u:=by rw[List.getElem?_append_right (by omega),show i+1 - st.length=(i - st.length)+1 by omega,List.getElem?_cons_succ];exact h2
    have oa:=s.at_ _ _ _ h1' h2';cases u with
    | lst xs=>obtain⟨vs,e,r,z⟩:=oa;exact⟨vs,e,r.less hm,z⟩
    | dct xs=>obtain⟨vs,e,r,z⟩:=oa;exact⟨vs,e,r.less hm,z⟩
    | tbl T pos q=>obtain⟨ea,ps,e,r⟩:=oa;exact⟨ea,ps,e,r.imp id λ⟨c',e1,e2,e3⟩=>⟨c',e1,e2,λm=>e3 (hm _ m)⟩⟩
    | itb kvs=>exact oa
    | rcd xs=>exact absurd rfl (hu xs)
   ·rw[List.getElem?_append_right (by omega)]at h1
    rw[List.getElem?_append_right (by omega)]at h2;have hz:i - A.length - B.length=0:=by
     have:=(List.getElem?_eq_some_iff.mp h1).1;rw[List.length_singleton]at this;omega
    rw[hz]at h1;rw[show i - st.length - tl.length=0 by omega]at h2;obtain rfl:p=a:=Option.some.inj h1;obtain rfl:o=u:=Option.some.inj h2;have h1':(A++p::B)[A.length]?=some p:=by rw[List.getElem?_append_right (Nat.le_refl _),Nat.sub_self];rfl
    refine(s.at_ A.length p o h1' (by rw[hl,List.getElem?_append_right (Nat.le_refl _),Nat.sub_self];rfl)).less hm λi' j q e l e'=> ?_;have hii:i'=A.length:=(List.getElem?_inj (List.getElem?_eq_some_iff.mp e).1 s.nd).mp (e.trans h1'.symm);subst hii;refine⟨A.length+B.length,by rw[List.getElem?_append_right (by omega),List.getElem?_append_right (by omega),show A.length+B.length - A.length - B.length=0 by omega];rfl,by omega,?_⟩;rw[List.getElem?_append_left (by omega)]at e'⊢
    exact e'
end
section
variable {X:Cx} {a b e:Expr} {es:List Expr} {pos p2:Pos} {Ta Tb:zD} {TA:yK}
def jR:R3:=λx y st Q=>match x with
 | .obj n=>(match y with
  | .str k=>(match st[n]? with | some (.rcd kvs)=>(match zU kvs (.inr k)with | some z=>Q z st | none=>False) | _=>False)
  | _=>False)
 | _=>False
theorem vX {k:Nat}(hr:zY k X.A):rP X (xU X.K jR):=by
 intro value slice pins s σ H v w vv ww Q I rv rw ⟨A,st,x,y,Q3,rs,ex,ey,h,k⟩ hs;unfold jR at h
 split at h
 ·split at h
  ·rename_i n y' kk
   split at h
   ·rename_i kvs q
    split at h
    ·rename_i z e
     cases ex with
     | val ex=>cases ex
     | obj eo=>
      obtain⟨us,h1,r,hzz⟩:=rs.at_ _ _ _ eo q;obtain⟨v',e2,r'⟩:=xQ.val r e;exact za_ hr value slice pins s σ H _ _ vv ww Q I rv rw ⟨_,v',rfl,.inl ⟨_,.inr kk,.inl h1,sI ey rfl,e2.symm⟩,k.now rs r' h⟩ hs
    ·exact h.elim
   ·exact h.elim
  ·exact h.elim
 ·exact h.elim
@[simp] theorem wP {n:Nat}{x:Str}{st:z6}{Q:K3} :jR (.obj n) (.str x) st Q=(match st[n]? with | some (.rcd kvs)=>(match zU kvs (.inr x)with | some z=>Q z st | none=>False) | _=>False):=rfl
def zby:V->V->V->Hp->(Hp->Prop)->Prop:=λo i v H Q=> ∃a us k,o= .ref a/\i=kV k/\H a=some (.dK us)/\us.length < sizeLine/\Q (zQ H a (.dK (wL us k v)))
theorem zgc {k:Nat}(hr:zY k X.A):kL X zby:=by
 intro pins s σ H o i v ov iv u Q I ro ri rv ⟨a,us,kk,eo,ei,h1,hl,q⟩;subst eo ei;cases ro;exact zcZ (by have:=hr.units;omega) I (.inl ⟨us,kk,h1,rfl,hl,rfl⟩) ri rv λs' I'=>⟨_,I',q⟩
theorem zbg {us:List (z8×V)}{k:z8}{v:V}(h:k∉us.map (·.1)):wL us k v=us++ [(k,v)]:=by
 unfold wL;rw[if_neg];intro z;obtain⟨p,hp,e⟩:=List.any_eq_true.mp z;exact h (List.mem_map.mpr ⟨p,hp,of_decide_eq_true e⟩)
theorem zeT: ∀{us acc:List (z8×V)},(us.map (·.1)).Nodup->(∀p∈us,p.1∉acc.map (·.1))->sK acc us=acc++us
 | [],acc,_,_=>(List.append_nil _).symm
 | p::us,acc,hn,hd=>by
  rw[List.map_cons,List.nodup_cons]at hn;show sK (wL acc p.1 p.2) us=_;rw[zbg (hd p (List.mem_cons_self ..)),zeT hn.2 λq hq=> ?_]
  ·simp
  ·rw[List.map_append,List.mem_append]
   rintro(h | h)
   ·exact hd q (List.mem_cons_of_mem _ hq) h
   ·rw[List.map_cons,List.map_nil,List.mem_singleton]at h
    exact hn.1 (h▸List.mem_map_of_mem hq)
def tT (n:Nat):PV->PV
 | .obj j=>if j < n then .obj j else .obj (j - 1)
 | x=>x
theorem zfQ {K:Frag}{A B:List Addr}{H:Hp}{p:Addr} : ∀{kvs:List (z8×PV)} {qs:List (V×V)},(A++(B++ [p])).Nodup->hZ K (A++p::B) H (kvs.map λkv=>(tO kv.1,kv.2)) qs->(∀q∈kvs,q.2≠ .obj A.length)->
  ∃us:List (z8×V),qs=us.map (λkv=>(kV kv.1,kv.2))/\us.map (·.1)=kvs.map (·.1)/\xQ K (A++(B++ [p])) H p (kvs.map λq=>(q.1,tT A.length q.2)) us
 | [],qs,_,h,_=>by cases h;exact⟨[],rfl,rfl,.nil⟩
 | kv::kvs,qs,hd,h,hn=>by
  have hm: ∀b,b∈A++(B++ [p])->b∈A++p::B:=λb h=>by
   simp only[List.mem_append,List.mem_cons,List.not_mem_nil,or_false]at h⊢
   rcases h with h | h | h <;> simp[h]
  cases h with
  | @cons _ b _ _ r t=>
   obtain⟨us,rfl,ek,rk⟩:=zfQ hd t λq hq=>hn q (List.mem_cons_of_mem _ hq);obtain⟨q1,q2⟩:=b;have e1:q1=kV kv.1:=sI r.1 zeH;subst e1;refine⟨(kv.1,q2)::us,rfl,by rw[List.map_cons,List.map_cons,ek],.cons ⟨rfl,?_⟩ rk⟩;have h0:=hn kv (List.mem_cons_self ..);obtain⟨k0,x0⟩:=kv;have r2:=r.2;dsimp only at r2 h0⊢
   have ip:(A++(B++ [p]))[A.length+B.length]?=some p:=by rw[List.getElem?_append_right (by omega),List.getElem?_append_right (by omega),show A.length+B.length - A.length - B.length=0 by omega];rfl
   cases r2 with
   | val rv=>
    have:tT A.length x0=x0:=by
     cases x0 with
     | obj j=>cases rv
     | _=>rfl
    rw[this];exact .val (rv.less hm)
   | obj eo=>
    rename_i j q;have hjA:j≠A.length:=λz=>h0 (by rw[z]);unfold tT;dsimp only
    split
    ·rename_i hj
     refine .obj ip (by omega) ?_;rw[List.getElem?_append_left hj]at eo⊢
     exact eo
    ·rename_i hj
     have hb:=(List.getElem?_eq_some_iff.mp eo).1;rw[List.length_append,List.length_cons]at hb;refine .obj ip (by omega) ?_;rw[List.getElem?_append_right (by omega),show j - A.length=(j - 1 - A.length)+1 by omega,List.getElem?_cons_succ]at eo;rw[List.getElem?_append_right (by omega),List.getElem?_append_left (by omega)];exact eo
theorem xQ.append {K:Frag}{A:List Addr}{H:Hp}{a:Addr} : ∀{x y:List (z8×PV)} {c d:List (z8×V)},xQ K A H a x c->xQ K A H a y d->xQ K A H a (x++y) (c++d)
 | _,_,_,_,.nil,h=>h
 | _,_,_,_,.cons r t,h=> .cons r (xQ.append t h)
def zgJ (K:Frag)(i:Nat)(k5 k6:Str):TS:=lR (zgI (zbJ zbK (zbJ zbK zgF))) (ze0 K 2 (zay (zaz (iB i) (tC (.str k5)) zby) (zay (zaz (iB i) (tC (.str k6)) zby) zez)))
def n4 (n:Nat)(k5 k6:Str)(kvs:List (z8×PV))(m:Nat):List (z8×PV):=kvs.map (λq=>(q.1,tT n q.2))++ [(.inr k5,.obj m),(.inr k6,.obj (m+1))]
def zbV (i:Nat)(k5 k6:Str)(trs:List (zD×zD)):yY:=λD env st=>nO trs env (st++ [.dct []]) λps st2=> ∃(kvs:List (z8×PV)) (tl:z6),ps=kvs.map (λkv=>(tO kv.1,kv.2))/\kvs.length<=13/\st2=st++ .dct []::tl/\
 (∀x∈tl,∀kvs,x≠PO.rcd kvs)/\(∀q∈kvs,q.2≠ .obj st.length)/\((kvs.map λ(q:z8×PV)=>q.1)++ [Sum.inr k5,Sum.inr k6]).Nodup/\i < env.length/\
 D.nx (env.set i (some (.obj (st.length+tl.length+2)))) (st++(tl++ [.dct [],.dct [],.rcd (n4 st.length k5 k6 kvs (st.length+tl.length))]))
theorem znz {i:Nat}{x:Str}{k5 k6:Str}{pos' dpos:Pos}{keys:List (Option Expr)}{values:List Expr}{trs:List (zD×zD)}{s2:Stmt}{rst:List Stmt}{Tw:yY}(hN:X.N.Nodup)(hi:X.N[i]?=some x)(hx:tZ X.env.scope x)
  (h:sS X dpos keys values (kT X.K trs)) (hall:keys.all (·.isSome)=true) (hl:keys.length=values.length) (h0:keys≠ []) (h15:keys.length<=15) (h2:PS X s2 (zgJ X.K i k5 k6)) (h3:xJ X rst (xO X.K Tw))
  (hs:swapsWith (.Dict keys values dpos) (some (.Name x pos')) pos.line X.env=pure false:=by rfl) (hf:X.fn x=true∨X.env.scope.names.lookup x=some .local:=by first | exact .inl rfl | exact .inr rfl | assumption):
  xJ X (.Assign [.Name x pos'] (.Dict keys values dpos) pos::s2::rst) (xO X.K (u8 (zbV i k5 k6 trs) Tw)):=by
 refine jN (mW (zfA hN hi hx (zf1 h hall hl h0 h15) hs hf) (mW h2 h3)) λD σ H ⟨A,env,st,D3,rel,hT,k⟩=> ?_;intro p hp;have hT':=hT;unfold u8 zbV at hT';have g0:zZ A H (A++ [p]) (zQ H p (.dK [])):= .newObj hp;have rs1:RS X.K (A++ [p]) (zQ H p (.dK [])) (st++ [.dct []]):=rel.rs.newObj (q:= .dct []) hp ⟨[],x9,.nil,Nat.zero_le _⟩;refine zaY (rel.grow g0 rs1) hT' λA2 H2 st2 ps qs g s2 e hQ=> ?_;obtain⟨kvs,tl,rfl,h13,rfl,hno,hne,hnd,hie,q⟩:=hQ;have hAl:=rel.rs.len;obtain⟨B,eA,hB⟩:=g.ext;rw[List.append_assoc,List.singleton_append]at eA;subst eA;have g2:zZ A H (A++p::B) H2:=g0.trans g;have s3:=s2.rot hAl hno;rw[<- hAl]at hne;obtain⟨us,rfl,ek,rr⟩:=zfQ s3.nd e hne;have hpA:(A++p::B)[A.length]?=some p:=by rw[List.getElem?_append_right (Nat.le_refl _),Nat.sub_self];rfl
 obtain⟨us0,e0,r0,_⟩:=s2.at_ _ _ _ hpA (by rw[hAl,List.getElem?_append_right (Nat.le_refl _),Nat.sub_self];rfl);cases r0;have hul:us.length=kvs.length:=by rw[<- List.length_map (f:=(·.1)),ek,List.length_map]
 refine⟨e0,us,rfl,by omega,?_⟩;have hnd':=List.nodup_append.mp hnd;have hm0:sK [] us=us:=by rw[zeT (by rw[ek];exact hnd'.1) (λ_ _ z=>by simp at z)];rfl
 rw[hm0];have g3:zZ A H (A++(B++ [p])) H2:=g2.perm λb hb=>by
  simp only[List.mem_append,List.mem_cons,List.not_mem_nil,or_false]at hb⊢
  rcases hb with hb | hb <;> simp[hb]
 have hp3:(A++(B++ [p]))[A.length+B.length]?=some p:=by rw[List.getElem?_append_right (by omega),List.getElem?_append_right (by omega),show A.length+B.length - A.length - B.length=0 by omega];rfl
 have mp:p∈A++(B++ [p]):=List.mem_of_getElem? hp3;have hlB:B.length=tl.length:=by
  have:=s2.len;rw[List.length_append,List.length_append,List.length_cons,List.length_cons]at this;omega
 have gp:zZ (A++(B++ [p])) H2 (A++(B++ [p])) (zQ H2 p (.dK us)):= .put mp;have s4:RS X.K (A++(B++ [p])) (zQ H2 p (.dK us)) (st++(tl++ [.rcd (kvs.map λq=>(q.1,tT A.length q.2))])):=by
  have:=s3.put (o:= .dK us) (q:= .rcd (kvs.map λq=>(q.1,tT A.length q.2))) hp3 ⟨us,x9,xQ.grow gp rr,by rw[sizeLine_eq];omega⟩;rw[List.set_append_right _ _ (by omega),List.set_append_right _ _ (by omega),show A.length+B.length - st.length - tl.length=0 by omega]at this;exact this
 show zgJ X.K i k5 k6 _ (σ.set i (some (.ref p))) (zQ H2 p (.dK us));intro p3 hp3n p4 hp4n;refine⟨by show 2<=sizeLine;decide,λp5 hp5n=>⟨p5,[.ref p3,.ref p4],rfl,.inl (.inl x9),rfl,?_⟩⟩;have hσ:(σ.set i (some (V.ref p)))[i]?=some (some (.ref p)):=by
  rw[List.getElem?_set_self (by rw[<- rel.len];exact hie)]
 have g5:zZ (A++(B++ [p])) (zQ H2 p (.dK us)) (A++(B++ [p])++ [p3]) (zQ (zQ H2 p (.dK us)) p3 (.dK [])):= .newObj hp3n;have s5:=s4.newObj (p:=p3) (o:= .dK []) (q:= .dct []) hp3n ⟨[],x9,.nil,Nat.zero_le _⟩;have s6:=s5.newObj (p:=p4) (o:= .dK []) (q:= .dct []) hp4n ⟨[],x9,.nil,Nat.zero_le _⟩;have g6:=g5.trans (.newObj (o:= .dK []) hp4n);have s7:=s6.new (o:= .tup [.ref p3,.ref p4]) hp5n;have g7:=g6.trans (.new (o:= .tup [.ref p3,.ref p4]) hp5n);have hpp3:p≠p3:=λz=>by rw[<- z,x9]at hp3n;cases hp3n
 have hpp4:p≠p4:=λz=>by rw[<- z,yR hpp3,x9]at hp4n;cases hp4n
 have hpp5:p≠p5:=λz=>by rw[<- z,yR hpp4,yR hpp3,x9]at hp5n;cases hp5n
 have eA':A++(B++ [p])++ [p3]++ [p4]=(A++B)++p:: [p3,p4]:=by simp
 have eS':st++(tl++ [PO.rcd (kvs.map λq=>(q.1,tT A.length q.2))])++ [PO.dct []]++ [PO.dct []]=(st++tl)++PO.rcd (kvs.map λq=>(q.1,tT A.length q.2)):: [.dct [],.dct []]:=by simp
 rw[eA',eS']at s7;have s8:=s7.rot (by rw[List.length_append,List.length_append];omega) (by intro x hx kvs z;subst z;simp at hx);rw[eA']at g7;have gAll:zZ A H (A++(B++p:: [p3,p4])) (zQ (zQ (zQ (zQ H2 p (.dK us)) p3 (.dK [])) p4 (.dK [])) p5 (.tup [.ref p3,.ref p4])):=by
  have:=(g3.trans gp).trans g7;rw[List.append_assoc]at this;exact this
 have g8:zZ A H (A++(B++([p3,p4]++ [p]))) (zQ (zQ (zQ (zQ H2 p (.dK us)) p3 (.dK [])) p4 (.dK [])) p5 (.tup [.ref p3,.ref p4])):=gAll.perm λb hb=>by
  simp only[List.mem_append,List.mem_cons,List.not_mem_nil,or_false]at hb⊢
  rcases hb with hb | (hb | hb) | hb <;> simp[hb]
 rw[<- List.append_assoc]at g8;have hat:(A++B++([p3,p4]++ [p]))[A.length+B.length+2]?=some p:=by
  rw[List.getElem?_append_right (by rw[List.length_append];omega),List.length_append,show A.length+B.length+2 - (A.length+B.length)=2 by omega];rfl
 obtain⟨us8,e8,r8,_⟩:=s8.at_ _ _ _ hat (by rw[List.getElem?_append_right (by rw[List.length_append];omega),List.length_append,show A.length+B.length+2 - (st.length+tl.length)=2 by omega];rfl);have e9:us8=us:=by
  rw[yR hpp5,yR hpp4,yR hpp3,x9]at e8;cases e8;rfl
 subst e9;have k1:(Sum.inr k5:z8)∉us8.map (·.1):=by
  rw[ek];intro z;exact hnd'.2.2 _ z _ (by simp) rfl
 have hk56:(Sum.inr k5:z8)≠ .inr k6:=by
  have:=hnd'.2.1;simp at this;intro z;cases z;exact this rfl
 have k2:(Sum.inr k6:z8)∉(us8++ [(Sum.inr k5,V.ref p3)]).map (λ(q:z8×V)=>q.1):=by
  rw[List.map_append,List.mem_append,ek];rintro(z | z)
  ·exact hnd'.2.2 _ z _ (by simp) rfl
  ·simp only[List.map_cons,List.map_nil,List.mem_singleton]at z
   exact hk56 z.symm
 refine⟨.ref p3,[.ref p4],rfl,.ref p,hσ,p,us8,.inr k5,rfl,rfl,e8,by rw[sizeLine_eq];omega,?_⟩;rw[zbg k1];refine⟨.ref p4,[],rfl,.ref p,hσ,p,_,.inr k6,rfl,rfl,x9,by rw[sizeLine_eq,List.length_append,List.length_singleton];omega,?_⟩;rw[zbg k2];refine⟨rfl,?_⟩;have m8:p∈A++B++([p3,p4]++ [p]):=List.mem_of_getElem? hat;have g9:=(zZ.put (H:=zQ (zQ (zQ (zQ H2 p (.dK us8)) p3 (.dK [])) p4 (.dK [])) p5 (.tup [.ref p3,.ref p4])) (o:=HO.dK (us8++ [(Sum.inr k5,V.ref p3)])) m8).trans (zZ.put (o:=HO.dK (us8++ [(Sum.inr k5,V.ref p3)]++ [(Sum.inr k6,V.ref p4)])) m8);have a3:(A++B++([p3,p4]++ [p]))[A.length+B.length]?=some p3:=by
  rw[List.getElem?_append_right (by rw[List.length_append];omega),List.length_append,Nat.sub_self];rfl
 have a4:(A++B++([p3,p4]++ [p]))[A.length+B.length+1]?=some p4:=by
  rw[List.getElem?_append_right (by rw[List.length_append];omega),List.length_append,show A.length+B.length+1 - (A.length+B.length)=1 by omega];rfl
 have r9:=xQ.append (xQ.append (xQ.grow g9 r8) (y:= [(Sum.inr k5,.obj (A.length+B.length))]) (d:= [(Sum.inr k5,V.ref p3)]) (.cons ⟨rfl,.obj hat (by omega) a3⟩ .nil)) (y:= [(Sum.inr k6,.obj (A.length+B.length+1))]) (d:= [(Sum.inr k6,V.ref p4)]) (.cons ⟨rfl,.obj hat (by omega) a4⟩ .nil);have s9:=s8.put (q:= .rcd ((kvs.map λ(q:z8×PV)=>(q.1,tT A.length q.2))++ [(Sum.inr k5,.obj (A.length+B.length))])) hat (o:=HO.dK (us8++ [(Sum.inr k5,V.ref p3)])) ⟨_,x9,xQ.append (xQ.grow (.put m8) r8) (.cons ⟨rfl,.obj hat (by omega) a3⟩ .nil),by rw[sizeLine_eq,List.length_append,List.length_singleton];omega⟩;have s10:=s9.put (q:= .rcd (n4 A.length k5 k6 kvs (A.length+B.length))) hat (o:=HO.dK (us8++ [(Sum.inr k5,V.ref p3)]++ [(Sum.inr k6,V.ref p4)])) ⟨_,x9,by
  have:=r9;rw[List.append_assoc (kvs.map _)]at this;exact this,by rw[sizeLine_eq,List.length_append,List.length_append,List.length_singleton,List.length_singleton];omega⟩
 have g10:=g8.trans g9;have eFin:(((st++tl)++([PO.dct [],.dct []]++ [PO.rcd (kvs.map λq=>(q.1,tT A.length q.2))])).set (A.length+B.length+2) (.rcd ((kvs.map λq=>(q.1,tT A.length q.2))++ [(Sum.inr k5,.obj (A.length+B.length))]))).set (A.length+B.length+2) (.rcd (n4 A.length k5 k6 kvs (A.length+B.length)))=st++(tl++ [.dct [],.dct [],.rcd (n4 st.length k5 k6 kvs (st.length+tl.length))]):=by
  rw[List.set_set,List.set_append_right _ _ (by rw[List.length_append];omega),List.length_append,show A.length+B.length+2 - (st.length+tl.length)=2 by omega,List.append_assoc,hAl,hlB];rfl
 rw[eFin]at s10;have hrel:=(rel.grow g10 s10).set i (x:= .obj (st.length+tl.length+2)) (v:= .ref p) (.obj (by rw[<- hAl,<- hlB];exact hat));exact⟨_,_,_,D3,hrel,q,k.after g10⟩
end
end L3
namespace L3
open PySem PySem.Spec PyProof.Rows L2
namespace LR
theorem no_len:typeLookup (.type "list_reverseiterator") "__len__" =pure none:=by rw[typeLookup_type,builtinLookup_eq_fast];kernel_rfl
theorem hint_at:typeLookup (.type "list_reverseiterator") "__length_hint__" =pure (some (.builtin "list_reverseiterator.__length_hint__")):=by rw[typeLookup_type,builtinLookup_eq_fast];kernel_rfl
end LR
section
variable {prog:Program} {w:World} {A:Around} {E:Value->Shared->Prop} {s:Shared}
theorem zkm {I l:Addr}{i:Int}{Q:Bool->Shared->Prop}(hit:s.heap.IsRevIter I l i)(h:Q false s):wpAny (model prog w) A (Builtin.List.listLengthHint (.ref I)) Q E s:=by
 have hT:=hit.typeIs;unfold Builtin.List.listLengthHint;refine wpAny_bind (wpAny_specialOf hT LR.no_len ?_);show wpAny _ A (specialOf (Value.ref I) (Str.ofString "__length_hint__") >>= _) _ _ _;refine wpAny_bind (wpAny_specialOf hT LR.hint_at ?_)
 (generalize hid:("list_reverseiterator.__length_hint__" :String)=id0;(fail_if_success (clear hid id0));wp_delta;rw[show splitId id0=some ("list_reverseiterator","__length_hint__")from by subst hid;decide+kernel];subst hid)
 refine wpAny_bind (wpAny_isInstance (b:=true) hT (by rw[isSubtype_type];kernel_rfl) ?_);refine wpAny_ite_split (λhab=>absurd hab (by decide)) (λ_=> ?_);refine wpAny_ite_split (λ_=> ?_) (λhab=>absurd (by decide+kernel) hab);refine wpAny_ite_split (λhab=>absurd hab (by decide+kernel)) (λ_=> ?_);exact wpAny_pure h
abbrev zc5 (items:Array Value):Nat->Value->Prop:=λi v=>items[items.size - 1 - i]?=some v
theorem zjn {R:Result->Shared->Prop}{I l S:Addr}{items:Array Value}(hh:A.handled=none)(hit:s.heap.IsRevIter I l ((items.size:Int) - 1))(hl:s.heap.IsList l items)(hlI:l≠I)(hSI:S≠I)(hSl:S≠l)(res:Value)(c₀:Nat)
  (hS:s.heap.get? S=some {cls:= .type "list",data:= .seq #[] c₀})
  (hR: ∀h' tk acc' c',(∀b o,b≠S->b≠I->s.heap.get? b=some o->h'.get? b=some o)->h'.get? S=some {cls:= .type "list",dict:=none,data:= .seq acc' c',slots:= #[]} ->ItemsOf (zc5 items) acc' items.size->R (.ok (.ret res)) {s with heap:=h',toks:=tk}) (hn:items.size<=sizeLine):
  wpAny (model prog w) A.in1 (Builtin.List.listExtendWith (.ref S) (.ref I) res)
   (λfin s'=>match fin with | .done f=>R (.ok f) s' | .again c'=>c'.quiet=true/\codeAny (model prog w) A c' R s') (λe s'=>R (.error e) s') s:=by
 have hSf:S∉ [I,l]:=by simp only[List.mem_cons,List.not_mem_nil,or_false,not_or];exact⟨hSI,hSl⟩
 have W:=Walks.listRev (prog:=prog) (w:=w) (A:=A.in1) hh I l hlI items;have st:0<=items.size/\s.heap.IsRevIter I l ((items.size:Int) - 1 - ((0:Nat):Int))/\s.heap.IsList l items:=⟨Nat.zero_le _,by simpa using hit,hl⟩;have key: ∀(h:Heap) (c₁ tk:Nat),(0<=items.size/\h.IsRevIter I l ((items.size:Int) - 1 - ((0:Nat):Int))/\h.IsList l items)->(∀b o,b≠S->s.heap.get? b=some o->h.get? b=some o)->
   h.get? S=some {cls:= .type "list",data:= .seq #[] c₁} ->codeAny (model prog w) A (.builtin "list.extend.loop" ⟨[.ref S,.ref I,res],[]⟩) R {s with heap:=h,toks:=tk} :=by
  intro h c₁ tk hst hk hS₁;refine codeAny_extend_loopS W.toS hn S hSf res items.size 0 _ #[] c₁ rfl (Nat.zero_le _) hst hS₁ (ItemsOf.nil _) λs' acc' c' hm hS' hacc=> ?_;rw[Moved.eq_with hm];refine hR s'.heap s'.toks acc' c' (λb o hb hbI e=>hm.heap b o (λhmem=> ?_) (hk b o hb e)) hS' hacc;rcases List.mem_cons.mp hmem with e' | hmem
  ·exact hb e'
  ·exact hbI (List.mem_singleton.mp hmem)
 unfold Builtin.List.listExtendWith;refine wpAny_bind (wpAny_typeOf (T:= "list_reverseiterator") hit.typeIs ?_);have h1:Builtin.List.listSameRef (.ref S) (.ref I)=false:=by simp[Builtin.List.listSameRef,hSI]
 have h2:(Value.type "list_reverseiterator" ==Value.type "list")=false:=by decide
 have h3:(Value.type "list_reverseiterator" ==Value.type "tuple")=false:=by decide
 simp only[h1,h2,h3,Bool.or_false,Bool.false_eq_true,if_false];refine wpAny_bind (wpAny_pyIter_revIter hit ?_);refine wpAny_bind (wpAny_holding (zkm hit ?_));refine wpAny_ite_split (λ_=> ?_) (λ_=>wpAny_pure ⟨plainId_quiet PySem.F.plain_extend_loop _,key _ c₀ _ st (λb o _ e=>e) hS⟩);refine wpAny_bind (wpAny_rule ?_);refine wpAny_bind ?_;show wpAny _ _ (updateSeq S (·.push .none) >>= λ_=>updateSeq S (·.pop)) _ _ _;refine wpAny_bind (wpAny_updateSeq hS rfl ?_);have hS₂:=Heap.get?_update_self (Obj.mapSeq (·.push Value.none)) hS rfl;refine wpAny_updateSeq (hz:=by seq_fits) hS₂ rfl ?_;have hS₃:=Heap.get?_update_self (Obj.mapSeq (·.pop)) hS₂ rfl;refine wpAny_pure ⟨plainId_quiet PySem.F.plain_extend_loop _,key _ _ _ ?_ (λb o hb e=> ?_) hS₃⟩
 ·refine W.frame 0 _ _ st λb hb o e=> ?_
  have hbS:b≠S:=λh=>hSf (h▸hb);exact(Heap.get?_update_other _ _ (Ne.symm hbS)).trans ((Heap.get?_update_other _ _ (Ne.symm hbS)).trans e)
 ·exact(Heap.get?_update_other _ _ (Ne.symm hb)).trans ((Heap.get?_update_other _ _ (Ne.symm hb)).trans e)
theorem ziB {Q:Value->Shared->Prop}{I l:Addr}{items:Array Value}(hh:A.handled=none)(hit:s.heap.IsRevIter I l ((items.size:Int) - 1))(hl:s.heap.IsList l items)(hlI:l≠I)(hn:items.size<=sizeLine)
  (hQ: ∀h' tk acc' c',(∀b o,b≠I->s.heap.get? b=some o->h'.get? b=some o)->h'.get? s.heap.objs.size=some {cls:= .type "list",dict:=none,data:= .seq acc' c',slots:= #[]} ->ItemsOf (zc5 items) acc' items.size->Q (.ref s.heap.objs.size) {s with heap:=h',toks:=tk}):
  wpAny (model prog w) A (call (.type "list") [.ref I]) Q E s:=by
 refine callType_codes (Q₁:=λobj s₁=>obj= .ref s.heap.objs.size/\s₁= {s with heap:=s.heap.push {cls:= .type "list",data:= .seq #[]}}) PySem.F.called_list (PySem.F.typeCall_list_1 _) PySem.F.entry_list_init
  (code_list_new _ ⟨rfl,rfl⟩) λobj s₁ h₁=> ?_
 obtain⟨rfl,rfl⟩:=h₁;have hIl:I < s.heap.objs.size:=by obtain⟨o,e,_⟩:=id hit;exact Heap.lt_size e
 have hll:l < s.heap.objs.size:=by obtain⟨o,e,_⟩:=id hl;exact Heap.lt_size e
 have kp: ∀b o,s.heap.get? b=some o->(s.heap.push {cls:= .type "list",data:= .seq #[]}).get? b=some o:=λb o e=>Heap.get?_push_of_some _ e;generalize hS':s.heap.objs.size=S at *;have hS:(s.heap.push {cls:= .type "list",data:= .seq #[]}).get? S=some {cls:= .type "list",data:= .seq #[]} :=by rw[<- hS'];exact Heap.get?_push_size _ rfl
 refine⟨⟨_,hS,rfl⟩,PySem.F.args_list_init_2 _ _,?_⟩;show wpAny _ _ (do let old <- Builtin.List.listItems (.ref S);Builtin.List.listUpdate (.ref S) (λ_=> #[]);letGo old.toList.reverse;Builtin.List.listExtendWith (.ref S) (.ref I) .none) _ _ _;refine wpAny_bind ?_;unfold Builtin.List.listItems;refine wpAny_bind (wpAny_seqItems hS rfl (wpAny_pure ?_));show wpAny _ _ (updateSeq S (λ_=> #[]) >>= λ_=>letGo (#[]:Array Value).toList.reverse >>= λ_=>Builtin.List.listExtendWith (.ref S) (.ref I) .none) _ _ _;refine wpAny_bind (wpAny_updateSeq hS rfl ?_);have hS₂:=Heap.get?_update_self (Obj.mapSeq (λ_=>(#[]:Array Value))) hS rfl;have oth: ∀b o,b≠S->s.heap.get? b=some o->((s.heap.push {cls:= .type "list",data:= .seq #[]}).update S (Obj.mapSeq (λ_=>(#[]:Array Value)))).get? b=some o:=
  λb o hb e=>(Heap.get?_update_other _ _ (Ne.symm hb)).trans (kp b o e)
 refine wpAny_bind (wpAny_letGo ?_);refine zjn (A:=A.in1) hh (hit.at λo e=>oth _ _ (Nat.ne_of_lt hIl) e) (hl.at λo e=>oth _ _ (Nat.ne_of_lt hll) e) hlI (Nat.ne_of_gt hIl) (Nat.ne_of_gt hll) .none _ hS₂ (λh' tk acc' c' hk hSS hacc=> ?_) hn;refine⟨rfl,?_⟩;exact hQ h' tk acc' c' (λb o hb e=>hk b o (by rw[<- hS'];exact Nat.ne_of_lt (Heap.lt_size e)) hb (oth b o (by rw[<- hS'];exact Nat.ne_of_lt (Heap.lt_size e)) e)) hSS hacc
end
section
variable {X:Cx}
def zo2 (K:Frag)(te:TE):TE:=λσ H Q=>te σ H λx H1=> ∃(a:Addr) (xs:List V),x= .ref a/\yX K H1 a xs/\∀p,H1 p=none->Q (.ref p) (zQ H1 p (.lst xs.reverse))
theorem zm7 {e:Expr}{te:TE}{p p2 pos pos2:Pos}(hc:X.calm=true)(hg:Gl X "list")(hm:X.mg "list" =none)(hg2:Gl X "reversed")(hm2:X.mg "reversed" =none)(he:PE X e te)
  (hs:starEach [e] X.env= [(false,eval e X.env)]) (hs2:starEach [.Call (.Name "reversed" p2) [e] [] pos2] X.env= [(false,eval (.Call (.Name "reversed" p2) [e] [] pos2) X.env)]):
  PE X (.Call (.Name "list" p) [.Call (.Name "reversed" p2) [e] [] pos2] [] pos) (zo2 X.K te):=⟨λpins s σ H Q I h=>by
 refine wpAny_Call_Name_kw (sJ I hg hm (show bootBuiltins "list" =some (.type "list") by decide+kernel) (callWith_type1 ?_ hs2 rfl));rw[hs2];show wpAny _ _ (spliced ((false,eval (.Call (.Name "reversed" p2) [e] [] pos2) X.env)::backTo pos [])) _ _ s;refine Calls.spliced_cons (wpAny_Call_Name_kw (sJ I hg2 hm2 zi4 (callWith_type1 ?_ hs rfl)));rw[hs];show wpAny _ _ (spliced ((false,eval e X.env)::backTo pos2 [])) _ _ s;refine Calls.spliced_cons (y0 (he pins s σ H _ I h) λu s1 ⟨x,H1,I1,r1,q1⟩=>Calls.spliced_nil ?_);obtain⟨a,xs,rfl,hq,q⟩:=q1;cases r1;obtain⟨its,rv,ip,hz⟩:=I1.list hq;have hl:=rv.length;have hzz:its.toArray.size<=sizeLine:=by rw[List.size_toArray];omega
 have al:a < s1.heap.objs.size:=by obtain⟨o,e,_⟩:=id ip.isList;exact Heap.lt_size e
 refine call_reversed_list ip.isList ?_;refine Calls.spliced_nil ?_;have kp: ∀b o,s1.heap.get? b=some o->(s1.heap.push (revObj a ((its.toArray.size:Int) - 1))).get? b=some o:=λb o e=>Heap.get?_push_of_some _ e;refine ziB (I:=s1.heap.objs.size) (l:=a) (items:=its.toArray) (I1.ok.hd hc) ⟨_,Heap.get?_push_size _ rfl,rfl,rfl⟩ (ip.isList.at λo e=>kp _ _ e) (Nat.ne_of_lt al) hzz λh' tk acc c' k1 hS hacc=> ?_;have k5: ∀b o,s1.heap.get? b=some o->h'.get? b=some o:=λb o e=>k1 b o (Nat.ne_of_lt (Heap.lt_size e)) (kp b o e);have hfr:H1 (s1.heap.push (revObj a ((its.toArray.size:Int) - 1))).objs.size=none:=I1.hok.fresh (by rw[Heap.size_push];exact Nat.le_succ _);refine⟨.ref _,_,I1.laid (t':=tk) (o:= .lst xs.reverse) k5 (by rw[Heap.size_push];exact Nat.le_succ _) ⟨by rw[List.length_reverse];exact hz,acc.toList,c',znR rv hacc,?_⟩,rfl,q _ hfr⟩;simpa using hS⟩
def zhb (T:zD):zD:=λenv st Q=>T env st λx st1=>match x with | .lst xs=>Q (.lst xs.reverse) st1 | _=>False
@[simp] theorem zs4 {T:zD}{env:zH}{st:z6}{Q:K3} :zhb T env st Q=(T env st λx st1=>match x with | .lst xs=>Q (.lst xs.reverse) st1 | _=>False):=rfl
theorem znp {e:Expr}{Ta:zD}{p p2 pos pos2:Pos}(hc:X.calm=true)(hg:Gl X "list")(hm:X.mg "list" =none)(hg2:Gl X "reversed")(hm2:X.mg "reversed" =none)(he:PE X e (zR X.K Ta))
  (hs:starEach [e] X.env= [(false,eval e X.env)]:=by rfl) (hs2:starEach [.Call (.Name "reversed" p2) [e] [] pos2] X.env= [(false,eval (.Call (.Name "reversed" p2) [e] [] pos2) X.env)]:=by rfl):
  PE X (.Call (.Name "list" p) [.Call (.Name "reversed" p2) [e] [] pos2] [] pos) (zR X.K (zhb Ta)):=by
 refine xP (zm7 hc hg hm hg2 hm2 he hs hs2) λσ H Q ⟨A,env,st,Q3,rel,h,k⟩=>⟨A,env,st,_,rel,h,λA1 H1 st1 x v g1 s1 e1 h1=> ?_⟩
 split at h1
 ·cases e1 with | val e=>cases e with | lst t z r=>
   exact⟨_,_,rfl,t.sq,(k.after g1).lst s1 r.reverse (by rw[List.length_reverse];exact z) h1⟩
 ·exact h1.elim
def oN (lo hi:Int):List V:=(List.range (hi - lo).toNat).map λ(i:Nat)=> .int (lo+(i:Int))
def zo3 (ta:TA):TE:=λσ H Q=>ta σ H λvs H1=> ∃lo hi:Int,vs= [.int lo,.int hi]/\(-(2 ^ 20)<=lo/\lo < 2 ^ 20/\ -(2 ^ 20)<=hi/\hi < 2 ^ 20)/\∀p,H1 p=none->Q (.ref p) (zQ H1 p (.lst (oN lo hi)))
theorem zm8 {a b:Expr}{ta:TA}{p p2 pos pos2:Pos}(hc:X.calm=true)(hg:Gl X "list")(hm:X.mg "list" =none)(hg2:Gl X "range")(hm2:X.mg "range" =none)(ha:PA X [a,b] ta)
  (hs:starEach [a,b] X.env= [(false,eval a X.env),(false,eval b X.env)]) (hs1:starEach [b] X.env= [(false,eval b X.env)]) (hs2:starEach [.Call (.Name "range" p2) [a,b] [] pos2] X.env= [(false,eval (.Call (.Name "range" p2) [a,b] [] pos2) X.env)]):
  PE X (.Call (.Name "list" p) [.Call (.Name "range" p2) [a,b] [] pos2] [] pos) (zo3 ta):=⟨λpins s σ H Q I h=>by
 refine wpAny_Call_Name_kw (sJ I hg hm (show bootBuiltins "list" =some (.type "list") by decide+kernel) (callWith_type1 ?_ hs2 rfl));rw[hs2];show wpAny _ _ (spliced ((false,eval (.Call (.Name "range" p2) [a,b] [] pos2) X.env)::backTo pos [])) _ _ s;refine Calls.spliced_cons (wpAny_Call_Name_kw (sJ I hg2 hm2 boot_range (callWith_type1 (y0 (ha pos2 pins s σ H _ I h) λus s1 ⟨vs,H1,I1,r1,q1⟩=> ?_) (by rw[hs,hs1]) (by rw[hs1];rfl))));obtain⟨lo,hi,rfl,⟨b1,b2,b3,b4⟩,q⟩:=q1;cases r1 with
 | cons r rr=>
  cases rr with
  | cons r' rr=>
   cases rr;obtain⟨t,rfl⟩:=r;obtain⟨t',rfl⟩:=r';refine call_range_2 ?_;refine Calls.spliced_nil ?_;have hrs:Builtin.Range.rangeSize lo hi 1=(((hi - lo).toNat:Nat):Int):=by rw[rangeSize_one];split <;> omega
   refine call_list_range (n:=(hi - lo).toNat) (I1.ok.hd hc) (IsRange.new ..) (small_one (by omega) (by omega) (by omega) (by omega)) hrs (by omega) λh' tk acc c' k1 hS hacc=> ?_;have kp:=k1;have k5: ∀b o,s1.heap.get? b=some o->h'.get? b=some o:=λb o e=>k1 b o (Heap.get?_push_of_some _ e);refine⟨.ref _,_,I1.laid (t':=tk) (o:= .lst (oN lo hi)) k5 (by rw[Heap.size_push];exact Nat.le_succ _) ⟨by unfold oN;rw[List.length_map,List.length_range,sizeLine_eq];omega,acc.toList,c',nP ?_ λj v x hv hx=> ?_,by simpa using hS⟩,rfl,q _ (I1.hok.fresh (by rw[Heap.size_push];exact Nat.le_succ _))⟩
   ·unfold oN;rw[List.length_map,List.length_range];simpa using hacc.1.symm
   ·obtain⟨u,rfl⟩:=hacc.2 j v (by simpa using hv)
    unfold oN at hx;rw[List.getElem?_map]at hx;cases ej:(List.range (hi - lo).toNat)[j]? with
    | none=>rw[ej]at hx;cases hx
    | some k=>
     rw[ej]at hx;cases hx;have:=List.getElem?_eq_some_iff.mp ej;obtain⟨hj,e⟩:=this;rw[List.getElem_range]at e;subst e;exact⟨u,by rw[Int.mul_one]⟩⟩
def zhc (T:yK):zD:=λenv st Q=>T env st λxs st1=>match xs with | [.int lo,.int hi]=>(-(2 ^ 20)<=lo/\lo < 2 ^ 20/\ -(2 ^ 20)<=hi/\hi < 2 ^ 20)/\Q (.obj st1.length) (st1++ [.lst ((List.range (hi - lo).toNat).map λ(i:Nat)=> .int (lo+(i:Int)))]) | _=>False
@[simp] theorem zs5 {T:yK}{env:zH}{st:z6}{Q:K3} :zhc T env st Q=(T env st λxs st1=>match xs with | [.int lo,.int hi]=>(-(2 ^ 20)<=lo/\lo < 2 ^ 20/\ -(2 ^ 20)<=hi/\hi < 2 ^ 20)/\Q (.obj st1.length) (st1++ [.lst ((List.range (hi - lo).toNat).map λ(i:Nat)=> .int (lo+(i:Int)))]) | _=>False):=rfl
theorem zfT {K:Frag}{A:List Addr}{H:Hp}{α:Type}(f:α->Int): ∀l:List α,RVs K A H (l.map λi=>PV.int (f i)) (l.map λi=>V.int (f i))
 | []=> .nil
 | x::l=> .cons (.int _) (zfT f l)
theorem znq {a b:Expr}{TA:yK}{p p2 pos pos2:Pos}(hc:X.calm=true)(hg:Gl X "list")(hm:X.mg "list" =none)(hg2:Gl X "range")(hm2:X.mg "range" =none)(ha:PA X [a,b] (vO X.K TA))
  (hs:starEach [a,b] X.env= [(false,eval a X.env),(false,eval b X.env)]:=by rfl) (hs1:starEach [b] X.env= [(false,eval b X.env)]:=by rfl) (hs2:starEach [.Call (.Name "range" p2) [a,b] [] pos2] X.env= [(false,eval (.Call (.Name "range" p2) [a,b] [] pos2) X.env)]:=by rfl):
  PE X (.Call (.Name "list" p) [.Call (.Name "range" p2) [a,b] [] pos2] [] pos) (zR X.K (zhc TA)):=by
 refine xP (zm8 hc hg hm hg2 hm2 ha hs hs1 hs2) λσ H Q ⟨A,env,st,Q3,rel,h,k⟩=>⟨A,env,st,_,rel,h,λA1 H1 st1 xs vs g1 s1 e1 h1=> ?_⟩
 split at h1
 ·rename_i lo hi
  obtain⟨v,w,rfl,r1,r2⟩:=yU.two e1;cases xN r1;cases xN r2;refine⟨lo,hi,rfl,h1.1,λp hp=>k (A1++ [p]) _ _ _ _ (g1.trans (.newObj hp)) (s1.newObj (q:= .lst _) hp ⟨_,x9,zfT _ _,?_⟩) (.obj (jJ s1.len)) h1.2⟩;have:=h1.1;unfold oN;rw[List.length_map,List.length_range,sizeLine_eq];omega
 ·exact h1.elim
end
section
variable {prog:Program} {w:World} {A:Around} {E:Value->Shared->Prop}
theorem zdh {I:Addr}{fp wr:List Addr}{n:Nat}{P:Nat->Value->Prop}{St:Nat->Heap->Prop}(W:Walks prog w A I fp wr n P St): ∀(m i:Nat) (s:Shared) (Q:List Value->Shared->Prop),St i s.heap->i+m<=n->
  (∀vs h' tk,vs.length=m->(∀(j:Nat) (v:Value),vs[j]?=some v->P (i+j) v)->St (i+m) h'->(∀b o,b∉wr->s.heap.get? b=some o->h'.get? b=some o)->Q vs {s with heap:=h',toks:=tk})->wpAny (model prog w) A (draw (.ref I) m) Q E s
 | 0,i,s,Q,st,_,hQ=>by
  show wpAny _ _ (pure []) Q E s;exact wpAny_pure (hQ [] s.heap s.toks rfl (λj v h=>by simp at h) st λ_ _ _ e=>e)
 | m+1,i,s,Q,st,hle,hQ=>by
  show wpAny _ _ (pyNext (.ref I) >>= _) Q E s;refine wpAny_bind (W.item i s _ _ (by omega) st λv h1 tk1 hv st1 k1=> ?_);refine wpAny_bind (wpAny_holding (zdh W m (i+1) {s with heap:=h1,toks:=tk1} _ st1 (by omega) λvs h2 tk2 hl hP st2 k2=>wpAny_pure ?_));refine hQ (v::vs) h2 tk2 (by rw[List.length_cons,hl]) (λj u hj=> ?_) (by rw[show i+(m+1)=i+1+m by omega];exact st2) λb o hb e=>k2 b o hb (k1 b o hb e);cases j with
  | zero=>simp at hj;subst hj;exact hv
  | succ j=>rw[show i+(j+1)=i+1+j by omega];exact hP j u (by simpa using hj)
theorem zoR {x:Str}{t:Tok}{targets:List (Bool×(Value->Sem Unit))}{Q:Unit->Shared->Prop}{s:Shared}(hh:A.handled=none)(hn:targets.length=x.cps.size)(hst:targets.findIdx? (·.1)=none)
  (h: ∀vs h' tk,vs.length=x.cps.size->(∀(j:Nat) (v:Value),vs[j]?=some v->SignAt x j v)->(∀b o,s.heap.get? b=some o->h'.get? b=some o)->wpAny (model prog w) A (assignInOrder (targets.map (·.2)) vs) Q E {s with heap:=h',toks:=tk}):
  wpAny (model prog w) A (unpack (.str x t) targets) Q E s:=by
 unfold unpack;rw[hn,hst];refine wpAny_bind (wpAny_holding ?_);unfold unpackItems;refine wpAny_bind ?_;unfold notIterableAtAll;refine wpAny_bind (wpAny_specialOf (T:= "str") rfl PySem.F.slot_str_iter.lookup ?_);refine wpAny_pure ?_;simp only[Bool.false_eq_true,if_false];refine wpAny_bind (wpAny_holding (wpAny_pyIter_strU ?_));have hW: ∃St:Nat->Heap->Prop,Walks prog w A s.heap.objs.size [s.heap.objs.size] [s.heap.objs.size] x.cps.size (SignAt x) St/\St 0 (s.heap.push {cls:= .type (strIterType x),data:= .fields #[.str x t,.int 0 0]}):=by
  unfold strIterType;by_cases ha:x.cps.all (· < 128)=true
  ·rw[if_pos ha]
   exact⟨_,Walks.strAscii hh _ x t,⟨_,Heap.get?_push_size _ rfl,rfl,rfl⟩⟩
  ·rw[if_neg ha]
   exact⟨_,Walks.strWide hh _ x t,⟨_,Heap.get?_push_size _ rfl,rfl,rfl⟩⟩
 obtain⟨St,W,st⟩:=hW;refine wpAny_bind (wpAny_holding (zdh W x.cps.size 0 _ _ st (by omega) λvs h1 tk1 hl hP st1 k1=> ?_));rw[if_neg (by omega)];refine wpAny_bind (wpAny_holding (W.done _ _ _ (by simpa using st1) λh2 tk2 k2=> ?_));simp only[Option.isSome_none,Bool.false_eq_true,if_false];refine wpAny_pure (h vs h2 tk2 hl (λj v hj=>by simpa using hP j v hj) λb o e=> ?_);have hb:b∉ [s.heap.objs.size]:=λz=>Nat.ne_of_lt (Heap.lt_size e) (List.mem_singleton.mp z);exact k2 b o hb (k1 b o hb (Heap.get?_push_of_some _ e))
end
section
variable {X:Cx} {es:List Expr} {pos:Pos}
def nL (x:Str):List Str:=x.cps.toList.map λc=>⟨#[c]⟩
def zke (n:Nat)(t:uA):TG:=λv σ H Q=> ∃x:Str,v= .str x/\x.cps.size=n/\t ((nL x).map V.str) σ H Q
theorem zmL {k:Nat}{t:uA}{n:Nat}(hc:X.calm=true)(h:vS X es t)(hn:(assignEach es X.env).length=n:=by rfl)(hst:(assignEach es X.env).findIdx? (·.1)=none:=by rfl):PG X (.Tuple es k pos) (zke n t):=by
 refine⟨λpins s σ H v u Q I r hw=> ?_⟩;obtain⟨x,rfl,hl,hw⟩:=hw;obtain⟨t0,rfl⟩:=r;rw[assign_Tuple];refine wpAny_bind (wpAny_standAt (zoR (I.ok.hd hc) (by rw[hn,hl]) hst λvs h' tk hv hP kp=> ?_));have I1:z5 X pins σ H {s with heap:=h',toks:=tk} :=I.kept (t':=tk) kp;refine h pins _ σ H _ _ Q I1 (nP ?_ λj v x' hv' hx'=> ?_) hw
 ·unfold nL;rw[List.length_map,List.length_map,Array.length_toList,hv]
 ·obtain⟨c,u,e,rfl⟩:=hP j v hv'
  unfold nL at hx';rw[List.map_map,List.getElem?_map]at hx';rw[Array.getElem?_toList,e]at hx';cases hx';exact⟨u,rfl⟩
def gTS (n:Nat)(gs:uW):w9:=λx env st Q=>match x with | .str z=>z.cps.size=n/\gs ((nL z).map PV.str) env st Q | _=>False
@[simp] theorem zpZ {n:Nat}{gs:uW}{z:Str}{env:zH}{st:z6}{Q:zH->z6->Prop} :gTS n gs (.str z) env st Q=(z.cps.size=n/\gs ((nL z).map PV.str) env st Q):=rfl
theorem zfU {K:Frag}{A:List Addr}{H:Hp} : ∀l:List Str,yU K A H (l.map PV.str) (l.map V.str)
 | []=> .nil
 | x::l=> .cons (.val (.str _)) (zfU l)
theorem znu {k:Nat}{n:Nat}{Tgs:uW}(hc:X.calm=true)(h:vS X es (mJ X.K Tgs))(hn:(assignEach es X.env).length=n:=by rfl)(hst:(assignEach es X.env).findIdx? (·.1)=none:=by rfl):PG X (.Tuple es k pos) (vP X.K (gTS n Tgs)):=
 zbd (zmL hc h hn hst) λv σ H Q ⟨A,env,st,x,Q3,rel,e,q,k⟩=>by
  unfold gTS at q
  split at q
  ·cases tU e
   exact⟨_,rfl,q.1,A,env,st,_,Q3,rel,zfU _,q.2,k⟩
  ·exact q.elim
end
def wV (x:PV)(st:z6):PV:=match x with
 | .obj i=>(match st[i]? with | some (.lst xs)=> .lst xs | some (.dct kvs)=> .dct kvs | _=> .obj i)
 | x=>x
section
variable {K:Frag} {A:List Addr} {H:Hp} {st:z6}
theorem zb3 (rs:RS K A H st){x:PV}{v:V}(e:RE K A H x v)(h:yJ (wV x st)=true):RE K [] H (wV x st) v:=by
 have hm: ∀b,b∈([]:List Addr)->b∈A:=λb h=>by simp at h
 cases e with
 | val e=>
  have:wV x st=x:=by cases e <;> rfl
  rw[this];exact .val (e.less hm)
 | obj eo=>
  rename_i i a;unfold wV at h⊢
  dsimp only at h⊢
  split at h
  ·rename_i xs q
   obtain⟨vs,h1,r,z⟩:=rs.at_ _ _ _ eo q;exact .val (.lst (.inl ⟨.inl h1,by simp⟩) z (r.less hm))
  ·rename_i xs q
   obtain⟨vs,h1,r,z⟩:=rs.at_ _ _ _ eo q;exact .val (.dct ⟨h1,by simp⟩ z (r.less hm))
  ·cases h
theorem zfR:RS K [] H []:=⟨List.nodup_nil,rfl,λi a o h=>by simp at h⟩
theorem zev (rs:RS K A H st){Q3:K3}{Q:VK}(k:w4 K A H Q3 Q):w4 K [] H (λr _=>(∃b,r= .bl b)/\Q3 r st) Q:=by
 intro A' H' st' r v g s e ⟨⟨b,hb⟩,q⟩;subst hb;cases e with
 | val e=>
  cases e;have g':zZ A H A H':=⟨⟨[],by simp,by simp⟩,λb o h _=>g.keep b o h (by simp),g.live⟩;refine k A H' st _ _ g' (rs.move g' λa ha=> ?_) (.val (.bl _)) q;cases hH:H a with
  | none=>exact absurd hH (rs.live ha)
  | some o=>exact g.keep a o hH (by simp)
end
section
variable {X:Cx}
def zbm (neg:Bool):R3:=λx y st Q=>yJ (wV x st)=true/\yJ (wV y st)=true/\(z9 (wV x st)<=50/\z9 (wV y st) < 1000)/\Q (.bl (if neg then !zW (wV x st) (wV y st)else zW (wV x st) (wV y st))) st
theorem zl4 {k:Nat}(hr:zY k X.A):yG X (compareOp .NotEq) (xU X.K (zbm true)):=λpins s σ H v w vv ww Q I rv rw ⟨A,st,x,y,Q3,rs,ex,ey,⟨h1,h2,h3,h⟩,k⟩=>
 q0 hr pins s σ H v w vv ww Q I rv rw ⟨[],[],wV x st,wV y st,_,zfR,zb3 rs ex h1,zb3 rs ey h2,⟨h3,⟨⟨_,rfl⟩,h⟩⟩,zev rs k⟩
def jQ:y4:=λxs st Q=>match xs with | [x,.ty n]=>yJ (wV x st)=true/\(match xX (wV x st) n with | some b=>Q (.bl b) st | none=>False) | _=>False
theorem zl2:wF X (.builtin "isinstance") (uX X.K jQ):=λpins s σ H vs us Q I rv ⟨A,st,xs,Q3,rs,ex,h,k⟩=>by
 unfold jQ at h
 split at h
 ·rename_i x n
  obtain⟨v,w,rfl,r1,r2⟩:=yU.two ex;obtain⟨h0,h⟩:=h
  split at h
  ·rename_i b e
   have r2':RE X.K [] H (.ty n) w:=by
    cases r2 with
    | val r=>exact .val (r.less λb h=>by simp at h)
   refine oY pins s σ H _ us Q I rv ⟨[],[],[wV x st,.ty n],_,zfR,.cons (zb3 rs r1 h0) (.cons r2' .nil),?_,zev rs k⟩;show(match xX (wV x st) n with | some b=>_ | none=>False);rw[e];exact⟨⟨b,rfl⟩,h⟩
  ·exact h.elim
 ·exact h.elim
end
end L3
set_option maxHeartbeats 1000000
namespace N16
open PySem L2 L3
def x8 (i:Nat):Stmt:=PySem.Challenge.pw_copiedhouse_k16_lists.main.body.getD i (.Pass ⟨0,0,0,0⟩)
theorem sC:bootBuiltins "tuple" =some (.type "tuple"):=by decide+kernel
theorem gU:bootBuiltins "list" =some (.type "list"):=by decide+kernel
theorem qT:bootBuiltins "int" =some (.type "int"):=by decide+kernel
theorem zi3:bootBuiltins "bool" =some (.type "bool"):=by decide+kernel
abbrev o5:Stmt:=x8 1
theorem zob:yS ["row"] ["row"] (zO o5):=⟨rfl,rfl,rfl,by decide+kernel,rfl,by decide+kernel,by decide+kernel⟩
abbrev o9:Stmt:=x8 2
theorem zog:yS ["deed"] ["deed"] (zO o9):=⟨rfl,rfl,rfl,by decide+kernel,rfl,by decide+kernel,by decide+kernel⟩
abbrev qE:Stmt:=x8 4
theorem zoc:yS ["tuples","word"] ["tuples","word"] (zO qE):=⟨rfl,rfl,rfl,by decide+kernel,rfl,by decide+kernel,by decide+kernel⟩
abbrev o8:Stmt:=x8 5
theorem zof:yS ["program","S"] ["program","S"] (zO o8):=⟨rfl,rfl,rfl,by decide+kernel,rfl,by decide+kernel,by decide+kernel⟩
abbrev o6:Stmt:=x8 6
theorem zod:yS ["program","H"] ["program","H"] (zO o6):=⟨rfl,rfl,rfl,by decide+kernel,rfl,by decide+kernel,by decide+kernel⟩
abbrev oA:Stmt:=x8 7
theorem jZ:yS ["program","H","hand","number","row"] ["program","H"] (zO oA):=⟨rfl,rfl,rfl,by decide+kernel,rfl,by decide+kernel,by decide+kernel⟩
abbrev qI:Stmt:=x8 8
theorem zb7:yS ["program","kind","named","hand"] ["program","kind"] (zO qI):=⟨rfl,rfl,rfl,by decide+kernel,rfl,by decide+kernel,by decide+kernel⟩
abbrev qG:Stmt:=x8 9
theorem lK:yS ["program","splits","order","waiting","word"] ["program"] (zO qG):=⟨rfl,rfl,rfl,by decide+kernel,rfl,by decide+kernel,by decide+kernel⟩
abbrev o4:Stmt:=x8 10
theorem lJ:yS ["links","one","met","waiting","last","other"] ["links","one"] (zO o4):=⟨rfl,rfl,rfl,by decide+kernel,rfl,by decide+kernel,by decide+kernel⟩
abbrev qH:Stmt:=x8 11
theorem zfZ:yS ["program","H","inner"] ["program","H"] (zO qH):=⟨rfl,rfl,rfl,by decide+kernel,rfl,by decide+kernel,by decide+kernel⟩
abbrev qC:Stmt:=x8 12
theorem zfY:yS ["program","H","S","rows"] ["program","H","S"] (zO qC):=⟨rfl,rfl,rfl,by decide+kernel,rfl,by decide+kernel,by decide+kernel⟩
abbrev o7:Stmt:=x8 13
theorem zga:yS ["row","S","deed"] ["row","S"] (zO o7):=⟨rfl,rfl,rfl,by decide+kernel,rfl,by decide+kernel,by decide+kernel⟩
abbrev pH:Stmt:=x8 15
theorem lE:yS ["_law_script","_law_k","_law_cell","_law_seed"] ["_law_script","_law_k"] (zO pH):=⟨rfl,rfl,rfl,by decide+kernel,rfl,by decide+kernel,by decide+kernel⟩
abbrev pU:Stmt:=x8 16
theorem zb6:yS ["_law_box_here","_law_many","_law_digit","_law_one"] ["_law_box_here","_law_many"] (zO pU):=⟨rfl,rfl,rfl,by decide+kernel,rfl,by decide+kernel,by decide+kernel⟩
abbrev qB:Stmt:=x8 17
theorem uQ:yS ["_law_box_here","_law_many","_law_letters","_law_k","_law_common","_law_at","_law_first","_law_longer","_law_found","_law_word","_law_own"] ["_law_box_here","_law_many"] (zO qB):=⟨rfl,rfl,rfl,by decide+kernel,rfl,by decide+kernel,by decide+kernel⟩
abbrev pP:Stmt:=x8 18
theorem zfX:yS ["_law_box_here","_law_form"] ["_law_box_here"] (zO pP):=⟨rfl,rfl,rfl,by decide+kernel,rfl,by decide+kernel,by decide+kernel⟩
abbrev pV:Stmt:=x8 19
theorem o0:yS ["_law_box_here","_law_leaves_here","_law_room","_law_deep","_law_form","_law_third","_law_one","_law_other","_law_half"] ["_law_box_here","_law_leaves_here","_law_room","_law_deep"] (zO pV):=⟨rfl,rfl,rfl,by decide+kernel,rfl,by decide+kernel,by decide+kernel⟩
abbrev pG:Stmt:=x8 20
theorem zfV:yS ["_law_box_here","_law_leaves_here","_law_room"] ["_law_box_here","_law_leaves_here"] (zO pG):=⟨rfl,rfl,rfl,by decide+kernel,rfl,by decide+kernel,by decide+kernel⟩
abbrev pO:Stmt:=x8 21
theorem lH:yS ["_law_box_here","_law_kinds","_law_calm","_law_word","_law_three","_law_term_here"] ["_law_box_here","_law_kinds","_law_calm"] (zO pO):=⟨rfl,rfl,rfl,by decide+kernel,rfl,by decide+kernel,by decide+kernel⟩
abbrev qA:Stmt:=x8 22
theorem lD:yS ["_law_box_here","_law_manner_here","_law_things","_law_found","_law_word","_law_many"] ["_law_box_here","_law_manner_here","_law_things"] (zO qA):=⟨rfl,rfl,rfl,by decide+kernel,rfl,by decide+kernel,by decide+kernel⟩
abbrev pN:Stmt:=x8 23
theorem lG:yS ["_law_box_here","_law_shelves","_law_things","_law_found","_law_ks","_law_manner_here","_law_begin_here"] ["_law_box_here","_law_shelves","_law_things"] (zO pN):=⟨rfl,rfl,rfl,by decide+kernel,rfl,by decide+kernel,by decide+kernel⟩
abbrev pI:Stmt:=x8 24
theorem pY:yS ["_law_box_here","_law_shelf","_law_leaves_here","_law_things","_law_ks","_law_manner_here","_law_begin_here","_law_word","_law_term_here"] ["_law_box_here","_law_shelf","_law_leaves_here","_law_things"] (zO pI):=⟨rfl,rfl,rfl,by decide+kernel,rfl,by decide+kernel,by decide+kernel⟩
abbrev pR:Stmt:=x8 25
theorem nJ:yS ["_law_box_here","_law_uses","_law_things","_law_own","_law_asked","_law_leaves_here","_law_row_here"] ["_law_box_here","_law_uses","_law_things"] (zO pR):=⟨rfl,rfl,rfl,by decide+kernel,rfl,by decide+kernel,by decide+kernel⟩
abbrev pL:Stmt:=x8 26
theorem zfW:yS ["_law_box_here","_law_plan","_law_rows","_law_held","_law_other"] ["_law_box_here","_law_plan","_law_rows","_law_held"] (zO pL):=⟨rfl,rfl,rfl,by decide+kernel,rfl,by decide+kernel,by decide+kernel⟩
abbrev pK:Stmt:=x8 27
theorem pZ:yS ["_law_script","_law_at","_law_plan","_law_number_here","_law_box_here","_law_uses","_law_rows","_law_held","_law_k","_law_kind","_law_other"] ["_law_script","_law_at","_law_plan","_law_number_here"] (zO pK):=⟨rfl,rfl,rfl,by decide+kernel,rfl,by decide+kernel,by decide+kernel⟩
abbrev pW:Stmt:=x8 28
theorem rJ:yS ["_law_box_here","_law_form","_law_some","_law_x","_law_y","_law_z","_law_at"] ["_law_box_here"] (zO pW):=⟨rfl,rfl,rfl,by decide+kernel,rfl,by decide+kernel,by decide+kernel⟩
abbrev rF:Stmt:=x8 29
theorem uP:yS ["_law_script","_law_at","_law_kinds","_law_calm","_law_hands","_law_box_here","_law_words_here","_law_names","_law_things","_law_shelves","_law_k","_law_manner_here","_law_many","_law_uses","_law_plan","_law_others","_law_turn"] ["_law_script","_law_at","_law_kinds","_law_calm","_law_hands"] (zO rF):=⟨rfl,rfl,rfl,by decide+kernel,rfl,by decide+kernel,by decide+kernel⟩
abbrev pT:Stmt:=x8 30
theorem lI:yS ["_law_program_here","_law_found","_law_kh","_law_rows","_law_n"] ["_law_program_here"] (zO pT):=⟨rfl,rfl,rfl,by decide+kernel,rfl,by decide+kernel,by decide+kernel⟩
abbrev pQ:Stmt:=x8 31
theorem nH:yS ["_law_program_here","_law_kh","_law_found","_law_other","_law_rows","_law_row_here"] ["_law_program_here","_law_kh"] (zO pQ):=⟨rfl,rfl,rfl,by decide+kernel,rfl,by decide+kernel,by decide+kernel⟩
abbrev pM:Stmt:=x8 32
theorem nG:yS ["_law_program_here","_law_kh","_law_found","_law_turn","_law_other","_law_rows","_law_row_here"] ["_law_program_here","_law_kh"] (zO pM):=⟨rfl,rfl,rfl,by decide+kernel,rfl,by decide+kernel,by decide+kernel⟩
abbrev pJ:Stmt:=x8 33
theorem lF:yS ["_law_rows","_law_ks","_law_found","_law_n","_law_row_here"] ["_law_rows","_law_ks"] (zO pJ):=⟨rfl,rfl,rfl,by decide+kernel,rfl,by decide+kernel,by decide+kernel⟩
abbrev pX:Stmt:=x8 34
theorem zoa:yS ["_law_found"] ["_law_found"] (zO pX):=⟨rfl,rfl,rfl,by decide+kernel,rfl,by decide+kernel,by decide+kernel⟩
abbrev pS:Stmt:=x8 35
theorem znZ:yS ["_law_found","_law_due"] ["_law_found","_law_due"] (zO pS):=⟨rfl,rfl,rfl,by decide+kernel,rfl,by decide+kernel,by decide+kernel⟩
abbrev rE:Stmt:=x8 36
theorem rH:yS ["_law_program_here","_law_kh","_law_rows","_law_splits_here","_law_taken","_law_due","_law_found","_law_ks","_law_manner_here","_law_begin_here","_law_turn"] ["_law_program_here","_law_kh","_law_rows","_law_splits_here"] (zO rE):=⟨rfl,rfl,rfl,by decide+kernel,rfl,by decide+kernel,by decide+kernel⟩
abbrev rK:Stmt:=x8 37
theorem o3:yS ["_law_script","_law_program_here","_law_splits_here","_law_shelf","_law_kh","_law_rows","_law_found"] ["_law_script"] (zO rK):=⟨rfl,rfl,rfl,by decide+kernel,rfl,by decide+kernel,by decide+kernel⟩
structure Mo (K:Frag)(mg:Str->Option Value):Prop where
 len:mg "len" =none
 int:mg "int" =none
 range:mg "range" =none
 tuple:mg "tuple" =none
 isinstance:mg "isinstance" =none
 bool:mg "bool" =none
 str:mg "str" =none
 dict:mg "dict" =none
 list:mg "list" =none
 sorted:mg "sorted" =none
 min:mg "min" =none
 max:mg "max" =none
 all:mg "all" =none
 set:mg "set" =none
 enumerate:mg "enumerate" =none
 reversed:mg "reversed" =none
 deed_of: ∃f fd,zV K "deed_of" "deed_of" o5 f fd/\yM K fd ["row"] []/\mg "deed_of" =some (.ref f)
 shelf_of: ∃f fd,zV K "shelf_of" "shelf_of" o9 f fd/\yM K fd ["deed"] []/\mg "shelf_of" =some (.ref f)
 first_called: ∃f fd,zV K "first_called" "first_called" qE f fd/\yM K fd ["tuples","word"] []/\mg "first_called" =some (.ref f)
 shelf_named: ∃f fd,zV K "shelf_named" "shelf_named" o8 f fd/\yM K fd ["program","S"] []/\mg "shelf_named" =some (.ref f)
 hand_named: ∃f fd,zV K "hand_named" "hand_named" o6 f fd/\yM K fd ["program","H"] []/\mg "hand_named" =some (.ref f)
 split_at: ∃f fd,zV K "split_at" "split_at" oA f fd/\yM K fd ["program","H"] []/\mg "split_at" =some (.ref f)
 named_by_hands: ∃f fd,zV K "named_by_hands" "named_by_hands" qI f fd/\yM K fd ["program","kind"] []/\mg "named_by_hands" =some (.ref f)
 in_split_order: ∃f fd,zV K "in_split_order" "in_split_order" qG f fd/\yM K fd ["program"] []/\mg "in_split_order" =some (.ref f)
 come_to: ∃f fd,zV K "come_to" "come_to" o4 f fd/\yM K fd ["links","one"] []/\mg "come_to" =some (.ref f)
 inner_hands: ∃f fd,zV K "inner_hands" "inner_hands" qH f fd/\yM K fd ["program","H"] []/\mg "inner_hands" =some (.ref f)
 deeds_on: ∃f fd,zV K "deeds_on" "deeds_on" qC f fd/\yM K fd ["program","H","S"] []/\mg "deeds_on" =some (.ref f)
 is_deed_on: ∃f fd,zV K "is_deed_on" "is_deed_on" o7 f fd/\yM K fd ["row","S"] []/\mg "is_deed_on" =some (.ref f)
 _law_box: ∃f fd,zV K "_law_box" "_law_box" pH f fd/\yM K fd ["_law_script","_law_k"] []/\mg "_law_box" =some (.ref f)
 _law_take: ∃f fd,zV K "_law_take" "_law_take" pU f fd/\yM K fd ["_law_box_here","_law_many"] []/\mg "_law_take" =some (.ref f)
 _law_words: ∃f fd,zV K "_law_words" "_law_words" qB f fd/\yM K fd ["_law_box_here","_law_many"] []/\mg "_law_words" =some (.ref f)
 _law_number: ∃f fd,zV K "_law_number" "_law_number" pP f fd/\yM K fd ["_law_box_here"] []/\mg "_law_number" =some (.ref f)
 _law_term: ∃f fd,zV K "_law_term" "_law_term" pV f fd/\yM K fd ["_law_box_here","_law_leaves_here","_law_room","_law_deep"] []/\mg "_law_term" =some (.ref f)
 _law_any_term: ∃f fd,zV K "_law_any_term" "_law_any_term" pG f fd/\yM K fd ["_law_box_here","_law_leaves_here"] []/\mg "_law_any_term" =some (.ref f)
 _law_manner: ∃f fd,zV K "_law_manner" "_law_manner" pO f fd/\yM K fd ["_law_box_here","_law_kinds","_law_calm"] []/\mg "_law_manner" =some (.ref f)
 _law_begin: ∃f fd,zV K "_law_begin" "_law_begin" qA f fd/\yM K fd ["_law_box_here","_law_manner_here","_law_things"] []/\mg "_law_begin" =some (.ref f)
 _law_leaves: ∃f fd,zV K "_law_leaves" "_law_leaves" pN f fd/\yM K fd ["_law_box_here","_law_shelves","_law_things"] []/\mg "_law_leaves" =some (.ref f)
 _law_deed: ∃f fd,zV K "_law_deed" "_law_deed" pI f fd/\yM K fd ["_law_box_here","_law_shelf","_law_leaves_here","_law_things"] []/\mg "_law_deed" =some (.ref f)
 _law_row: ∃f fd,zV K "_law_row" "_law_row" pR f fd/\yM K fd ["_law_box_here","_law_uses","_law_things"] []/\mg "_law_row" =some (.ref f)
 _law_join: ∃f fd,zV K "_law_join" "_law_join" pL f fd/\yM K fd ["_law_box_here","_law_plan","_law_rows","_law_held"] []/\mg "_law_join" =some (.ref f)
 _law_hand: ∃f fd,zV K "_law_hand" "_law_hand" pK f fd/\yM K fd ["_law_script","_law_at","_law_plan","_law_number_here"] []/\mg "_law_hand" =some (.ref f)
 _law_three_words: ∃f fd,zV K "_law_three_words" "_law_three_words" pW f fd/\yM K fd ["_law_box_here"] []/\mg "_law_three_words" =some (.ref f)
 _law_program: ∃f fd,zV K "_law_program" "_law_program" rF f fd/\yM K fd ["_law_script","_law_at","_law_kinds","_law_calm","_law_hands"] []/\mg "_law_program" =some (.ref f)
 _law_splits: ∃f fd,zV K "_law_splits" "_law_splits" pT f fd/\yM K fd ["_law_program_here"] []/\mg "_law_splits" =some (.ref f)
 _law_order: ∃f fd,zV K "_law_order" "_law_order" pQ f fd/\yM K fd ["_law_program_here","_law_kh"] []/\mg "_law_order" =some (.ref f)
 _law_joined: ∃f fd,zV K "_law_joined" "_law_joined" pM f fd/\yM K fd ["_law_program_here","_law_kh"] []/\mg "_law_joined" =some (.ref f)
 _law_deeds: ∃f fd,zV K "_law_deeds" "_law_deeds" pJ f fd/\yM K fd ["_law_rows","_law_ks"] []/\mg "_law_deeds" =some (.ref f)
 _law_whole: ∃f fd,zV K "_law_whole" "_law_whole" pX f fd/\yM K fd ["_law_found"] []/\mg "_law_whole" =some (.ref f)
 _law_split_right: ∃f fd,zV K "_law_split_right" "_law_split_right" pS f fd/\yM K fd ["_law_found","_law_due"] []/\mg "_law_split_right" =some (.ref f)
 _law_hand_right: ∃f fd,zV K "_law_hand_right" "_law_hand_right" rE f fd/\yM K fd ["_law_program_here","_law_kh","_law_rows","_law_splits_here"] []/\mg "_law_hand_right" =some (.ref f)
local macro_rules | `(tactic| simp_all? only[$ts,*])=> `(tactic| ((try dsimp[u8]);repeat(simp only[cB,zcJ,rV,zdd,zde,zdf,Nat.reduceAdd,Nat.reduceSub,Nat.reduceLT,Nat.reduceLeDiff,Int.reduceLT,Int.reduceLE,Int.reducePow,Int.reduceNeg,Int.reduceMul,Int.reduceAdd,Int.reduceSub,Int.reduceToNat,zdk,zdl,$ts,*];(try dsimp[u8]))))
local macro_rules | `(tactic| simp? only[$ts,*])=> `(tactic| ((try dsimp);repeat(simp only[cB,zcJ,rV,zdd,zde,zdf,Nat.reduceAdd,Nat.reduceSub,Nat.reduceLT,Nat.reduceLeDiff,Int.reduceLT,Int.reduceLE,Int.reducePow,Int.reduceNeg,Int.reduceMul,Int.reduceAdd,Int.reduceSub,Int.reduceToNat,zdk,zdl,$ts,*];(try dsimp))))
theorem fA:lX 10 18:=⟨by decide,by decide,by decide⟩
def yD (a b:Int):Prop:=0<=a/\0<=b/\b<=2147483647
abbrev zC (a b:Int):PO:= .lst [.int a,.int b]
def zbB:y4:=λxs st Q=> ∃(ns:List Int) (k:Int),xs= [.lst (ns.map .int),.int k]/\ns.length<=63/\0<=k/\∀a b,yD a b->Q (.obj st.length) (st++ [zC a b])
def u5:y4:=λxs st Q=> ∃(i:Nat) (many a b:Int),xs= [.obj i,.int many]/\st[i]?=some (zC a b)/\yD a b/\0 < many/\many < 1099511627776/\∀d a b,0<=d->d < many->yD a b->Q (.int d) (st.set i (zC a b))
inductive Tm (L:Type) where | num (k:Int) | lf (l:L) | op (s:Str)(a b:Tm L) | ite (a b c:Tm L)
def Tm.rank {L:Type} :Tm L->Nat
 | .op _ a b=>max a.rank b.rank+1
 | .ite a b c=>max a.rank (max b.rank c.rank)+1
 | _=>0
def Sg (s:Str):Prop:=s= "+" ∨s= "-" ∨s= "*" ∨s= "<" ∨s= "="
def opv (s:Str)(a b:Int):Int:=if s= "+" then(a+b) % 4294967296 else if s= "-" then(a - b) % 4294967296 else if s= "*" then a * b % 4294967296 else if s= "<" then(if a < b then 1 else 0)else(if a=b then 1 else 0)
def In (i:Int):Prop:=0<=i/\i < 4294967296
def Tm.val {L:Type}(lv:L->Int):Tm L->Int
 | .num k=>k
 | .lf l=>lv l
 | .op s a b=>opv s (a.val lv) (b.val lv)
 | .ite a b c=>if a.val lv=0 then c.val lv else b.val lv
def Tm.ok {L:Type}(lo:L->Prop):Tm L->Prop
 | .num k=>In k
 | .lf l=>lo l
 | .op s a b=>Sg s/\a.ok lo/\b.ok lo
 | .ite a b c=>a.ok lo/\b.ok lo/\c.ok lo
def Tm.pv {L:Type}(lp:L->PV):Tm L->PV
 | .num k=> .tup [.str "num",.int k]
 | .lf l=>lp l
 | .op s a b=> .tup [.str "op",.str s,a.pv lp,b.pv lp]
 | .ite a b c=> .tup [.str "if",a.pv lp,b.pv lp,c.pv lp]
def oH {L:Type}(lp:L->PV):Prop:= ∀l,∃(kd:Str) (wN:List PV),lp l= .tup (.str kd::wN)/\kd≠ "num" /\kd≠ "op" /\kd≠ "if"
inductive uU where | was | mine | yours
def uU.pv:uU->PV | .was=> .tup [.str "was"] | .mine=> .tup [.str "mine"] | .yours=> .tup [.str "yours"]
def uU.val (w m y:Int):uU->Int | .was=>w | .mine=>m | .yours=>y
theorem zeK:oH uU.pv:=λl=>by cases l <;> exact⟨_,[],rfl,by decide+kernel,by decide+kernel,by decide+kernel⟩
theorem zoO (ys:List Str)(n:Nat)(h: ∀y∈ys,y.length<=n):(ys.map (·.length)).sum<=n * ys.length:=by
 induction ys with
 | nil=>simp
 | cons y r ih=>
  have h1:=h y List.mem_cons_self;have h2:=ih λz hz=>h z (List.mem_cons_of_mem _ hz);rw[List.map_cons,List.sum_cons,List.length_cons,Nat.mul_succ];omega
theorem zB {t u:yY}{D:xS}{env:zH}{st:z6}(h:t {D with nx:=u D} env st):u8 t u D env st:=h
abbrev Sh:=Str×PV×PV
def yC (s:Sh):PV:= .tup [.str s.1,s.2.1,s.2.2]
inductive Hv where | int (v:Int) | bag (l:List (Str×Int)) | row (ws:List Str)
def Hv.pv:Hv->PV | .int v=> .int v | .bag l=>sU l | .row ws=> .tup (ws.map PV.str)
inductive Lf where | shelf (s:Str) | many (s t:Str) | long (s:Str)
def Lf.pv:Lf->PV | .shelf s=> .tup [.str "shelf",.str s] | .many s t=> .tup [.str "many",.str s,.str t] | .long s=> .tup [.str "long",.str s]
theorem zaE:oH Lf.pv:=λl=>by cases l <;> exact⟨_,_,rfl,by decide+kernel,by decide+kernel,by decide+kernel⟩
def za2 (sh:List Sh)(hs:List Hv)(s:Str):Option Hv:=((sh.map (·.1)).findIdx? λn=>n==s).bind λi=>hs[i]?
def Lf.val (sh:List Sh)(hs:List Hv):Lf->Option Int
 | .shelf s=>(match za2 sh hs s with | some (.int v)=>some v | _=>none)
 | .many s t=>(match za2 sh hs s with | some (.bag l)=>some (zhm l t % 4294967296) | _=>none)
 | .long s=>(match za2 sh hs s with | some (.row ws)=>some ws.length | _=>none)
theorem zoi: ∀d:Int,0<=d->d < 5->∃c,atI (("+-*<=" :Str)).cps.toList d=some c/\Sg ⟨#[c]⟩:=λd d0 d1=>by
 have:d=0∨d=1∨d=2∨d=3∨d=4:=by omega
 rcases this with rfl | rfl | rfl | rfl | rfl
 ·exact⟨43,by decide+kernel,.inl (by decide+kernel)⟩
 ·exact⟨45,by decide+kernel,.inr (.inl (by decide+kernel))⟩
 ·exact⟨42,by decide+kernel,.inr (.inr (.inl (by decide+kernel)))⟩
 ·exact⟨60,by decide+kernel,.inr (.inr (.inr (.inl (by decide+kernel))))⟩
 ·exact⟨61,by decide+kernel,.inr (.inr (.inr (.inr (by decide+kernel))))⟩
theorem zbh {L:Type}{lp:L->PV}(hlp:oH lp)(t:Tm L):yJ (t.pv lp)=true:=by
 cases t with
 | lf l=>obtain⟨kd,wN,e,_⟩:=hlp l;show yJ (lp l)=true;rw[e];rfl
 | _=>rfl
theorem zoG {α:Type}{st:List α}{i:Nat}{x:α} :(st.set i x).take st.length=st.set i x:=iD
theorem zdq {L:Type}{lp:L->PV}{m:Nat}{Q:K3}{st:z6}{t:Tm L}(hlp:oH lp)(h:Q (t.pv lp) (st.take m)):xG m Q (t.pv lp) st:=by
 cases t with
 | lf l=>
  obtain⟨kd,wN,e,_⟩:=hlp l;have h':Q (lp l) (st.take m):=h;show xG m Q (lp l) st;rw[e]at h'⊢;exact h'
 | _=>exact h
def lP {L:Type}(lp:L->PV)(d:Nat):y4:=λxs st Q=> ∃(i:Nat) (ls:List L) (room deep a b:Int),xs= [.obj i,.lst (ls.map lp),.int room,.int deep]/\st[i]?=some (zC a b)/\yD a b/\oH lp/\ls.length<=1000/\0<=deep/\deep < d/\∀(t:Tm L) a b,t.ok (λl=>l∈ls)->(t.rank:Int)<=deep->yD a b->Q (t.pv lp) (st.set i (zC a b))
theorem zg5 {L:Type}{lp:L->PV}{K:Frag}{vs:List V}{H:Hp}{Q:VK}{E:XK}(h:zG K (lP lp 0) vs H Q E):False:=by
 obtain⟨_,_,_,_,_,_,⟨_,_,_,_,_,_,_,_,_,_,_,h0,h1,_⟩,_⟩:=h;omega
theorem ze7 {tc:xF}{t u:yY}{D:xS}{env:zH}{st:z6}{b:Bool}(h: ∀Q,tc env st Q=Q b st)(k:if b=true then t D env st else u D env st):iK tc t u D env st:=by
 show tc env st _;rw[h];exact k
def zbA {L:Type}(lp:L->PV):y4:=λxs st Q=> ∃(i:Nat) (ls:List L) (a b:Int),xs= [.obj i,.lst (ls.map lp)]/\st[i]?=some (zC a b)/\yD a b/\oH lp/\ls.length<=1000/\∀(t:Tm L) a b,t.ok (λl=>l∈ls)->t.rank < 7->yD a b->Q (t.pv lp) (st.set i (zC a b))
def iZ (s:Sh)(kd:Str):Prop:= ∃r,s.2.1= .tup (.str kd::r)
def nY (sh:List Sh)(l:Lf):Prop:= ∃s∈sh,∃kd,iZ s kd/\((kd= "bag" /\∃t,l= .many s.1 t)∨(kd= "row" /\l= .long s.1)∨(kd≠ "bag" /\kd≠ "row" /\l= .shelf s.1))
def zgv:y4:=λxs st Q=> ∃(i:Nat) (sh:List Sh) (ws:List Str) (a b:Int),xs= [.obj i,.lst (sh.map yC),.lst (ws.map PV.str)]/\st[i]?=some (zC a b)/\yD a b/\(∀s∈sh,∃kd,iZ s kd)/\sh.length<=100/\ws≠ []/\ws.length<=1000/\∀(ls:List Lf) a b,ls.length=sh.length->(∀l∈ls,nY sh l)->yD a b->Q (.lst (ls.map Lf.pv)) (st.set i (zC a b))
def zbF:y4:=λxs st Q=> ∃(i:Nat) (a b:Int),xs= [.obj i]/\st[i]?=some (zC a b)/\yD a b/\∀d a b,0<=d->d < 4294967296->yD a b->Q (.int d) (st.set i (zC a b))
def zg6:y4:=λxs st Q=> ∃(i:Nat) (many a b:Int),xs= [.obj i,.int many]/\st[i]?=some (zC a b)/\yD a b/\1<=many/\many<=10/\∀(ws:List Str) a b,(ws.length:Int)=many->ws.Nodup->yD a b->Q (.lst (ws.map PV.str)) (st.set i (zC a b))
theorem zpi {A B z z':Str}{c c':Nat}(h:A++⟨#[c]⟩++B++z=A++⟨#[c']⟩++B++z'):c=c':=by
 have e:=congrArg (λs:Str=>s.cps.toList) h;have cps: ∀a b:Str,(a++b).cps=a.cps++b.cps:=λa b=>rfl;simp only[cps,Array.toList_append,List.append_assoc,List.cons_append,List.nil_append]at e;have e2:=List.append_cancel_left e;injection e2
theorem zeM {d:Int}(d0:0<=d)(d1:d < 26):atI (("abcdefghijklmnopqrstuvwxyz" :Str)).cps.toList d=some (97+d.toNat):=by
 have h: ∀n < 26,(("abcdefghijklmnopqrstuvwxyz" :Str)).cps.toList[n]?=some (97+n):=by decide+kernel
 obtain⟨n,rfl⟩: ∃n:Nat,d=n:=⟨d.toNat,by omega⟩;exact vT (h n (by omega))
def qR (A B:Str)(first:Int)(ws:List Str):Prop:= ∀(m:Nat) (w:Str),ws[m]?=some w->∃z:Str,w=A++⟨#[97+((first+5 * (0+(m:Int))) % 26).toNat]⟩++B++z
theorem qR.snoc {A B:Str}{first:Int}{ws:List Str}{z:Str}(h:qR A B first ws){k:Nat}(hk:ws.length=k):qR A B first (ws++ [A++⟨#[97+((first+5 * (0+(k:Int))) % 26).toNat]⟩++B++z]):=λm w hw=>by
 subst hk;rcases Nat.lt_or_ge m ws.length with hl | hl
 ·rw[List.getElem?_append_left hl]at hw;exact h m w hw
 ·rw[List.getElem?_append_right hl]at hw
  have:m=ws.length:=by
   have:=(List.getElem?_eq_some_iff.mp hw).1;simp at this;omega
  subst this;rw[Nat.sub_self]at hw;injection hw with hw
  exact⟨z,hw.symm⟩
theorem qR.nodup {A B:Str}{first:Int}{ws:List Str}(h:qR A B first ws)(hl:ws.length<=10):ws.Nodup:=by
 refine List.pairwise_iff_getElem.mpr λi j hi hj hij e=> ?_;obtain⟨z,e1⟩:=h i _ (List.getElem?_eq_getElem hi);obtain⟨z',e2⟩:=h j _ (List.getElem?_eq_getElem hj);rw[e1,e2]at e;have:=zpi e;omega
theorem zlx {α:Type}{ws:List α}{w:α}(h:ws.Nodup)(n:w∉ws)(k:Nat):(ws.set k w).Nodup:=by
 refine List.pairwise_iff_getElem.mpr λi j hi hj hij e=> ?_;rw[List.length_set]at hi hj;rw[List.getElem_set,List.getElem_set]at e;have hp:=List.pairwise_iff_getElem.mp h i j hi hj hij
 split at e
 ·split at e
  ·omega
  ·exact n (e▸List.getElem_mem hj)
 ·split at e
  ·exact n (e▸List.getElem_mem hi)
  ·exact hp e
theorem zk3 {m n:Nat}(h:n < m):wJ m (n:Int)=some n:=by
 unfold wJ
 first | (rw[if_neg (by omega)];simp[h];done) | (simp;omega)
def zms:List Str:= ["shelf","hand","set","more","in","out","lay","drop","tell","when","split","join","last","sum","bag","row","told","many","long","if","was","mine","yours","house","none","end","story"]
theorem zmt {d:Int}(d0:0<=d)(d1:d < 27): ∃wd:Str,atI [PV.str "shelf",.str "hand",.str "set",.str "more",.str "in",.str "out",.str "lay",.str "drop",.str "tell",.str "when",.str "split",.str "join",.str "last",.str "sum",.str "bag",.str "row",.str "told",.str "many",.str "long",.str "if",.str "was",.str "mine",.str "yours",.str "house",.str "none",.str "end",.str "story"] d=some (.str wd):=
 let⟨wd,_,e⟩:=oJ PV.str (ns:=zms) d0 d1
 ⟨wd,e⟩
def hJ (kd:Str)(r:List PV):Prop:=((kd= "last" ∨kd= "sum" ∨kd= "bag" ∨kd= "row")/\r= [])∨kd= "told" /\∃(n:Int) (t:Tm uU),r= [.int n,t.pv uU.pv]/\2<=n/\n < 6/\t.rank < 7
def p8:PV:= .lst [.str "last",.str "sum",.str "bag",.str "row",.str "told"]
def zgw:y4:=λxs st Q=> ∃(i:Nat) (a b:Int),xs= [.obj i,p8,.bl false]/\st[i]?=some (zC a b)/\yD a b/\∀kd r a b,hJ kd r->yD a b->Q (.tup (.str kd::r)) (st.set i (zC a b))
def HvN (n:Nat)(kd:Str):Hv->Prop
 | .int v=>kd≠ "bag" /\kd≠ "row" /\In v
 | .bag l=>kd= "bag" /\(l.map (·.1)).Nodup/\l.length<=n
 | .row ws=>kd= "row" /\ws.length<=n
abbrev zc2 (kd:Str):Hv->Prop:=HvN 40 kd
def zgg:y4:=λxs st Q=> ∃(i:Nat) (kd:Str) (r:List PV) (ws:List Str) (a b:Int),xs= [.obj i,.tup (.str kd::r),.lst (ws.map PV.str)]/\st[i]?=some (zC a b)/\yD a b/\hJ kd r/\ws≠ []/\ws.length<=40/\ws.Nodup/\∀(h:Hv) a b,zc2 kd h->yD a b->Q h.pv (st.set i (zC a b))
def kO (s:Sh):Prop:= ∃(kd:Str) (r:List PV) (h:Hv),s.2.1= .tup (.str kd::r)/\hJ kd r/\s.2.2=h.pv/\zc2 kd h
theorem ze3 (h:Hv):yJ h.pv=true:=by cases h <;> rfl
theorem mO {w:Str}{ws:List Str} :wI (.str w) (ws.map PV.str)=decide (w∈ws):=by
 unfold wI;rw[List.any_map,show((λy=>zW y (.str w)) ∘ PV.str)=(λn:Str=>n==w)from funext λs=>rV.2.1,Bool.eq_iff_iff];simp
theorem zlz {w:Str}{ws:List Str}{n:Nat}{st:z6}{Q:K3}(h:st[n]?=some (.lst (ws.map PV.str))):xY true (.str w) (.obj n) st Q=Q (.bl (!decide (w∈ws))) st:=by
 have hf:(ws.map PV.str).all wG=true:=by rw[List.all_map];exact List.all_eq_true.mpr λ_ _=>rfl
 have e:vE (.obj n) st=some (ws.map PV.str):=by unfold vE;dsimp only;rw[h]
 unfold xY;rw[e];dsimp only;rw[mO,hf];simp[wG]
theorem Tm.ok_mono {L:Type}{lo lo':L->Prop}(h: ∀l,lo l->lo' l): ∀{t:Tm L},t.ok lo->t.ok lo'
 | .lf l,k=>h l k
 | .num n,k=>k
 | .op s x y,⟨a,b,c⟩=>⟨a,Tm.ok_mono h b,Tm.ok_mono h c⟩
 | .ite x y z,⟨a,b,c⟩=>⟨Tm.ok_mono h a,Tm.ok_mono h b,Tm.ok_mono h c⟩
inductive Dd where | tell (x:Tm Lf) | bag (up:Bool)(s t:Str) | set (s:Str)(x:Tm Lf) | more (s:Str)(x:Tm Lf) | lay (s:Str)(x:Tm Lf)(t:Str) | drop (s:Str)(x:Tm Lf)
abbrev u6 (x:Tm Lf):PV:=x.pv Lf.pv
def Dd.pv:Dd->PV
 | .tell x=> .tup [.str "tell",u6 x]
 | .bag true s t=> .tup [.str "in",.str s,.str t]
 | .bag false s t=> .tup [.str "out",.str s,.str t]
 | .set s x=> .tup [.str "set",.str s,u6 x]
 | .more s x=> .tup [.str "more",.str s,u6 x]
 | .lay s x t=> .tup [.str "lay",.str s,u6 x,.str t]
 | .drop s x=> .tup [.str "drop",.str s,u6 x]
def Dd.nm:Dd->Option Str | .tell _=>none | .bag _ s _ | .set s _ | .more s _ | .lay s _ _ | .drop s _=>some s
def Dd.tm:Dd->Option (Tm Lf) | .bag _ _ _=>none | .tell x | .set _ x | .more _ x | .lay _ x _ | .drop _ x=>some x
abbrev Rw:=Option (Tm Lf)×Dd
def Rw.pv:Rw->PV | (none,d)=>d.pv | (some x,d)=> .tup [.str "when",u6 x,d.pv]
def opS:Option Str->PV | none=> .non | some v=> .str v
theorem Dd.form (d:Dd){s:Str}(h:d.nm=some s): ∃(k:Str) (more:List PV),d.pv= .tup (.str k:: .str s::more)/\(k==("when" :Str))=false/\(k==("tell" :Str))=false:=by
 cases d with
 | tell x=>cases h
 | bag up a b=>cases h;cases up <;> exact⟨_,_,rfl,by decide+kernel,by decide+kernel⟩
 | set a x=>cases h;exact⟨_,_,rfl,by decide+kernel,by decide+kernel⟩
 | more a x=>cases h;exact⟨_,_,rfl,by decide+kernel,by decide+kernel⟩
 | lay a x b=>cases h;exact⟨_,_,rfl,by decide+kernel,by decide+kernel⟩
 | drop a x=>cases h;exact⟨_,_,rfl,by decide+kernel,by decide+kernel⟩
theorem zok {sh:List Sh}{i:Nat}{s:Sh}(e:sh[i]?=some s):atI (sh.map yC) (i:Int)=some (yC s):=vT (by rw[List.getElem?_map,e];rfl)
def zhv (nm kd:Str)(ls:List Lf)(d:Dd):Prop:=d.nm=some nm/\(∀x,d.tm=some x->x.ok (λl=>l∈ls)/\x.rank < 7)/\
 (match d with | .tell _=>False | .bag _ _ _=>kd= "bag" | .more _ _=>kd= "sum" | .set _ _=>kd≠ "bag" /\kd≠ "row" /\kd≠ "sum" | .lay _ _ _=>kd= "row" | .drop _ _=>kd= "row")
def zgm:y4:=λxs st Q=> ∃(i:Nat) (nm kd:Str) (r:List PV) (bg:PV) (ls:List Lf) (ws:List Str) (a b:Int),xs= [.obj i,.tup [.str nm,.tup (.str kd::r),bg],.lst (ls.map Lf.pv),.lst (ws.map PV.str)]/\yJ bg=true/\st[i]?=some (zC a b)/\yD a b/\ws≠ []/\ws.length<=1000/\ls.length<=1000/\∀(d:Dd) a b,zhv nm kd ls d->yD a b->Q d.pv (st.set i (zC a b))
theorem tV (t:Tm Lf):yJ (t.pv Lf.pv)=true:=by
 cases t with
 | lf l=>cases l <;> rfl
 | _=>rfl
def gE (sh:List Sh)(x:Tm Lf):Prop:=x.ok (nY sh)/\x.rank < 7
def zhS (kd:Str)(d:Dd):Prop:=match d with | .tell _=>False | .bag _ _ _=>kd= "bag" | .more _ _=>kd= "sum" | .set _ _=>kd≠ "bag" /\kd≠ "row" /\kd≠ "sum" | .lay _ _ _=>kd= "row" | .drop _ _=>kd= "row"
def zcc (sh:List Sh)(d:Dd):Prop:=(∀x,d.tm=some x->gE sh x)/\∀s,d.nm=some s->∃sx∈sh,sx.1=s/\∃kd r,sx.2.1= .tup (.str kd::r)/\zhS kd d
def qO (sh:List Sh)(r:Rw):Prop:=(∀x,r.1=some x->gE sh x)/\zcc sh r.2
def lO:y4:=λxs st Q=> ∃(i:Nat) (sh:List Sh) (ws:List Str) (a b:Int),xs= [.obj i,.tup [.lst (sh.map yC),.lst (sh.map yC)],.lst (ws.map PV.str)]/\st[i]?=some (zC a b)/\yD a b/\(∀s∈sh,kO s)/\sh≠ []/\sh.length<=63/\ws≠ []/\ws.length<=1000/\∀(r:Rw) a b,qO sh r->yD a b->Q r.pv (st.set i (zC a b))
theorem fD (d:Dd):yJ d.pv=true:=by
 cases d with
 | bag up s t=>cases up <;> rfl
 | _=>rfl
theorem rT {α:Type}{f:α->PV}{m:Nat} : ∀(l:List α),(∀x∈l,z9 (f x)<=m)->dpts (l.map f)<=m
 | [],_=>by unfold dpts;exact Nat.zero_le _
 | x::l,h=>by
  rw[List.map_cons];unfold dpts;exact Nat.max_le.mpr ⟨h x List.mem_cons_self,rT l λy hy=>h y (List.mem_cons_of_mem _ hy)⟩
theorem ziY (h:Hv):z9 h.pv<=2:=by
 cases h with
 | int v=>unfold Hv.pv z9;decide
 | bag l=>
  unfold Hv.pv sU z9;have:=rT (f:=λq:Str×Int=>PV.tup [.str q.1,.int q.2]) (m:=1) l λx _=>by simp[z9,dpts]
  omega
 | row ws=>
  unfold Hv.pv z9;have:=rT (f:=PV.str) (m:=0) ws λx _=>by simp[z9]
  omega
theorem oK: ∀t:Tm uU,z9 (t.pv uU.pv)<=t.rank+1
 | .num k=>by unfold Tm.pv;simp[z9,dpts]
 | .lf l=>by cases l <;> (unfold Tm.pv uU.pv;simp[z9,dpts])
 | .op s a b=>by
  have h1:=oK a;have h2:=oK b;unfold Tm.pv Tm.rank;simp only[z9,dpts];omega
 | .ite a b c=>by
  have h1:=oK a;have h2:=oK b;have h3:=oK c;unfold Tm.pv Tm.rank;simp only[z9,dpts];omega
theorem zoj {s:Sh}(h:kO s):z9 (yC s)<=12:=by
 obtain⟨kd,r,v,e1,hm,e2,_⟩:=h;have hv:=ziY v;unfold yC;rw[e1,e2];rcases hm with⟨_,rfl⟩ | ⟨_,n,t,rfl,_,_,hr⟩
 ·simp only[z9,dpts];omega
 ·have:=oK t
  simp only[z9,dpts];omega
def yH (x:Str×List PV):PV:= .tup (.str x.1::x.2)
inductive Rh where | pl (r:Rw) | split (n:Str) | join (n:Str)
def Rh.pv:Rh->PV | .pl r=>r.pv | .split n=> .tup [.str "split",.str n] | .join n=> .tup [.str "join",.str n]
abbrev Hd:=Str×List Rh
def wQ (h:Hd):Str×List PV:=(h.1,[.tup (h.2.map Rh.pv)])
abbrev yI (h:Hd):PV:=yH (wQ h)
abbrev Sn:=Str×List PV
def xD (sh:List Sn)(hs:List Hd):PV:= .tup [.tup (sh.map yH),.tup (hs.map yI)]
def Rh.deed:Rh->Option Dd | .pl r=>some r.2 | _=>none
def dvP:Option Dd->PV | none=> .non | some d=>d.pv
def Rh.on (S:Str)(r:Rh):Bool:=r.deed.bind Dd.nm==some S
theorem Dd.form2 (d:Dd): ∃(k:Str) (more:List PV),d.pv= .tup (.str k::more)/\(k==("when" :Str))=false/\wI (.str k) [.str "split",.str "join"]=false:=by
 have h: ∀{k:Str},(k∉(["split","join"]:List Str))->wI (.str k) [.str "split",.str "join"]=false:=λ{k} hk=>by
  have e:=mO (w:=k) (ws:= ["split","join"]);rw[List.map_cons,List.map_cons,List.map_nil]at e;rw[e];exact decide_eq_false hk
 cases d with
 | bag up a b=>cases up <;> exact⟨_,_,rfl,by decide+kernel,h (by decide+kernel)⟩
 | _=>exact⟨_,_,rfl,by decide+kernel,h (by decide+kernel)⟩
theorem Dd.form3 (d:Dd){s:Str}(h:d.nm=some s): ∃(k:Str) (more:List PV),d.pv= .tup (.str k:: .str s::more)/\k∉(["split","join","tell"]:List Str)/\True:=by
 cases d with
 | tell x=>cases h
 | bag up a b=>cases h;cases up <;> exact⟨_,_,rfl,by decide+kernel,trivial⟩
 | set a x=>cases h;exact⟨_,_,rfl,by decide+kernel,trivial⟩
 | more a x=>cases h;exact⟨_,_,rfl,by decide+kernel,trivial⟩
 | lay a x b=>cases h;exact⟨_,_,rfl,by decide+kernel,trivial⟩
 | drop a x=>cases h;exact⟨_,_,rfl,by decide+kernel,trivial⟩
def zgi:y4:=λxs st Q=> ∃r:Rh,xs= [r.pv]/\Q (dvP r.deed) st
def zg2:y4:=λxs st Q=> ∃d:Dd,xs= [d.pv]/\Q (opS d.nm) st
def zgp:y4:=λxs st Q=> ∃(r:Rh) (S:Str),xs= [r.pv,.str S]/\Q (.bl (r.on S)) st
def rW (S:Str):PV->Option PV:=λx=>match x with | .tup (.str n::r)=>if n==S then some (.tup (.str n::r))else none | _=>none
theorem zet {S:Str} : ∀{l:List Sn},S∉l.map (·.1)->(l.map yH).filterMap (rW S)= []
 | [],_=>rfl
 | (n,r)::l,h=>by
  rw[List.map_cons,List.mem_cons,not_or]at h;have hb:(n==S)=false:=by simpa using λz:n=S=>h.1 z.symm
  have:rW S (yH (n,r))=none:=by show(if n==S then _ else _)=_;rw[hb];rfl
  rw[List.map_cons,List.filterMap_cons,this];exact zet h.2
theorem zeu {S:Str} : ∀{l:List Sn} {s:Sn},(l.map (·.1)).Nodup->s∈l->s.1=S->(l.map yH).filterMap (rW S)= [yH s]
 | (n,r)::l,s,hn,hm,e=>by
  rw[List.map_cons,List.nodup_cons]at hn;rw[List.map_cons,List.filterMap_cons];by_cases hb:n=S
  ·have:rW S (yH (n,r))=some (yH (n,r)):=by show(if n==S then _ else _)=_;rw[hb,if_pos (beq_self_eq_true _)];rfl
   rw[this,zet (by rw[<- hb];exact hn.1)];rcases List.mem_cons.mp hm with rfl | hm
   ·rfl
   ·exact absurd (List.mem_map.mpr ⟨s,hm,e.trans hb.symm⟩) hn.1
  ·have h1:(n==S)=false:=by simpa using hb
   have:rW S (yH (n,r))=none:=by show(if n==S then _ else _)=_;rw[h1];rfl
   rw[this];rcases List.mem_cons.mp hm with rfl | hm
   ·exact absurd e hb
   ·exact zeu hn.2 hm e
def zbC:y4:=λxs st Q=> ∃(l:List Sn) (S:Str) (s:Sn),xs= [.tup (l.map yH),.str S]/\(l.map (·.1)).Nodup/\s∈l/\s.1=S/\Q (yH s) st
def zg1:y4:=λxs st Q=> ∃(sh:List Sn) (hs:List Hd) (S:Str) (s:Sn),xs= [xD sh hs,.str S]/\(sh.map (·.1)).Nodup/\s∈sh/\s.1=S/\Q (yH s) st
def zbD:y4:=λxs st Q=> ∃(sh:List Sn) (hs:List Hd) (h:Hd),xs= [xD sh hs,.str h.1]/\(hs.map (·.1)).Nodup/\h∈hs/\Q (yI h) st
theorem zki {hs:List Hd} :(hs.map wQ).map (·.1)=hs.map (·.1):=by rw[List.map_map];rfl
def vD (S:Str):List Rh->Nat->List Nat
 | [],_=> []
 | r::rs,k=>(if r.on S then [k]else [])++vD S rs (k+1)
theorem mV {S:Str}{r:Rh} : ∀{l:List Rh} {k:Nat},vD S (l++ [r]) k=vD S l k++(if r.on S then [k+l.length]else [])
 | [],k=>by simp[vD]
 | x::l,k=>by
  rw[List.cons_append];unfold vD;rw[mV,List.append_assoc,List.length_cons,show k+1+l.length=k+(l.length+1) by omega]
theorem zaS {S:Str} : ∀{l:List Rh} {k:Nat},(vD S l k).length<=l.length
 | [],k=>Nat.le_refl _
 | x::l,k=>by
  unfold vD;rw[List.length_append,List.length_cons];have:=zaS (S:=S) (l:=l) (k:=k+1)
  split <;> simp <;> omega
abbrev yE (k:Nat):PV:= .int (k:Int)
def zgj:y4:=λxs st Q=> ∃(sh:List Sn) (hs:List Hd) (h:Hd) (S:Str),xs= [xD sh hs,.str h.1,.str S]/\(hs.map (·.1)).Nodup/\h∈hs/\h.2.length<=1000/\Q (.obj st.length) (st++ [.lst ((vD S h.2 0).map yE)])
def zgt:y4:=λxs st Q=> ∃(rs:List Rh) (S:Str),xs= [.tup (rs.map Rh.pv),.str S]/\rs.length<=1000/\Q (.lst ((vD S rs 0).map yE)) st
theorem vA {α:Type}{l:List α}{k:Nat}{x:α}(h:l[k]?=some x):l.take (k+1)=l.take k++ [x]:=by
 rw[List.take_succ,h];rfl
theorem iC {α:Type}{l:List α}{k:Nat}{x:α}(h:l[k]?=some x):(l.take k).length=k:=by
 rw[List.length_take];have:=(List.getElem?_eq_some_iff.mp h).1;omega
def zbG:y4:=λxs st Q=> ∃k:Int,xs= [.int k]/\Q (.bl true) st
theorem zjk {m:Nat}{Q:K3}{st:z6}{d:Dd}(h:Q d.pv st)(hm:st.take m=st:=by exact List.take_of_length_le (Nat.le_refl _)):xG m Q d.pv st:=by
 obtain⟨k,more,e,_⟩:=d.form2;rw[e]at h⊢
 show Q _ (st.take m);rw[hm];exact h
def Rh.sp:Rh->Option Str | .split n=>some n | _=>none
def Rh.jn:Rh->Option Str | .join n=>some n | _=>none
def sW (kind:Str):PV->Option PV:=λx=>match x with | .tup (.str k::x::_)=>if k==kind then some x else none | _=>none
theorem j6 {kind:Str}{f:Rh->Option Str}(hf:(kind= "split" /\f=Rh.sp)∨(kind= "join" /\f=Rh.jn))(r:Rh):sW kind r.pv=(f r).map PV.str:=by
 have dd: ∀{k:Str} {more:List PV},wI (.str k) [PV.str "split",.str "join"]=false->sW kind (.tup (.str k::more))=none:=λ{k more} hk=>by
  have e:=mO (w:=k) (ws:= ["split","join"]);rw[List.map_cons,List.map_cons,List.map_nil,hk]at e;have hm:k∉(["split","join"]:List Str):=of_decide_eq_false e.symm;have hne:(k==kind)=false:=by
   rcases hf with⟨rfl,_⟩ | ⟨rfl,_⟩ <;> simp at hm⊢ <;> first | exact hm.1 | exact hm.2
  cases more with
  | nil=>rfl
  | cons x m=>show(if k==kind then _ else _)=_;rw[hne];rfl
 cases r with
 | split n=>rcases hf with⟨rfl,rfl⟩ | ⟨rfl,rfl⟩ <;> rfl
 | join n=>rcases hf with⟨rfl,rfl⟩ | ⟨rfl,rfl⟩ <;> rfl
 | pl r=>
  have fn:f (.pl r)=none:=by rcases hf with⟨_,rfl⟩ | ⟨_,rfl⟩ <;> rfl
  rw[fn];obtain⟨g,d⟩:=r;cases g with
  | none=>obtain⟨k,more,e,_,h2⟩:=d.form2;show sW kind d.pv=none;rw[e];exact dd h2
  | some x=>exact dd (by unfold wI;simp[rV];decide+kernel)
theorem zau {kind:Str}{f:Rh->Option Str}(hf:(kind= "split" /\f=Rh.sp)∨(kind= "join" /\f=Rh.jn)): ∀rs:List Rh,(rs.map Rh.pv).filterMap (sW kind)=(rs.filterMap f).map PV.str
 | []=>rfl
 | r::rs=>by
  rw[List.map_cons,List.filterMap_cons,List.filterMap_cons,j6 hf r];cases f r with
  | none=>exact zau hf rs
  | some x=>rw[Option.map_some,List.map_cons];dsimp only;rw[zau hf rs]
theorem jW (r:Rh): ∃(k:Str) (x:PV) (more:List PV),r.pv= .tup (.str k::x::more)/\yJ x=true:=by
 cases r with
 | split n=>exact⟨_,_,_,rfl,by first | rfl | exact tV _⟩
 | join n=>exact⟨_,_,_,rfl,by first | rfl | exact tV _⟩
 | pl r=>
  obtain⟨g,d⟩:=r;cases g with
  | none=>
   cases d with
   | bag up a b=>cases up <;> exact⟨_,_,_,rfl,by first | rfl | exact tV _⟩
   | _=>exact⟨_,_,_,rfl,by first | rfl | exact tV _⟩
  | some x=>exact⟨_,_,_,rfl,by first | rfl | exact tV _⟩
def uH (f:Rh->Option Str)(hs:List Hd):List (z8×PV):=hs.map λh=>(.inr h.1,.lst ((h.2.filterMap f).map PV.str))
theorem mX {kvs:List (z8×PV)}{k:z8}{v:PV}(h:k∉kvs.map (·.1)):vY kvs k v=kvs++ [(k,v)]:=by
 unfold vY;rw[if_neg];intro z;obtain⟨p,hp,e⟩:=List.any_eq_true.mp z;exact h (List.mem_map.mpr ⟨p,hp,of_decide_eq_true e⟩)
def zbE:y4:=λxs st Q=> ∃(sh:List Sn) (hs:List Hd) (kind:Str) (f:Rh->Option Str),xs= [xD sh hs,.str kind]/\((kind= "split" /\f=Rh.sp)∨(kind= "join" /\f=Rh.jn))/\(hs.map (·.1)).Nodup/\hs.length<=1000/\Q (.dct (uH f hs)) st
def wS (f:Rh->Option Str)(hs:List Hd)(n:Str):List Str:=match hs.find? (λh=>h.1==n)with | some h=>h.2.filterMap f | none=> []
theorem zaN {f:Rh->Option Str}{n:Str} : ∀{hs:List Hd},n∈hs.map (·.1)->zU (uH f hs) (.inr n)=some (.lst ((wS f hs n).map PV.str))
 | [],h=>by simp at h
 | h0::hs,h=>by
  unfold uH zU wS;rw[List.map_cons,List.find?_cons,List.find?_cons];by_cases e:h0.1=n
  ·rw[decide_eq_true (by rw[e]),show(h0.1==n)=true by rw[e];exact beq_self_eq_true _];rfl
  ·have e1:decide ((Sum.inr h0.1:z8)=Sum.inr n)=false:=decide_eq_false (λz=>e (Sum.inr.inj z))
   have e2:(h0.1==n)=false:=by simpa using e
   rw[e1,e2];rw[List.map_cons,List.mem_cons]at h;exact zaN (h.resolve_left λz=>e z.symm)
theorem p7 {f:Rh->Option Str} : ∀{hs:List Hd} {h:Hd},(hs.map (·.1)).Nodup->h∈hs->wS f hs h.1=h.2.filterMap f
 | h0::hs,h,hn,hm=>by
  rw[List.map_cons,List.nodup_cons]at hn;unfold wS;rw[List.find?_cons];by_cases e:h0.1=h.1
  ·rw[show(h0.1==h.1)=true by rw[e];exact beq_self_eq_true _]
   rcases List.mem_cons.mp hm with rfl | hm
   ·rfl
   ·exact absurd (List.mem_map.mpr ⟨h,hm,e.symm⟩) hn.1
  ·have e2:(h0.1==h.1)=false:=by simpa using e
   rw[e2];rcases List.mem_cons.mp hm with rfl | hm
   ·exact absurd rfl e
   ·exact p7 hn.2 hm
def x6 (g:Str->List Str):Nat->Str->List Str
 | 0,_=> []
 | d+1,n=>n::(g n).flatMap (x6 g d)
structure oI (g:Str->List Str)(names:List Str)(rk:Str->Nat):Prop where
 sub: ∀n∈names,∀m∈g n,m∈names
 down: ∀n∈names,∀m∈g n,rk m < rk n
 few: ∀n∈names,(g n).length<=7
theorem j7 {α β:Type}{f g:α->List β} : ∀{l:List α},(∀x∈l,f x=g x)->l.flatMap f=l.flatMap g
 | [],_=>rfl
 | x::l,h=>by rw[List.flatMap_cons,List.flatMap_cons,h x (List.mem_cons_self ..),j7 λy hy=>h y (List.mem_cons_of_mem _ hy)]
theorem zfu {g:Str->List Str}{names:List Str}{rk:Str->Nat}(R:oI g names rk): ∀{d d':Nat} {n:Str},n∈names->rk n < d->rk n < d'->x6 g d n=x6 g d' n
 | 0,_,n,_,h,_=>by omega
 | _+1,0,n,_,_,h=>by omega
 | d+1,d'+1,n,hn,h,h'=>by
  unfold x6;rw[j7 λm hm=>zfu R (R.sub n hn m hm) (show rk m < d by have:=R.down n hn m hm;omega) (show rk m < d' by have:=R.down n hn m hm;omega)]
theorem zaW {g:Str->List Str}{names:List Str}{rk:Str->Nat}(R:oI g names rk){d:Nat}{n:Str}(hn:n∈names)(h:rk n < d):x6 g d n=n::(g n).flatMap (x6 g d):=by
 cases d with
 | zero=>omega
 | succ d=>
  show n::(g n).flatMap (x6 g d)=_;rw[j7 λm hm=>zfu R (R.sub n hn m hm) (show rk m < d by have:=R.down n hn m hm;omega) (show rk m < d+1 by have:=R.down n hn m hm;omega)]
def bd:Nat->Nat | 0=>1 | r+1=>1+7 * bd r
theorem kR: ∀{a b:Nat},a<=b->bd a<=bd b
 | 0,0,_=>Nat.le_refl _
 | 0,b+1,_=>by unfold bd;omega
 | a+1,b+1,h=>by unfold bd;have:=kR (show a<=b by omega);omega
theorem zew {α β:Type}{f:α->List β}{m:Nat} : ∀{l:List α},(∀x∈l,(f x).length<=m)->(l.flatMap f).length<=l.length * m
 | [],_=>by simp
 | x::l,h=>by
  rw[List.flatMap_cons,List.length_append,List.length_cons,Nat.succ_mul];have h1:=h x (List.mem_cons_self ..);have h2:=zew (m:=m) λy hy=>h y (List.mem_cons_of_mem x hy);omega
theorem zaV {g:Str->List Str}{names:List Str}{rk:Str->Nat}(R:oI g names rk): ∀{d:Nat} {n:Str},n∈names->(x6 g d n).length<=bd (rk n)
 | 0,n,_=>Nat.zero_le _
 | d+1,n,hn=>by
  unfold x6;rw[List.length_cons];cases hr:rk n with
  | zero=>
   have:g n= []:=by
    cases hg:g n with
    | nil=>rfl
    | cons m l=>have:=R.down n hn m (by rw[hg];exact List.mem_cons_self ..);omega
   rw[this];exact Nat.le_refl _
  | succ r=>
   have h1:=zew (f:=x6 g d) (m:=bd r) (l:=g n) λm hm=>Nat.le_trans (zaV R (R.sub n hn m hm)) (kR (by have:=R.down n hn m hm;omega));have h2:=R.few n hn;have h3:=Nat.mul_le_mul_right (bd r) h2;show _<=1+7 * bd r;omega
theorem bd7:bd 7=960800:=by decide
def nmF:PV->Option PV:=λx=>match x with | .tup (n::_)=>some n | _=>none
def zgr:y4:=λxs st Q=> ∃(sh:List Sn) (h0:Hd) (hs:List Hd) (rk:Str->Nat),xs= [xD sh (h0::hs)]/\((h0::hs).map (·.1)).Nodup/\hs.length<=100/\oI (wS Rh.sp (h0::hs)) ((h0::hs).map (·.1)) rk/\(∀n∈(h0::hs).map (·.1),rk n<=7)/\Q (.tup ((x6 (wS Rh.sp (h0::hs)) 8 h0.1).map PV.str)) st
inductive Rc (g:Str->List Str)(a:Str):Str->Prop
 | one {b:Str} :b∈g a->Rc g a b
 | more {b c:Str} :Rc g a b->c∈g b->Rc g a c
theorem Rc.in_ {g:Str->List Str}{names:List Str}(hs: ∀n∈names,∀m∈g n,m∈names){a b:Str}(ha:a∈names)(h:Rc g a b):b∈names:=by
 induction h with
 | one h=>exact hs a ha _ h
 | more _ h ih=>exact hs _ ih _ h
def yW (ms:List Str):List (z8×PV):=ms.map λn=>(.inr n,.bl true)
theorem zgO {n:Str} : ∀{ms:List Str},zU (yW ms) (.inr n)=if n∈ms then some (.bl true)else none
 | []=>rfl
 | m::ms=>by
  unfold yW zU;rw[List.map_cons,List.find?_cons];by_cases e:m=n
  ·rw[decide_eq_true (by rw[e])];rw[if_pos (by rw[e];exact List.mem_cons_self ..)];rfl
  ·have e1:decide ((Sum.inr m:z8)=Sum.inr n)=false:=decide_eq_false (λz=>e (Sum.inr.inj z))
   rw[e1];have:=zgO (n:=n) (ms:=ms);unfold yW zU at this;rw[this];by_cases hm:n∈ms
   ·rw[if_pos hm,if_pos (List.mem_cons_of_mem _ hm)]
   ·rw[if_neg hm,if_neg (by rw[List.mem_cons,not_or];exact⟨λz=>e z.symm,hm⟩)]
theorem iE {n:Str}{ms:List Str} :(zU (yW ms) (.inr n)).isSome=decide (n∈ms):=by
 rw[zgO];by_cases h:n∈ms
 ·rw[if_pos h,decide_eq_true h];rfl
 ·rw[if_neg h,decide_eq_false h];rfl
theorem zgN {n:Str}{ms:List Str}(h:n∉ms):vY (yW ms) (.inr n) (.bl true)=yW (ms++ [n]):=by
 rw[mX]
 ·unfold yW;rw[List.map_append];rfl
 ·unfold yW;rw[List.map_map];intro z
  obtain⟨m,hm,e⟩:=List.mem_map.mp z;exact h (Sum.inr.inj e▸hm)
theorem zoH {n:Str}{ms:List Str}(h:n∈ms):vY (yW ms) (.inr n) (.bl true)=yW ms:=by
 unfold vY yW;rw[if_pos]
 ·rw[List.map_map]
  refine List.map_congr_left λm hm=> ?_;show(if(Sum.inr m:z8)=Sum.inr n then((Sum.inr m:z8),PV.bl true)else(Sum.inr m,PV.bl true))=_
  split <;> rfl
 ·exact List.any_eq_true.mpr ⟨(.inr n,.bl true),List.mem_map.mpr ⟨n,h,rfl⟩,by simp⟩
theorem sZ {α:Type}[DecidableEq α]: ∀{l m:List α},l.Nodup->(∀x∈l,x∈m)->l.length<=m.length
 | [],m,_,_=>Nat.zero_le _
 | x::l,m,hn,hs=>by
  rw[List.nodup_cons]at hn;have hx:=hs x (List.mem_cons_self ..);have h1:=sZ (l:=l) (m:=m.erase x) hn.2 λy hy=>(List.mem_erase_of_ne (λ(z:y=x)=>hn.1 (z▸hy))).mpr (hs y (List.mem_cons_of_mem _ hy));rw[List.length_erase_of_mem hx]at h1;have:0 < m.length:=List.length_pos_of_mem hx;rw[List.length_cons];omega
def zgh:y4:=λxs st Q=> ∃(lk:List (z8×PV)) (g:Str->List Str) (names:List Str) (one:Str),xs= [.dct lk,.str one]/\(∀n∈names,zU lk (.inr n)=some (.lst ((g n).map PV.str)))/\(∀n∈names,∀m∈g n,m∈names)/\names.Nodup/\names.length<=1000/\one∈names/\∀ms:List Str,(∀n,n∈ms↔Rc g one n)->Q (.dct (yW ms)) st
def zgq:y4:=λxs st Q=> ∃(sh:List Sn) (hs:List Hd) (H:Str),xs= [xD sh hs,.str H]/\(hs.map (·.1)).Nodup/\hs.length<=1000/\H∈hs.map (·.1)/\(∀n∈hs.map (·.1),∀m∈wS Rh.jn hs n,m∈hs.map (·.1))/\∀p:Str->Bool,(∀n,p n=true↔Rc (wS Rh.jn hs) H n/\n≠H)->Q (.tup (.str H::((hs.map (·.1)).filter p).map PV.str)) st
def oO (ms:List Str)(H:Str):PV->Option PV:=λx=>match x with | .tup (.str n::_)=>if decide (n∈ms)&& !(n==H)then some (.str n)else none | _=>none
theorem jB {ms:List Str}{H:Str} : ∀hs:List Hd,(hs.map yI).filterMap (oO ms H)=((hs.map (·.1)).filter λn=>decide (n∈ms)&& !(n==H)).map PV.str
 | []=>rfl
 | h::hs=>by
  have hf:oO ms H (yI h)=if decide (h.1∈ms)&& !(h.1==H)then some (.str h.1)else none:=rfl
  rw[List.map_cons,List.filterMap_cons,hf,List.map_cons,List.filter_cons];cases hc:(decide (h.1∈ms)&& !(h.1==H))with
  | true=>rw[if_pos rfl,if_pos rfl,List.map_cons];dsimp only;rw[jB hs]
  | false=>rw[if_neg (by decide),if_neg (by decide)];exact jB hs
def Rh.ps (k:Nat):Rh->List (Str×Nat) | .split n=> [(n,k)] | _=> []
def Rh.is (H:Str):Rh->Bool | .split n=>n==H | _=>false
def spos:List Rh->Nat->List (Str×Nat)
 | [],_=> []
 | r::rs,k=>r.ps k++spos rs (k+1)
theorem zg8 {r:Rh} : ∀{l:List Rh} {k:Nat},spos (l++ [r]) k=spos l k++r.ps (k+l.length)
 | [],k=>by simp[spos]
 | x::l,k=>by
  rw[List.cons_append];unfold spos;rw[zg8,List.append_assoc,List.length_cons,show k+1+l.length=k+(l.length+1) by omega]
theorem zg7: ∀{l:List Rh} {k:Nat},(spos l k).map (·.1)=l.filterMap Rh.sp
 | [],k=>rfl
 | r::l,k=>by
  unfold spos;rw[List.map_append,zg7];cases r <;> rfl
abbrev qP:=List (Str×(Str×Nat))
def xT (h:Hd)(l:List Rh):qP:=(spos l 0).map λp=>(p.1,(h.1,p.2))
def yO (hs:List Hd):qP:=hs.flatMap λh=>xT h h.2
theorem gC {h:Hd}{l:List Rh}{r:Rh} :xT h (l++ [r])=xT h l++(r.ps l.length).map λp=>(p.1,(h.1,p.2)):=by
 unfold xT;rw[zg8,List.map_append,Nat.zero_add]
def tR (p:Str×Nat):PV:= .tup [.str p.1,.int (p.2:Int)]
def xZ (L:qP):List (z8×PV):=L.map λp=>(.inr p.1,tR p.2)
def rG (L:qP)(H:Str):PV:=(zU (xZ L) (.inr H)).getD .non
theorem zgl {H:Str} : ∀{L:qP},H∉L.map (·.1)->zU (xZ L) (.inr H)=none
 | [],_=>rfl
 | p::L,h=>by
  rw[List.map_cons,List.mem_cons,not_or]at h;unfold xZ zU;rw[List.map_cons,List.find?_cons,decide_eq_false (λz=>h.1 (Sum.inr.inj z).symm)];exact zgl h.2
theorem zgk {H:Str}{v:Str×Nat} : ∀{L L':qP},H∉L.map (·.1)->zU (xZ (L++(H,v)::L')) (.inr H)=some (tR v)
 | [],L',_=>by unfold xZ zU;rw[List.nil_append,List.map_cons,List.find?_cons,decide_eq_true rfl];rfl
 | p::L,L',h=>by
  rw[List.map_cons,List.mem_cons,not_or]at h;unfold xZ zU;rw[List.cons_append,List.map_cons,List.find?_cons,decide_eq_false (λz=>h.1 (Sum.inr.inj z).symm)];exact zgk h.2
def jV (r:Rh):Prop:=z9 r.pv<=40
def zg0:y4:=λxs st Q=> ∃(sh:List Sn) (hs:List Hd) (H:Str),xs= [xD sh hs,.str H]/\(∀h∈hs,∀r∈h.2,jV r)/\Q (rG (yO hs) H) st
def zgu:y4:=λxs st Q=> ∃(sh:List Sn) (hs:List Hd),xs= [xD sh hs]/\((yO hs).map (·.1)).Nodup/\(yO hs).length<=1000/\(∀h∈hs,h.2.length<=1000)/\Q (.dct (xZ (yO hs))) st
theorem zjh {r:Rh}{H:Str} :zW r.pv (.tup [.str "split",.str H])=r.is H:=by
 have e2: ∀{k:Str} {more:List PV},(k==("split" :Str))=false->zW (.tup (.str k::more)) (.tup [.str "split",.str H])=false:=λ{k more} hk=>by
  rw[show zW (.tup (.str k::more)) (.tup [.str "split",.str H])=eqPs (.str k::more) [.str "split",.str H] by unfold zW;rfl];unfold eqPs;rw[rV.2.1,hk];rfl
 cases r with
 | split n=>
  show zW (.tup [.str "split",.str n]) (.tup [.str "split",.str H])=(n==H);rw[show zW (.tup [.str "split",.str n]) (.tup [.str "split",.str H])=eqPs [.str "split",.str n] [.str "split",.str H] by unfold zW;rfl];simp[eqPs,rV]
 | join n=>exact e2 (by decide+kernel)
 | pl r=>
  obtain⟨g,d⟩:=r;cases g with
  | some x=>exact e2 (by decide+kernel)
  | none=>
   obtain⟨k,more,e,_,h2⟩:=d.form2;show zW d.pv _=false;rw[e];refine e2 ?_;have e':=mO (w:=k) (ws:= ["split","join"]);rw[List.map_cons,List.map_cons,List.map_nil,h2]at e';have hm:k∉(["split","join"]:List Str):=of_decide_eq_false e'.symm;simp at hm⊢
   exact hm.1
theorem qK {α:Type}{l:List α} :l.take l.length=l:=List.take_length
theorem zc8 {hs:List Hd}{h:Hd} :yO (hs++ [h])=yO hs++xT h h.2:=by unfold yO;simp
theorem zc7 {hs:List Hd}{k:Nat}{h:Hd}(e:hs[k]?=some h): ∃L,yO hs=yO (hs.take k)++xT h h.2++L:=by
 refine⟨yO (hs.drop (k+1)),?_⟩
 conv=>lhs;rw[<- List.take_append_drop (k+1) hs,vA e]
 unfold yO;simp
theorem zc6 {h:Hd}{j:Nat}{r:Rh}(e:h.2[j]?=some r): ∃L,xT h h.2=xT h (h.2.take (j+1))++L:=by
 obtain⟨L,hL⟩: ∃L,∀k,∃L',spos h.2 k=spos (h.2.take (j+1)) k++L':=by
  refine⟨(),λk=> ?_⟩;have: ∀(l m:List Rh) k,∃L',spos (l++m) k=spos l k++L':=by
   intro l
   induction l with
   | nil=>intro m k;exact⟨_,rfl⟩
   | cons x l ih=>
    intro m k;obtain⟨L',h'⟩:=ih m (k+1);exact⟨L',by rw[List.cons_append];unfold spos;rw[h',List.append_assoc]⟩
  obtain⟨L',h'⟩:=this (h.2.take (j+1)) (h.2.drop (j+1)) k;rw[List.take_append_drop]at h';exact⟨L',h'⟩
 obtain⟨L',h'⟩:=hL 0;exact⟨L'.map λp=>(p.1,(h.1,p.2)),by unfold xT;rw[h',List.map_append]⟩
def i7 (d:Nat):y4:=λxs st Q=> ∃(sh:List Sn) (hs:List Hd) (n:Str) (rk:Str->Nat),xs= [xD sh hs,.str n]/\(hs.map (·.1)).Nodup/\hs.length<=1000/\(∀h∈hs,h.2.length<=1000)/\oI (wS Rh.sp hs) (hs.map (·.1)) rk/\(∀n∈hs.map (·.1),rk n<=7)/\n∈hs.map (·.1)/\rk n < d/\Q (.lst ((x6 (wS Rh.sp hs) 8 n).map PV.str)) st
theorem zgy {K:Frag}{vs:List V}{H:Hp}{Q:VK}{E:XK}(h:zG K (i7 0) vs H Q E):False:=by
 obtain⟨_,_,_,_,_,_,⟨_,_,_,_,_,_,_,_,_,_,_,h1,_⟩,_⟩:=h;omega
def uF (g:Str->List Str)(n:Str)(hs:List Hd):List Str:=(hs.filter λh=>h.1==n).flatMap λh=>(h.2.filterMap Rh.sp).flatMap (x6 g 8)
theorem zey {g:Str->List Str}{n:Str} : ∀{hs:List Hd} {h0:Hd},(hs.map (·.1)).Nodup->h0∈hs->h0.1=n->g n=h0.2.filterMap Rh.sp->uF g n hs=(g n).flatMap (x6 g 8)
 | h::hs,h0,hn,hm,e,eg=>by
  rw[List.map_cons,List.nodup_cons]at hn;unfold uF;rw[List.filter_cons];cases hb:(h.1==n)with
  | true=>
   have e1:h.1=n:=eq_of_beq hb;have hz:(hs.filter λh=>h.1==n)= []:=List.filter_eq_nil_iff.mpr λx hx hz=>hn.1 (List.mem_map.mpr ⟨x,hx,(eq_of_beq hz).trans e1.symm⟩);have hh:h0=h:=by
    rcases List.mem_cons.mp hm with h' | h'
    ·exact h'
    ·exact absurd (List.mem_map.mpr ⟨h0,h',e.trans e1.symm⟩) hn.1
   rw[if_pos rfl,hz,eg,hh];simp
  | false=>
   have hm':h0∈hs:=(List.mem_cons.mp hm).resolve_left λz=>by rw[<- z,e]at hb;simp at hb
   rw[if_neg (by decide)];exact zey hn.2 hm' e eg
def zgs:y4:=λxs st Q=> ∃(sh:List Sn) (hs:List Hd) (H:Str),xs= [xD sh hs,.str H]/\(hs.map (·.1)).Nodup/\hs.length<=1000/\H∈hs.map (·.1)/\(∀n∈hs.map (·.1),∀m∈wS Rh.jn hs n,m∈hs.map (·.1))/\∀ms:List Str,(∀n,n∈ms↔n=H∨Rc (wS Rh.jn hs) H n)->Q (.dct (yW ms)) st
abbrev Ee:=Nat×List Nat
abbrev Re:=Nat×List Rh
def wR:List Ee->Nat->Nat
 | [],_=>0
 | (x,l)::E,y=>if y=x then 1+(l.map (wR E)).sum else wR E y
def wE (E:List Ee):Nat->Nat:=wR E.reverse
theorem zbZ {E:List Ee}{x:Nat}{l:List Nat}{y:Nat} :wE (E++ [(x,l)]) y=if y=x then 1+(l.map (wE E)).sum else wE E y:=by
 unfold wE;rw[List.reverse_append];rfl
theorem zhr {E:List Ee}{y:Nat} : ∀{E1:List Ee},y∉E1.map (·.1)->wR (E1++E) y=wR E y
 | [],_=>rfl
 | (x,l)::E1,h=>by
  rw[List.map_cons,List.mem_cons,not_or]at h;rw[List.cons_append];show(if y=x then _ else wR (E1++E) y)=_;rw[if_neg h.1];exact zhr h.2
theorem zbY {E:List Ee}{y:Nat}{E1:List Ee}(h:y∉E1.map (·.1)):wE (E++E1) y=wE E y:=by
 unfold wE;rw[List.reverse_append];exact zhr (by rw[List.map_reverse,List.mem_reverse];exact h)
theorem zeR {α β:Type}{f g:α->β}{l:List α}(h: ∀x∈l,f x=g x):l.map f=l.map g:=List.map_congr_left h
def iM (E1:List Ee):Prop:= ∀A B x l,E1=A++(x,l)::B->∀y∈l,y∈A.map (·.1)
theorem zbX {E E1:List Ee}(hn:(E1.map (·.1)).Nodup)(hv:iM E1){x:Nat}{l:List Nat}(hm:(x,l)∈E1):wE (E++E1) x=1+(l.map (wE (E++E1))).sum:=by
 obtain⟨A,B,rfl⟩:=List.append_of_mem hm;rw[List.map_append,List.map_cons]at hn;have h1:=List.nodup_append.mp hn;have h2:=List.nodup_cons.mp h1.2.1;have e:E++(A++(x,l)::B)=(E++A++ [(x,l)])++B:=by simp
 rw[e,zbY h2.1,zbZ,if_pos rfl]
 congr 2
 refine zeR λy hy=> ?_;have hyA:=hv A B x l rfl y hy;have hyB:y∉B.map (·.1):=λz=>h1.2.2 y hyA y (List.mem_cons_of_mem _ z) rfl;have hyx:y≠x:=h1.2.2 y hyA x (List.mem_cons_self ..);rw[zbY hyB,zbZ,if_neg hyx]
def tg (rs:List Rh):List Str:=rs.filterMap Rh.sp
def tgs (X:List Re):List Str:=X.flatMap λp=>tg p.2
theorem zbO {X Y:List Re} :tgs (X++Y)=tgs X++tgs Y:=by unfold tgs;simp
theorem zbN {X Y:List Rh} :tg (X++Y)=tg X++tg Y:=by unfold tg;simp
def kN (sh:List Sh):Rh->Prop | .pl r=>qO sh r | _=>True
def zhx (nm:Nat->Str)(X:List Re):Prop:= ∀A k r B,X=A++(k,r)::B->∀m∈tg r,∃j∈A.map (·.1),m=nm j
structure LI (shl:List Sh)(nm:Nat->Str)(sp:List Nat)(E:List Ee)(sp' ks:List Nat)(X:List Re)(E1:List Ee)(rs:List Rh)(hd:List Nat):Prop where
 xk:X.map (·.1)=ks
 ek:E1.map (·.1)=ks
 nd:(ks++sp').Nodup
 sub: ∀x∈ks++sp',x∈sp
 hk: ∀x∈hd,x∈ks
 ev:iM E1
 wt:(hd.map (wE (E++E1))).sum<=ks.length
 tn:(tgs X++tg rs).Nodup
 ti: ∀m∈tgs X++tg rs,∃j∈ks,m=nm j
 er:zhx nm X
 jn: ∀r∈rs,∀m,r.jn=some m->∃j∈ks,m=nm j
 jx: ∀p∈X,∀r∈p.2,∀m,r.jn=some m->∃j∈ks,m=nm j
 ro: ∀r∈rs,kN shl r
 rx: ∀p∈X,(∀r∈p.2,kN shl r)/\p.2.length<=30
section
variable {shl:List Sh} {nm:Nat->Str} {sp:List Nat} {E:List Ee} {sp' ks:List Nat} {X:List Re} {E1:List Ee} {rs:List Rh} {hd:List Nat}
theorem LI.start (hs:sp.Nodup):LI shl nm sp E sp [] [] [] [] []:=
 ⟨rfl,rfl,by simpa using hs,by simp,by simp,(λA B x l h=>by cases A <;> cases h),by simp,by simp[tgs,tg],by simp[tgs,tg],(λA k r B h=>by cases A <;> cases h),by simp,by simp,by simp,by simp⟩
theorem LI.plain (I:LI shl nm sp E sp' ks X E1 rs hd){r:Rw}(hr:qO shl r):LI shl nm sp E sp' ks X E1 (rs++ [.pl r]) hd:=by
 have e:tg (rs++ [.pl r])=tg rs:=by rw[zbN];simp[tg,Rh.sp]
 refine{I with tn:=by rw[e];exact I.tn,ti:=by rw[e];exact I.ti,jn:=λr' h m hm=> ?_,ro:=λr' h=> ?_}
 ·rcases List.mem_append.mp h with h | h
  ·exact I.jn r' h m hm
  ·rw[List.mem_singleton.mp h]at hm;cases hm
 ·rcases List.mem_append.mp h with h | h
  ·exact I.ro r' h
  ·rw[List.mem_singleton.mp h];exact hr
theorem zgC {f:Nat->Nat} : ∀{l:List Nat} {k x:Nat},l[k]?=some x->(l.map f).sum=f x+((l.eraseIdx k).map f).sum
 | [],k,x,h=>by simp at h
 | y::l,0,x,h=>by simp at h;subst h;simp
 | y::l,k+1,x,h=>by
  have:=zgC (f:=f) (l:=l) (k:=k) (x:=x) (by simpa using h);simp[this];omega
theorem LI.join (I:LI shl nm sp E sp' ks X E1 rs hd){k x:Nat}{l:List Nat}(hx:hd[k]?=some x)(hl:(x,l)∈E1):LI shl nm sp E sp' ks X E1 (rs++ [.join (nm x)]) (hd.eraseIdx k++l)/\((hd.eraseIdx k++l).map (wE (E++E1))).sum+1=(hd.map (wE (E++E1))).sum:=by
 have e:tg (rs++ [.join (nm x)])=tg rs:=by rw[zbN];simp[tg,Rh.sp]
 have hxk:=I.hk x (List.mem_iff_getElem?.mpr ⟨k,hx⟩);have hn:(E1.map (·.1)).Nodup:=by rw[I.ek];exact(List.nodup_append.mp I.nd).1
 have hs:((hd.eraseIdx k++l).map (wE (E++E1))).sum+1=(hd.map (wE (E++E1))).sum:=by
  rw[zgC (f:=wE (E++E1)) hx,zbX hn I.ev hl,List.map_append,List.sum_append];omega
 refine⟨{I with tn:=by rw[e];exact I.tn,ti:=by rw[e];exact I.ti,hk:=λy hy=> ?_,wt:=by have:=I.wt;omega,jn:=λr' h m hm=> ?_,ro:=λr' h=> ?_},hs⟩
 ·rcases List.mem_append.mp hy with hy | hy
  ·exact I.hk y (List.mem_of_mem_eraseIdx hy)
  ·obtain⟨A,B,eA⟩:=List.append_of_mem hl
   have:=I.ev A B x l eA y hy;rw[<- I.ek,eA,List.map_append];exact List.mem_append_left _ this
 ·rcases List.mem_append.mp h with h | h
  ·exact I.jn r' h m hm
  ·rw[List.mem_singleton.mp h]at hm;cases hm;exact⟨x,hxk,rfl⟩
 ·rcases List.mem_append.mp h with h | h
  ·exact I.ro r' h
  ·rw[List.mem_singleton.mp h];exact trivial
theorem lQ {α:Type}{X Y A B:List α}{p:α}(h:X++Y=A++p::B):(∃B',X=A++p::B'/\B=B'++Y)∨∃A',A=X++A'/\Y=A'++p::B:=by
 rcases List.append_eq_append_iff.mp h with⟨a,h1,h2⟩ | ⟨c,h1,h2⟩
 ·exact .inr ⟨a,h1,h2⟩
 ·cases c with
  | nil=>simp at h1 h2;exact .inr ⟨[],by simp[h1],by simp[<- h2]⟩
  | cons q c=>rw[List.cons_append]at h2;cases h2;exact .inl ⟨c,h1,rfl⟩
theorem LI.split (inj: ∀a∈sp,∀b∈sp,nm a=nm b->a=b)(I:LI shl nm sp E sp' ks X E1 rs hd){i j:Nat}(hj:sp'[i]?=some j){spc ksc:List Nat}{Xc:List Re}{E1c:List Ee}{rsc:List Rh}{hdc:List Nat}
  (C:LI shl nm (sp'.eraseIdx i) (E++E1) spc ksc Xc E1c rsc hdc) (hlen:rsc.length<=30):
  LI shl nm sp E spc (ks++(ksc++ [j])) (X++(Xc++ [(j,rsc)])) (E1++(E1c++ [(j,hdc)])) (rs++ [.split (nm j)]) (hd++ [j]):=by
 have hjs:j∈sp':=List.mem_iff_getElem?.mpr ⟨i,hj⟩;have nd':=List.nodup_append.mp I.nd;have hsub: ∀x∈ksc++spc,x∈sp'/\x≠j:=λx hx=>by
  have h1:=C.sub x hx;refine⟨List.mem_of_mem_eraseIdx h1,λz=> ?_⟩;subst z;obtain⟨q,hq⟩:=List.mem_iff_getElem?.mp h1;have hn:=nd'.2.1;rw[List.getElem?_eraseIdx]at hq;have hi:=(List.getElem?_eq_some_iff.mp hj).1
  split at hq
  ·have:=(List.getElem?_inj (List.getElem?_eq_some_iff.mp hq).1 hn).mp (hq.trans hj.symm);omega
  ·have:=(List.getElem?_inj (List.getElem?_eq_some_iff.mp hq).1 hn).mp (hq.trans hj.symm);omega
 have cnd:=List.nodup_append.mp C.nd;have hjk:j∉ks:=λz=>nd'.2.2 j z j hjs rfl;have hck: ∀x∈ksc,x∉ks:=λx hx z=>nd'.2.2 x z x (hsub x (List.mem_append_left _ hx)).1 rfl;have eT:tg (rs++ [.split (nm j)])=tg rs++ [nm j]:=by rw[zbN];simp[tg,Rh.sp]
 have eX:tgs (X++(Xc++ [(j,rsc)]))=tgs X++(tgs Xc++tg rsc):=by rw[zbO,zbO];simp[tgs]
 have insp: ∀x∈ks++(ksc++ [j]),x∈sp:=λx hx=>by
  rcases List.mem_append.mp hx with hx | hx
  ·exact I.sub x (List.mem_append_left _ hx)
  ·rcases List.mem_append.mp hx with hx | hx
   ·exact I.sub x (List.mem_append_right _ (hsub x (List.mem_append_left _ hx)).1)
   ·rw[List.mem_singleton.mp hx];exact I.sub j (List.mem_append_right _ hjs)
 have keys:(E1++(E1c++ [(j,hdc)])).map (·.1)=ks++(ksc++ [j]):=by rw[List.map_append,List.map_append,I.ek,C.ek];rfl
 have hndk:(ks++(ksc++ [j])).Nodup:=by
  refine List.nodup_append.mpr ⟨nd'.1,List.nodup_append.mpr ⟨cnd.1,by simp,λa ha b hb=> ?_⟩,λa ha b hb=> ?_⟩
  ·rw[List.mem_singleton.mp hb];exact(hsub a (List.mem_append_left _ ha)).2
  ·rcases List.mem_append.mp hb with hb | hb
   ·exact λz=>hck b hb (z▸ha)
   ·rw[List.mem_singleton.mp hb];exact λz=>hjk (z▸ha)
 have tiC: ∀m∈tgs Xc++tg rsc,∃q∈ksc,m=nm q:=C.ti;refine⟨by rw[List.map_append,List.map_append,I.xk,C.xk];rfl,keys,?_,?_,?_,?_,?_,?_,?_,?_,?_,?_,?_,?_⟩
 ·refine List.nodup_append.mpr ⟨hndk,cnd.2.1,λa ha b hb=> ?_⟩
  have hb':=hsub b (List.mem_append_right _ hb);rcases List.mem_append.mp ha with ha | ha
  ·exact λz=>nd'.2.2 a ha b hb'.1 z
  ·rcases List.mem_append.mp ha with ha | ha
   ·exact cnd.2.2 a ha b hb
   ·rw[List.mem_singleton.mp ha];exact λz=>hb'.2 z.symm
 ·intro x hx
  rcases List.mem_append.mp hx with hx | hx
  ·exact insp x hx
  ·exact I.sub x (List.mem_append_right _ (hsub x (List.mem_append_right _ hx)).1)
 ·intro x hx
  rcases List.mem_append.mp hx with hx | hx
  ·exact List.mem_append_left _ (I.hk x hx)
  ·exact List.mem_append_right _ (List.mem_append_right _ hx)
 ·intro A B x l e y hy
  rcases lQ e with⟨B',h1,_⟩ | ⟨A',rfl,h2⟩
  ·exact I.ev A B' x l h1 y hy
  ·rw[List.map_append]
   refine List.mem_append_right _ ?_;rcases lQ h2 with⟨B',h3,_⟩ | ⟨A'',rfl,h4⟩
   ·exact C.ev A' B' x l h3 y hy
   ·cases A'' with
    | nil=>cases h4;rw[List.append_nil,C.ek];exact C.hk y hy
    | cons q A''=>cases A'' <;> cases h4
 ·have hw: ∀y∈hd,wE (E++(E1++(E1c++ [(j,hdc)]))) y=wE (E++E1) y:=λy hy=>by
   rw[<- List.append_assoc];refine zbY ?_;rw[List.map_append,C.ek];intro z;rcases List.mem_append.mp z with z | z
   ·exact hck y z (I.hk y hy)
   ·have z':y=j:=by simpa using z
    exact hjk (z'▸I.hk y hy)
  have hwj:wE (E++(E1++(E1c++ [(j,hdc)]))) j=1+(hdc.map (wE (E++E1++E1c))).sum:=by
   rw[<- List.append_assoc,<- List.append_assoc,zbZ,if_pos rfl]
  rw[List.map_append,List.sum_append,zeR hw,List.map_cons,List.map_nil,hwj];have h1:=I.wt;have h2:=C.wt;simp only[List.length_append,List.length_singleton,List.sum_cons,List.sum_nil];omega
 ·rw[eX,eT]
  have hp:(tgs X++(tgs Xc++tg rsc)++(tg rs++ [nm j])).Perm ((tgs X++tg rs)++((tgs Xc++tg rsc)++ [nm j])):=by
   generalize tgs Xc++tg rsc=Y;rw[List.append_assoc (tgs X) Y,List.append_assoc (tgs X) (tg rs)];refine List.Perm.append_left _ ?_;rw[<- List.append_assoc,<- List.append_assoc (tg rs)];exact List.Perm.append_right _ List.perm_append_comm
  refine hp.nodup_iff.mpr (List.nodup_append.mpr ⟨I.tn,List.nodup_append.mpr ⟨C.tn,by simp,λa ha b hb z=> ?_⟩,λa ha b hb z=> ?_⟩)
  ·rw[List.mem_singleton.mp hb]at z
   obtain⟨q,hq,e⟩:=tiC a ha;have hq':=hsub q (List.mem_append_left _ hq);exact hq'.2 (inj q (I.sub q (List.mem_append_right _ hq'.1)) j (I.sub j (List.mem_append_right _ hjs)) (by rw[<- e,z]))
  ·obtain⟨p,hp,e⟩:=I.ti a ha
   rcases List.mem_append.mp hb with hb | hb
   ·obtain⟨q,hq,e'⟩:=tiC b hb
    have hq':=hsub q (List.mem_append_left _ hq);have:=inj p (I.sub p (List.mem_append_left _ hp)) q (I.sub q (List.mem_append_right _ hq'.1)) (by rw[<- e,<- e',z]);exact hck q hq (this▸hp)
   ·rw[List.mem_singleton.mp hb]at z
    have:=inj p (I.sub p (List.mem_append_left _ hp)) j (I.sub j (List.mem_append_right _ hjs)) (by rw[<- e,z]);exact hjk (this▸hp)
 ·rw[eX,eT]
  intro m hm;have h1: ∀m∈tgs X++tg rs,∃q∈ks++(ksc++ [j]),m=nm q:=λm hm=>let⟨q,hq,e⟩:=I.ti m hm;⟨q,List.mem_append_left _ hq,e⟩;have h2: ∀m∈tgs Xc++tg rsc,∃q∈ks++(ksc++ [j]),m=nm q:=λm hm=>let⟨q,hq,e⟩:=tiC m hm;⟨q,List.mem_append_right _ (List.mem_append_left _ hq),e⟩;rcases List.mem_append.mp hm with hm | hm
  ·rcases List.mem_append.mp hm with hm | hm
   ·exact h1 m (List.mem_append_left _ hm)
   ·exact h2 m hm
  ·rcases List.mem_append.mp hm with hm | hm
   ·exact h1 m (List.mem_append_right _ hm)
   ·exact⟨j,by simp,List.mem_singleton.mp hm⟩
 ·intro A k r B e m hm
  rcases lQ e with⟨B',h1,_⟩ | ⟨A',rfl,h2⟩
  ·exact I.er A k r B' h1 m hm
  ·rw[List.map_append]
   rcases lQ h2 with⟨B',h3,_⟩ | ⟨A'',rfl,h4⟩
   ·obtain⟨q,hq,e'⟩:=C.er A' k r B' h3 m hm;exact⟨q,List.mem_append_right _ hq,e'⟩
   ·cases A'' with
    | nil=>cases h4;rw[List.append_nil,C.xk];obtain⟨q,hq,e'⟩:=tiC m (List.mem_append_right _ hm);exact⟨q,List.mem_append_right _ hq,e'⟩
    | cons q A''=>cases A'' <;> cases h4
 ·intro r hr m hm
  rcases List.mem_append.mp hr with hr | hr
  ·obtain⟨q,hq,e⟩:=I.jn r hr m hm;exact⟨q,List.mem_append_left _ hq,e⟩
  ·rw[List.mem_singleton.mp hr]at hm;cases hm
 ·intro p hp r hr m hm
  rcases List.mem_append.mp hp with hp | hp
  ·obtain⟨q,hq,e⟩:=I.jx p hp r hr m hm;exact⟨q,List.mem_append_left _ hq,e⟩
  ·rcases List.mem_append.mp hp with hp | hp
   ·obtain⟨q,hq,e⟩:=C.jx p hp r hr m hm;exact⟨q,List.mem_append_right _ (List.mem_append_left _ hq),e⟩
   ·rw[List.mem_singleton.mp hp]at hr
    obtain⟨q,hq,e⟩:=C.jn r hr m hm;exact⟨q,List.mem_append_right _ (List.mem_append_left _ hq),e⟩
 ·intro r hr
  rcases List.mem_append.mp hr with hr | hr
  ·exact I.ro r hr
  ·rw[List.mem_singleton.mp hr];exact trivial
 ·intro p hp
  rcases List.mem_append.mp hp with hp | hp
  ·exact I.rx p hp
  ·rcases List.mem_append.mp hp with hp | hp
   ·exact C.rx p hp
   ·rw[List.mem_singleton.mp hp];exact⟨C.ro,hlen⟩
end
def sg (n:Nat):Str:=⟨#[97+n]⟩
def zdm (n:Nat):List Str:= [sg n,sg n++sg (n+1),sg (n+1),sg (n+1)++sg (n+2),sg (n+2),sg n++sg (n+2),sg n++sg (n+1)++sg (n+2),sg (n+2)++sg (n+1)]
theorem zjc: ∀n < 24,(zdm n).Nodup:=by decide+kernel
theorem ziO: ∀n:Nat,n < 24->Txt.slice (Txt.slice "abcdefghijklmnopqrstuvwxyz" (some (n:Int)) none) none (some 3)=⟨#[97+n,97+(n+1),97+(n+2)]⟩:=by decide+kernel
def zg4:y4:=λxs st Q=> ∃(i:Nat) (a b:Int),xs= [.obj i]/\st[i]?=some (zC a b)/\yD a b/\∀(us ns ts:List Str) a b,us.length=6->us.Nodup->ns.length=8->ns.Nodup->ts≠ []->ts.length<=40->ts.Nodup->yD a b->Q (.tup [.lst (us.map PV.str),.lst (ns.map PV.str),.lst (ts.map PV.str)]) (st.set i (zC a b))
def wY (E:List Ee):List (z8×PV):=E.map λp=>(.inl (p.1:Int),.lst (p.2.map yE))
structure L4 (S:Int->Int->List PV->List PV->z6)(i p r h e:Nat)(kv:List (z8×PV))(E:List Ee):Prop where
 gi: ∀{a b w d},(S a b w d)[i]?=some (zC a b)
 si: ∀{a b w d a' b'},(S a b w d).set i (zC a' b')=S a' b' w d
 gr: ∀{a b w d},(S a b w d)[r]?=some (.lst w)
 sr: ∀{a b w d w'},(S a b w d).set r (.lst w')=S a b w' d
 gh: ∀{a b w d},(S a b w d)[h]?=some (.lst d)
 sh: ∀{a b w d d'},(S a b w d).set h (.lst d')=S a b w d'
 gp: ∀{a b w d},(S a b w d)[p]?=some (.rcd kv)
 ge: ∀{a b w d},(S a b w d)[e]?=some (.dct (wY E))
theorem L4.len {S:Int->Int->List PV->List PV->z6}{i p r h e:Nat}{kv:List (z8×PV)}{E:List Ee}(L:L4 S i p r h e kv E){a b a' b':Int}{w w' d d':List PV} :(S a b w d).length=(S a' b' w' d').length:=by
 have h1:=congrArg List.length (L.si (a:=a) (b:=b) (w:=w) (d:=d) (a':=a') (b':=b'));have h2:=congrArg List.length (L.sr (a:=a') (b:=b') (w:=w) (d:=d) (w':=w'));have h3:=congrArg List.length (L.sh (a:=a') (b:=b') (w:=w') (d:=d) (d':=d'));rw[List.length_set]at h1 h2 h3;omega
theorem fH {α β:Type}{f:α->β} : ∀{l:List α} {k:Nat},(l.map f).eraseIdx k=(l.eraseIdx k).map f
 | [],_=>rfl
 | x::l,0=>rfl
 | x::l,k+1=>by rw[List.map_cons,List.eraseIdx_cons_succ,List.eraseIdx_cons_succ,List.map_cons,fH]
def i6:y4:=λxs st Q=> ∃(S:Int->Int->List PV->List PV->z6) (i p r h e:Nat) (kv:List (z8×PV)) (names:List Str) (E:List Ee) (a b:Int) (w0:List PV) (hd:List Nat),xs= [.obj i,.obj p,.obj r,.obj h]/\st=S a b w0 (hd.map yE)/\L4 S i p r h e kv E/\yD a b/\hd≠ []/\hd.length<=1000/\w0.length<=1000/\
 (zU kv (.inr "names")=some (.lst (names.map PV.str))/\zU kv (.inr "ends")=some (.obj e)/\∀x∈hd,x < names.length/\∃l:List Nat,l.length<=1000/\zU (wY E) (.inl (x:Int))=some (.lst (l.map yE)))/\
 ∀(k x:Nat) (l:List Nat) (nm:Str) a b,hd[k]?=some x->names[x]?=some nm->zU (wY E) (.inl (x:Int))=some (.lst (l.map yE))->yD a b->Q .non (S a b (w0++ [.tup [.str "join",.str nm]]) ((hd.eraseIdx k++l).map yE))
def zP (names:List Str)(i:Nat):Str:=names.getD i Str.empty
def vM (nm:Nat->Str)(R:List Re):List (z8×PV):=R.map λp=>(.inl (p.1:Int),yI (nm p.1,p.2))
def G (a0:PO)(kv:List (z8×PV))(nm:Nat->Str)(sp:List Nat)(E:List Ee)(R:List Re)(m:z6):z6:=a0:: .lst (sp.map yE):: .dct (wY E):: .dct (vM nm R):: .rcd kv::m
structure zc3 (kv:List (z8×PV))(names things:List Str)(shl:List Sh)(many:Nat):Prop where
 nms:zU kv (.inr "names")=some (.lst (names.map PV.str))
 tgs:zU kv (.inr "things")=some (.lst (things.map PV.str))
 uses:zU kv (.inr "uses")=some (.lst (List.replicate many (.tup [.lst (shl.map yC),.lst (shl.map yC)])))
 spare:zU kv (.inr "spare")=some (.obj 1)
 ends:zU kv (.inr "ends")=some (.obj 2)
 rows:zU kv (.inr "rows")=some (.obj 3)
section
variable {a0:PO} {kv:List (z8×PV)} {nm:Nat->Str} {sp:List Nat} {E:List Ee} {R:List Re} {m0 m:z6} {x y z u:PO}
theorem zc1:(G a0 kv nm sp E R m).length=m.length+5:=rfl
theorem zc0:G a0 kv nm sp E R m++m0=G a0 kv nm sp E R (m++m0):=rfl
theorem vF:(G a0 kv nm sp E R m)[1]?=some (.lst (sp.map yE)):=rfl
theorem vG:(G a0 kv nm sp E R m)[2]?=some (.dct (wY E)):=rfl
theorem wW:(G a0 kv nm sp E R m)[3]?=some (.dct (vM nm R)):=rfl
theorem wO:(G a0 kv nm sp E R m)[4]?=some (.rcd kv):=rfl
theorem zif:(m0++ [x,y,z])[m0.length]?=some x:=by rw[List.getElem?_append_right (Nat.le_refl _),Nat.sub_self];rfl
theorem zig:(m0++ [x,y,z])[m0.length+1]?=some y:=by rw[List.getElem?_append_right (by omega),show m0.length+1 - m0.length=1 by omega];rfl
theorem zih:(m0++ [x,y,z])[m0.length+2]?=some z:=by rw[List.getElem?_append_right (by omega),show m0.length+2 - m0.length=2 by omega];rfl
theorem zoq:(m0++ [x,y,z]).set m0.length u=m0++ [u,y,z]:=by rw[List.set_append_right _ _ (Nat.le_refl _),Nat.sub_self];rfl
theorem zor:(m0++ [x,y,z]).set (m0.length+1) u=m0++ [x,u,z]:=by rw[List.set_append_right _ _ (by omega),show m0.length+1 - m0.length=1 by omega];rfl
theorem zos:(m0++ [x,y,z]).set (m0.length+2) u=m0++ [x,y,u]:=by rw[List.set_append_right _ _ (by omega),show m0.length+2 - m0.length=2 by omega];rfl
theorem w6:(G a0 kv nm sp E R (m0++ [x,y,z]))[m0.length+5]?=some x:=zif
theorem vH:(G a0 kv nm sp E R (m0++ [x,y,z]))[m0.length+6]?=some y:=zig
theorem vB:(G a0 kv nm sp E R (m0++ [x,y,z]))[m0.length+7]?=some z:=zih
theorem wA:(G a0 kv nm sp E R (m0++ [x,y,z])).set (m0.length+5) u=G a0 kv nm sp E R (m0++ [u,y,z]):=congrArg (G a0 kv nm sp E R) zoq
theorem vI:(G a0 kv nm sp E R (m0++ [x,y,z])).set (m0.length+6) u=G a0 kv nm sp E R (m0++ [x,u,z]):=congrArg (G a0 kv nm sp E R) zor
theorem vJ:(G a0 kv nm sp E R (m0++ [x,y,z])).set (m0.length+7) u=G a0 kv nm sp E R (m0++ [x,y,u]):=congrArg (G a0 kv nm sp E R) zos
theorem zhB {l:List Nat} :(G a0 kv nm sp E R m).set 1 (.lst (l.map yE))=G a0 kv nm l E R m:=rfl
theorem zhC {E':List Ee} :(G a0 kv nm sp E R m).set 2 (.dct (wY E'))=G a0 kv nm sp E' R m:=rfl
theorem zhD {R':List Re} :(G a0 kv nm sp E R m).set 3 (.dct (vM nm R'))=G a0 kv nm sp E R' m:=rfl
end
structure HP (ns:List Int)(at':Int)(n:Nat)(kv:List (z8×PV))(names things:List Str)(shl:List Sh)(many:Nat)(sp:List Nat)(E:List Ee)(R:List Re):Prop where
 nl:ns.length<=63
 a0:0<=at'
 s7:sp.length<=7
 K:zc3 kv names things shl many
 nn:names.Nodup
 nml:many<=names.length
 n8:names.length=8
 nlt:n < many
 sh: ∀s∈shl,kO s
 se:shl≠ []
 sl:shl.length<=63
 te:things≠ []
 tl:things.length<=1000
 sn:sp.Nodup
 sm: ∀x∈sp,x < many
 ns':n∉sp
 nr:n∉R.map (·.1)
 dr: ∀x∈sp,x∉R.map (·.1)
 de: ∀x∈sp,x∉E.map (·.1)
 el:E.length+sp.length<=100
 rl:R.length+sp.length<=100
def i5 (d:Nat):y4:=λxs st Q=> ∃(ns:List Int) (at':Int) (n:Nat) (a0:PO) (kv:List (z8×PV)) (names things:List Str) (shl:List Sh) (many:Nat) (sp:List Nat) (E:List Ee) (R:List Re) (m0:z6),
 xs= [.lst (ns.map PV.int),.int at',.obj 4,.int (n:Int)]/\st=G a0 kv (zP names) sp E R m0/\HP ns at' n kv names things shl many sp E R/\sp.length < d/\
 ∀sp' ks X E1 rs hd,LI shl (zP names) sp E sp' ks X E1 rs hd->rs.length<=30->Q (.lst (hd.map yE)) (G a0 kv (zP names) sp' (E++E1) (R++X++ [(n,rs)]) m0)
theorem zgo {K:Frag}{vs:List V}{H:Hp}{Q:VK}{E:XK}(h:zG K (i5 0) vs H Q E):False:=by
 obtain⟨_,_,_,_,_,_,⟨_,_,_,_,_,_,_,_,_,_,_,_,_,_,_,_,h1,_⟩,_⟩:=h;omega
theorem zjd {E E1:List Ee}{x:Nat}{l:List Nat}(he:x∉E.map (·.1))(hn:(E1.map (·.1)).Nodup)(hm:(x,l)∈E1):zU (wY (E++E1)) (.inl (x:Int))=some (.lst (l.map yE)):=by
 have go: ∀{L:List Ee},(L.map (·.1)).Nodup->(x,l)∈L->zU (wY L) (.inl (x:Int))=some (.lst (l.map yE)):=by
  intro L
  induction L with
  | nil=>intro _ h;simp at h
  | cons p L ih=>
   intro hn hm;rw[List.map_cons,List.nodup_cons]at hn;unfold wY zU;rw[List.map_cons,List.find?_cons];rcases List.mem_cons.mp hm with rfl | hm
   ·rw[decide_eq_true rfl];rfl
   ·have:((p.1:Int))≠(x:Int):=λz=>hn.1 (List.mem_map.mpr ⟨_,hm,(Int.ofNat.inj z).symm⟩)
    rw[decide_eq_false (λz=>this (Sum.inl.inj z))];exact ih hn.2 hm
 have go2: ∀{L:List Ee},x∉L.map (·.1)->zU (wY (L++E1)) (.inl (x:Int))=zU (wY E1) (.inl (x:Int)):=by
  intro L
  induction L with
  | nil=>intro _;rfl
  | cons p L ih=>
   intro h;rw[List.map_cons,List.mem_cons,not_or]at h;unfold wY zU;rw[List.cons_append,List.map_cons,List.find?_cons];have:decide ((Sum.inl (p.1:Int):z8)=Sum.inl (x:Int))=false:=decide_eq_false (λz=>h.1 (Int.ofNat.inj (Sum.inl.inj z)).symm);show Option.map _ (match decide ((Sum.inl (p.1:Int):z8)=Sum.inl (x:Int))with | true=>_ | false=>_)=_;rw[this];exact ih h.2
 rw[go2 he,go hn hm]
theorem zph {E E1:List Ee}(hn:(E1.map (·.1)).Nodup)(hv:iM E1){x:Nat}(hx:x∈E1.map (·.1)):1<=wE (E++E1) x:=by
 obtain⟨⟨y,l⟩,hm,rfl⟩:=List.mem_map.mp hx;rw[zbX hn hv hm];omega
theorem zbH {f:Nat->Nat} : ∀{l:List Nat},(∀x∈l,1<=f x)->l.length<=(l.map f).sum
 | [],_=>Nat.le_refl _
 | x::l,h=>by
  have h1:=h x (List.mem_cons_self ..);have h2:=zbH (l:=l) λy hy=>h y (List.mem_cons_of_mem _ hy);rw[List.map_cons,List.sum_cons,List.length_cons];omega
theorem zgD {f:Nat->Nat}{x:Nat} : ∀{l:List Nat},x∈l->f x<=(l.map f).sum
 | y::l,h=>by
  rw[List.map_cons,List.sum_cons];rcases List.mem_cons.mp h with rfl | h
  ·omega
  ·have:=zgD (f:=f) h;omega
section
variable {shl:List Sh} {nm:Nat->Str} {sp:List Nat} {E:List Ee} {sp' ks:List Nat} {X:List Re} {E1:List Ee} {rs:List Rh} {hd:List Nat}
theorem LI.len (I:LI shl nm sp E sp' ks X E1 rs hd):ks.length+sp'.length<=sp.length:=by
 have:=sZ I.nd I.sub
 rwa [List.length_append]at this
theorem LI.pos (I:LI shl nm sp E sp' ks X E1 rs hd){x:Nat}(hx:x∈ks):1<=wE (E++E1) x:=zph (by rw[I.ek];exact(List.nodup_append.mp I.nd).1) I.ev (by rw[I.ek];exact hx)
theorem LI.hl (I:LI shl nm sp E sp' ks X E1 rs hd):hd.length<=ks.length:=Nat.le_trans (zbH λx hx=>I.pos (I.hk x hx)) I.wt
theorem LI.val (I:LI shl nm sp E sp' ks X E1 rs hd)(de: ∀x∈sp,x∉E.map (·.1)){x:Nat}(hx:x∈hd): ∃l:List Nat,l.length<=ks.length/\(x,l)∈E1/\zU (wY (E++E1)) (.inl (x:Int))=some (.lst (l.map yE)):=by
 have hk:=I.hk x hx;have hn:(E1.map (·.1)).Nodup:=by rw[I.ek];exact(List.nodup_append.mp I.nd).1
 obtain⟨⟨y,l⟩,hm,e⟩:=List.mem_map.mp (I.ek▸hk);have e':y=x:=e;subst e';refine⟨l,?_,hm,zjd (de y (I.sub y (List.mem_append_left _ hk))) hn hm⟩;have h1:=zbX (E:=E) hn I.ev hm;have h2:=zgD (f:=wE (E++E1)) hx;have h3:=I.wt;obtain⟨A,B,eA⟩:=List.append_of_mem hm;have h4:l.length<=(l.map (wE (E++E1))).sum:=zbH λz hz=>I.pos (by
  have:=I.ev A B y l eA z hz;rw[<- I.ek,eA,List.map_append];exact List.mem_append_left _ this)
 omega
end
theorem zje {E:List Ee}{x:Nat}{l:List Nat}(h:x∉E.map (·.1)):vY (wY E) (.inl (x:Int)) (.lst (l.map yE))=wY (E++ [(x,l)]):=by
 rw[mX]
 ·unfold wY;rw[List.map_append];rfl
 ·unfold wY;rw[List.map_map];intro z
  obtain⟨p,hp,e⟩:=List.mem_map.mp z;exact h (List.mem_map.mpr ⟨p,hp,Int.ofNat.inj (Sum.inl.inj e)⟩)
theorem znT {nm:Nat->Str}{R:List Re}{x:Nat}{rs:List Rh}(h:x∉R.map (·.1)):vY (vM nm R) (.inl (x:Int)) (yI (nm x,rs))=vM nm (R++ [(x,rs)]):=by
 rw[mX]
 ·unfold vM;rw[List.map_append];rfl
 ·unfold vM;rw[List.map_map];intro z
  obtain⟨p,hp,e⟩:=List.mem_map.mp z;exact h (List.mem_map.mpr ⟨p,hp,Int.ofNat.inj (Sum.inl.inj e)⟩)
theorem jH {names:List Str}{x:Nat}(h:x < names.length):names[x]?=some (zP names x):=by
 unfold zP;rw[List.getD_eq_getElem?_getD,List.getElem?_eq_getElem h];rfl
theorem zeX {names:List Str}(hn:names.Nodup){a b:Nat}(ha:a < names.length)(hb:b < names.length)(e:zP names a=zP names b):a=b:=
 (List.getElem?_inj ha hn).mp (by rw[jH ha,jH hb,e])
theorem zdp {l:List Nat}(hn:l.Nodup){i j:Nat}(hj:l[i]?=some j){x:Nat}(h1:x∈l.eraseIdx i):x∈l/\x≠j:=by
 refine⟨List.mem_of_mem_eraseIdx h1,λz=> ?_⟩;subst z;obtain⟨q,hq⟩:=List.mem_iff_getElem?.mp h1;rw[List.getElem?_eraseIdx]at hq
 split at hq
 ·have:=(List.getElem?_inj (List.getElem?_eq_some_iff.mp hq).1 hn).mp (hq.trans hj.symm);omega
 ·have:=(List.getElem?_inj (List.getElem?_eq_some_iff.mp hq).1 hn).mp (hq.trans hj.symm);omega
theorem HP.kid {ns:List Int}{at':Int}{n:Nat}{kv:List (z8×PV)}{names things:List Str}{shl:List Sh}{many:Nat}{sp sp' ks:List Nat}{E E1:List Ee}{R X:List Re}{rs:List Rh}{hd:List Nat}(H:HP ns at' n kv names things shl many sp E R)(I:LI shl (zP names) sp E sp' ks X E1 rs hd){i j:Nat}(hj:sp'[i]?=some j):
  HP ns at' j kv names things shl many (sp'.eraseIdx i) (E++E1) (R++X):=by
 have hjs:j∈sp':=List.mem_iff_getElem?.mpr ⟨i,hj⟩;have hl:=I.len;have nd:=List.nodup_append.mp I.nd;have er: ∀x∈sp'.eraseIdx i,x∈sp'/\x≠j:=λx hx=>zdp nd.2.1 hj hx;have hel:=List.length_eraseIdx_le sp' i;have h7:=H.s7;have ex:X.length=ks.length:=by rw[<- I.xk,List.length_map]
 have ee:E1.length=ks.length:=by rw[<- I.ek,List.length_map]
 have hr:=H.rl;have he:=H.el;have fresh: ∀x∈sp',x∉(R++X).map (·.1)/\x∉(E++E1).map (·.1):=λx hx=>by
  have hxs:=I.sub x (List.mem_append_right _ hx);have hxk:x∉ks:=λz=>nd.2.2 x z x hx rfl;rw[List.map_append,List.map_append,I.xk,I.ek,List.mem_append,List.mem_append,not_or,not_or];exact⟨⟨H.dr x hxs,hxk⟩,H.de x hxs,hxk⟩
 exact{nl:=H.nl,a0:=H.a0,s7:=by omega,K:=H.K,nn:=H.nn,nml:=H.nml,n8:=H.n8,nlt:=H.sm j (I.sub j (List.mem_append_right _ hjs)),sh:=H.sh,se:=H.se,sl:=H.sl,te:=H.te,tl:=H.tl,sn:=nd.2.1.sublist (List.eraseIdx_sublist ..),sm:=λx hx=>H.sm x (I.sub x (List.mem_append_right _ (er x hx).1)),ns':=λz=>(er j z).2 rfl,nr:=(fresh j hjs).1,dr:=λx hx=>(fresh x (er x hx).1).1,de:=λx hx=>(fresh x (er x hx).1).2,el:=by rw[List.length_append];omega,rl:=by rw[List.length_append];omega}
theorem zkf {a0:PO}{kv:List (z8×PV)}{nm:Nat->Str}{sp:List Nat}{E:List Ee}{R:List Re}{m0:z6} :L4 (λa b w d=>G a0 kv nm sp E R (m0++ [zC a b,.lst w,.lst d])) (m0.length+5) 4 (m0.length+6) (m0.length+7) 2 kv E:=⟨w6,wA,vH,vI,vB,vJ,wO,vG⟩
theorem zeG {ns:List Int}{at':Int}{n:Nat}{a0:PO}{kv:List (z8×PV)}{names things:List Str}{shl:List Sh}{many:Nat}{sp sp' ks:List Nat}{E E1:List Ee}{R X:List Re}{rs:List Rh}{hd:List Nat}{m0:z6}{a b:Int}{Q:K3}(H:HP ns at' n kv names things shl many sp E R)(I:LI shl (zP names) sp E sp' ks X E1 rs hd)(hr:rs.length<=1000)(hb:yD a b)(hne:hd≠ [])
  (q: ∀(k x:Nat) (l:List Nat) a b,hd[k]?=some x->(x,l)∈E1->yD a b->Q .non (G a0 kv (zP names) sp' (E++E1) (R++X) (m0++ [zC a b,.lst ((rs++ [Rh.join (zP names x)]).map Rh.pv),.lst ((hd.eraseIdx k++l).map yE)]))):
  i6 [.obj (m0.length+5),.obj 4,.obj (m0.length+6),.obj (m0.length+7)] (G a0 kv (zP names) sp' (E++E1) (R++X) (m0++ [zC a b,.lst (rs.map Rh.pv),.lst (hd.map yE)])) Q:=by
 have h7:=H.s7;have hl:=I.len;have hhl:=I.hl;refine⟨λa b w d=>G a0 kv (zP names) sp' (E++E1) (R++X) (m0++ [zC a b,.lst w,.lst d]),_,4,_,_,2,kv,names,E++E1,a,b,rs.map Rh.pv,hd,rfl,rfl,zkf,hb,hne,by omega,by rw[List.length_map];omega,⟨H.K.nms,H.K.ends,λx hx=>⟨Nat.lt_of_lt_of_le (H.sm x (I.sub x (List.mem_append_left _ (I.hk x hx)))) H.nml,?_⟩⟩,λk x l nm a b hk hn hv hb=> ?_⟩
 ·obtain⟨l,h1,_,h3⟩:=I.val H.de hx
  exact⟨l,by omega,h3⟩
 ·have hx:=List.mem_iff_getElem?.mpr ⟨k,hk⟩
  obtain⟨l',h1,h2,h3⟩:=I.val H.de hx;rw[hv]at h3;have el:l=l':=by
   have:l.map yE=l'.map yE:=PV.lst.inj (Option.some.inj h3);have inj: ∀{u v:List Nat},u.map yE=v.map yE->u=v:=λ{u v} h=>by
    have:=congrArg (List.map λx:PV=>match x with | .int i=>i.toNat | _=>0) h;simpa [List.map_map,Function.comp_def]using this
   exact inj this
  subst el;rw[jH (Nat.lt_of_lt_of_le (H.sm x (I.sub x (List.mem_append_left _ (I.hk x hx)))) H.nml)]at hn;cases hn;have:=q k x l a b hk h2 hb;rw[List.map_append]at this;exact this
theorem jX (r:Rw):yJ r.pv=true:=by
 obtain⟨g,d⟩:=r;cases g with
 | none=>exact fD d
 | some x=>rfl
theorem zb4 {ns:List Int}{at':Int}{n:Nat}{a0:PO}{kv:List (z8×PV)}{names things:List Str}{shl:List Sh}{many:Nat}{sp sp':List Nat}{E E1:List Ee}{R X:List Re}{w d:PO}{m0:z6}{a b:Int}{Q:K3}(H:HP ns at' n kv names things shl many sp E R)(hb:yD a b)
  (q: ∀(r:Rw) a b,qO shl r->yD a b->Q r.pv (G a0 kv (zP names) sp' E1 X (m0++ [zC a b,w,d]))):
  lO [.obj (m0.length+5),.tup [.lst (shl.map yC),.lst (shl.map yC)],.lst (things.map PV.str)] (G a0 kv (zP names) sp' E1 X (m0++ [zC a b,w,d])) Q:=
 ⟨_,shl,things,a,b,rfl,w6,hb,H.sh,H.se,H.sl,H.te,H.tl,λr a b hr hb=>by rw[wA];exact q r a b hr hb⟩
structure kM (sh:List Sn)(hs:List Hd):Prop where
 shn:(sh.map (·.1)).Nodup
 shl:sh.length<=100
 sd: ∀s∈sh,z9 (yH s)<=12
 s2: ∀s∈sh,∃m b,s.2= [m,b]
 hn:(hs.map (·.1)).Nodup
 hl:hs.length<=8
 rl: ∀h∈hs,h.2.length<=30
 rk: ∃rk:Str->Nat,oI (wS Rh.sp hs) (hs.map (·.1)) rk/\∀n∈hs.map (·.1),rk n<=7
 jn: ∀n∈hs.map (·.1),∀m∈wS Rh.jn hs n,m∈hs.map (·.1)
 sn:((yO hs).map (·.1)).Nodup
 sl:(yO hs).length<=1000
 rd: ∀h∈hs,∀r∈h.2,jV r
theorem tL: ∀t:Tm Lf,z9 (t.pv Lf.pv)<=t.rank+1
 | .num k=>by unfold Tm.pv;simp[z9,dpts]
 | .lf l=>by cases l <;> (unfold Tm.pv Lf.pv;simp[z9,dpts])
 | .op s a b=>by
  have h1:=tL a;have h2:=tL b;unfold Tm.pv Tm.rank;simp only[z9,dpts];omega
 | .ite a b c=>by
  have h1:=tL a;have h2:=tL b;have h3:=tL c;unfold Tm.pv Tm.rank;simp only[z9,dpts];omega
theorem ziX {d:Dd}(h: ∀x,d.tm=some x->x.rank < 7):z9 d.pv<=9:=by
 cases d with
 | bag up a b=>cases up <;> (unfold Dd.pv;simp[z9,dpts])
 | tell x=>have h1:z9 (u6 x)<=x.rank+1:=tL x;have h2:=h x rfl;unfold Dd.pv;simp only[z9,dpts];omega
 | set a x=>have h1:z9 (u6 x)<=x.rank+1:=tL x;have h2:=h x rfl;unfold Dd.pv;simp only[z9,dpts];omega
 | more a x=>have h1:z9 (u6 x)<=x.rank+1:=tL x;have h2:=h x rfl;unfold Dd.pv;simp only[z9,dpts];omega
 | lay a x b=>have h1:z9 (u6 x)<=x.rank+1:=tL x;have h2:=h x rfl;unfold Dd.pv;simp only[z9,dpts];omega
 | drop a x=>have h1:z9 (u6 x)<=x.rank+1:=tL x;have h2:=h x rfl;unfold Dd.pv;simp only[z9,dpts];omega
theorem znU {shl:List Sh}{r:Rh}(h:kN shl r):jV r:=by
 unfold jV;cases r with
 | split n=>unfold Rh.pv;simp[z9,dpts]
 | join n=>unfold Rh.pv;simp[z9,dpts]
 | pl r=>
  obtain⟨g,d⟩:=r;have hd:=ziX (d:=d) λx hx=>(h.2.1 x hx).2;cases g with
  | none=>show z9 d.pv<=40;omega
  | some x=>
   have h1:z9 (u6 x)<=x.rank+1:=tL x;have h2:=(h.1 x rfl).2;show z9 (.tup [.str "when",u6 x,d.pv])<=40;simp only[z9,dpts];omega
def qL (nm:Nat->Str)(p:Re):Hd:=(nm p.1,p.2)
theorem zkr {l A B:List Str}{x:Str}(e:l=A++B)(h:x∈A):l.idxOf x < A.length:=by
 rw[e,List.idxOf_append,if_pos h];exact List.idxOf_lt_length_of_mem h
theorem zmK {shl:List Sh}{names:List Str}{sp ks sp':List Nat}{X:List Re}{E1:List Ee}{rs:List Rh}{hd:List Nat}{sh:List Sn}{hs:List Hd}(hnn:names.Nodup)(hsp: ∀x∈sp,x < names.length/\x≠0)(h8:0 < names.length)(h7:sp.length<=7)(I:LI shl (zP names) sp [] sp' ks X E1 rs hd)(hrl:rs.length<=30)
  (shn:(sh.map (·.1)).Nodup) (shl':sh.length<=100) (sd: ∀s∈sh,z9 (yH s)<=12) (s2: ∀s∈sh,∃m b,s.2= [m,b]) (hp:hs.Perm ((X++ [(0,rs)]).map (qL (zP names)))):kM sh hs:=by
 have hkl:=I.len;have hks: ∀x∈ks,x∈sp:=λx hx=>I.sub x (List.mem_append_left _ hx);have hin: ∀x∈ks++ [0],x < names.length:=λx hx=>by
  rcases List.mem_append.mp hx with hx | hx
  ·exact(hsp x (hks x hx)).1
  ·rw[List.mem_singleton.mp hx];exact h8
 have hids:(X++ [((0:Nat),rs)]).map (·.1)=ks++ [0]:=by rw[List.map_append,I.xk];rfl
 have hnd:(ks++ [0]).Nodup:=List.nodup_append.mpr ⟨(List.nodup_append.mp I.nd).1,by simp,λa ha b hb=>by rw[List.mem_singleton.mp hb];exact(hsp a (hks a ha)).2⟩;have hnm:((X++ [((0:Nat),rs)]).map (qL (zP names))).map (·.1)=(ks++ [0]).map (zP names):=by rw[<- hids,List.map_map,List.map_map];rfl
 have hndn:((ks++ [0]).map (zP names)).Nodup:=by
  refine List.pairwise_iff_getElem.mpr λi j hi hj hij e=> ?_;rw[List.getElem_map,List.getElem_map]at e;rw[List.length_map]at hi hj;have:=zeX hnn (hin _ (List.getElem_mem hi)) (hin _ (List.getElem_mem hj)) e;exact List.pairwise_iff_getElem.mp hnd i j hi hj hij this
 have hn:(hs.map (·.1)).Nodup:=by
  have:=hp.map (·.1);rw[hnm]at this;exact this.nodup_iff.mpr hndn
 have hmem: ∀x,x∈hs.map (·.1)↔x∈(ks++ [0]).map (zP names):=λx=>by
  have:=hp.map (·.1);rw[hnm]at this;exact this.mem_iff
 have hof: ∀h∈hs,∃p∈X++ [((0:Nat),rs)],h=qL (zP names) p:=λh hh=>by
  obtain⟨p,hp',e⟩:=List.mem_map.mp (hp.mem_iff.mp hh);exact⟨p,hp',e.symm⟩
 have hall: ∀p∈X++ [((0:Nat),rs)],(∀r∈p.2,kN shl r)/\p.2.length<=30/\(∀m∈tg p.2,∃j∈ks,m=zP names j)/\(∀r∈p.2,∀m,r.jn=some m->∃j∈ks,m=zP names j)/\(tg p.2).Nodup:=λp hp=>by
  rcases List.mem_append.mp hp with hp | hp
  ·refine⟨(I.rx p hp).1,(I.rx p hp).2,λm hm=>I.ti m (List.mem_append_left _ (List.mem_flatMap.mpr ⟨p,hp,hm⟩)),I.jx p hp,?_⟩
   have h1:=(List.nodup_append.mp I.tn).1;obtain⟨A,B,e⟩:=List.append_of_mem hp;rw[e,zbO]at h1;have h2:=(List.nodup_append.mp h1).2.1;unfold tgs at h2;rw[List.flatMap_cons]at h2;exact(List.nodup_append.mp h2).1
  ·rw[List.mem_singleton.mp hp]
   exact⟨I.ro,hrl,λm hm=>I.ti m (List.mem_append_right _ hm),I.jn,(List.nodup_append.mp I.tn).2.1⟩
 have hks7:(ks.map (zP names)).length<=7:=by rw[List.length_map];omega
 have sub1: ∀{m:Str},(∃j∈ks,m=zP names j)->m∈hs.map (·.1):=λ{m} ⟨j,hj,e⟩=>(hmem m).mpr (by rw[e];exact List.mem_map_of_mem (List.mem_append_left _ hj));have hSP:(yO hs).map (·.1)=hs.flatMap λh=>tg h.2:=by
  unfold yO;rw[List.map_flatMap];refine j7 λh _=> ?_;unfold xT tg;rw[List.map_map,<- zg7 (k:=0)];rfl
 have hTP:(hs.flatMap λh=>tg h.2).Perm (tgs X++tg rs):=by
  have h1:=hp.flatMap_right (λh:Hd=>tg h.2);refine h1.trans (List.Perm.of_eq ?_);rw[List.map_append,List.flatMap_append,List.flatMap_map];unfold tgs qL;simp
 have hsn:((yO hs).map (·.1)).Nodup:=by rw[hSP];exact hTP.nodup_iff.mpr I.tn
 refine⟨shn,shl',sd,s2,hn,?_,λh hh=> ?_,⟨λn=>((ks++ [0]).map (zP names)).idxOf n,⟨λn hn' m hm=> ?_,λn hn' m hm=> ?_,λn hn'=> ?_⟩,λn hn'=> ?_⟩,λn hn' m hm=> ?_,hsn,?_,λh hh r hr=> ?_⟩
 ·rw[hp.length_eq,List.length_map,List.length_append,List.length_singleton]
  have:X.length=ks.length:=by rw[<- I.xk,List.length_map]
  omega
 ·obtain⟨p,hp',rfl⟩:=hof h hh;exact(hall p hp').2.1
 ·obtain⟨h,hh,rfl⟩:=List.mem_map.mp hn'
  rw[p7 hn hh]at hm;obtain⟨p,hp',rfl⟩:=hof h hh;exact sub1 ((hall p hp').2.2.1 m hm)
 ·obtain⟨h,hh,rfl⟩:=List.mem_map.mp hn'
  rw[p7 hn hh]at hm;obtain⟨p,hp',rfl⟩:=hof h hh;obtain⟨k,r⟩:=p;show((ks++ [0]).map (zP names)).idxOf m < ((ks++ [0]).map (zP names)).idxOf (zP names k);obtain⟨A,B,e⟩:=List.append_of_mem hp';have eids:ks++ [0]=A.map (·.1)++k::B.map (·.1):=by rw[<- hids,e,List.map_append];rfl
  have hmA:m∈(A.map (·.1)).map (zP names):=by
   rcases lQ e with⟨B',h1,_⟩ | ⟨A',rfl,h2⟩
   ·obtain⟨j,hj,e'⟩:=I.er A k r B' h1 m hm
    rw[e'];exact List.mem_map_of_mem hj
   ·cases A' with
    | nil=>
     cases h2;obtain⟨j,hj,e'⟩:=(hall _ hp').2.2.1 m hm;rw[e',List.append_nil,I.xk];exact List.mem_map_of_mem hj
    | cons q A'=>cases A' <;> cases h2
  have h1:=zkr (l:=(ks++ [0]).map (zP names)) (A:=(A.map (·.1)).map (zP names)) (B:=(k::B.map (·.1)).map (zP names)) (by rw[eids,List.map_append]) hmA;have h2:((A.map (·.1)).map (zP names)).length<=((ks++ [0]).map (zP names)).idxOf (zP names k):=by
   rw[eids,List.map_append]at hndn⊢
   rw[List.idxOf_append,if_neg (λz=>(List.nodup_append.mp hndn).2.2 _ z _ (by rw[List.map_cons];exact List.mem_cons_self ..) rfl)];omega
  omega
 ·obtain⟨h,hh,rfl⟩:=List.mem_map.mp hn'
  rw[p7 hn hh];obtain⟨p,hp',rfl⟩:=hof h hh;have h1:=hall p hp';have:=sZ (l:=tg p.2) (m:=ks.map (zP names)) h1.2.2.2.2 λm hm=>let⟨j,hj,e⟩:=h1.2.2.1 m hm;by rw[e];exact List.mem_map_of_mem hj
  exact Nat.le_trans this hks7
 ·have:=List.idxOf_lt_length_of_mem ((hmem n).mp hn')
  rw[List.length_map,List.length_append,List.length_singleton]at this;show((ks++ [0]).map (zP names)).idxOf n<=7;omega
 ·obtain⟨h,hh,rfl⟩:=List.mem_map.mp hn'
  rw[p7 hn hh]at hm;obtain⟨p,hp',rfl⟩:=hof h hh;obtain⟨r,hr,e⟩:=List.mem_filterMap.mp hm;exact sub1 ((hall p hp').2.2.2.1 r hr m e)
 ·have h1:(yO hs).length=(tgs X++tg rs).length:=by rw[<- List.length_map (f:=(·.1)),hSP,hTP.length_eq]
  have h2:=sZ (l:=tgs X++tg rs) (m:=ks.map (zP names)) I.tn λm hm=>let⟨j,hj,e⟩:=I.ti m hm;by rw[e];exact List.mem_map_of_mem hj
  omega
 ·obtain⟨p,hp',rfl⟩:=hof h hh
  exact znU ((hall p hp').1 r hr)
def zgz:y4:=λxs st Q=> ∃(ns:List Int) (hands:Int),xs= [.lst (ns.map PV.int),.int 0,p8,.bl false,.int hands]/\st= []/\ns.length<=63/\1<=hands/\hands<=8/\∀(sh:List Sn) (h0:Hd) (hs:List Hd),kM sh (h0::hs)->Q (xD sh (h0::hs)) []
theorem oE {k:z8}{v:PV}{r:List (z8×PV)} :zU ((k,v)::r) k=some v:=by unfold zU;rw[List.find?_cons,decide_eq_true rfl];rfl
theorem vR {k k':z8}{v:PV}{r:List (z8×PV)}(h:decide (k'=k)=false):zU ((k',v)::r) k=zU r k:=by unfold zU;rw[List.find?_cons,h]
def wK (nm:Nat->Str)(Y:List Re)(k:Nat):Option Hd:=(Y.find? λp=>p.1==k).map (qL nm)
theorem jD {nm:Nat->Str}{k:Nat} : ∀{Y:List Re},zU (vM nm Y) (.inl (k:Int))=(wK nm Y k).map yI
 | []=>rfl
 | p::Y=>by
  unfold vM wK;rw[List.map_cons,List.find?_cons];by_cases e:p.1=k
  ·subst e
   rw[oE,beq_self_eq_true];rfl
  ·have hd:decide ((Sum.inl (p.1:Int):z8)=Sum.inl (k:Int))=false:=decide_eq_false (λz=>e (Int.ofNat.inj (Sum.inl.inj z)))
   rw[vR hd,show(p.1==k)=false by simpa using e];exact jD
theorem j5 {α β:Type}{f g:α->Option β} : ∀{l:List α},(∀x∈l,f x=g x)->l.filterMap f=l.filterMap g
 | [],_=>rfl
 | x::l,h=>by rw[List.filterMap_cons,List.filterMap_cons,h x (List.mem_cons_self ..),j5 λy hy=>h y (List.mem_cons_of_mem _ hy)]
theorem zeN {nm:Nat->Str} : ∀{X:List Re} {L:List Nat},(X.map (·.1)).Nodup->L.Nodup->(∀k∈X.map (·.1),k∈L)->(L.filterMap (wK nm X)).Perm (X.map (qL nm))
 | [],L,_,_,_=>by
  have:L.filterMap (wK nm [])= []:=by rw[List.filterMap_eq_nil_iff];intro a _;rfl
  rw[this];exact List.Perm.refl _
 | p::X,L,hx,hL,hs=>by
  rw[List.map_cons,List.nodup_cons]at hx;have hp:p.1∈L:=hs p.1 (by rw[List.map_cons];exact List.mem_cons_self ..);have h1:(L.filterMap (wK nm (p::X))).Perm ((p.1::L.erase p.1).filterMap (wK nm (p::X))):=(List.perm_cons_erase hp).filterMap _;refine h1.trans ?_;have e1:wK nm (p::X) p.1=some (qL nm p):=by unfold wK;rw[List.find?_cons,beq_self_eq_true];rfl
  have e2:(L.erase p.1).filterMap (wK nm (p::X))=(L.erase p.1).filterMap (wK nm X):=by
   refine j5 λk hk=> ?_;have hne:p.1≠k:=λz=>by rw[<- z]at hk;exact(List.Nodup.not_mem_erase hL) hk
   unfold wK;rw[List.find?_cons,show(p.1==k)=false by simpa using hne]
  rw[List.filterMap_cons,e1,e2,List.map_cons];refine List.Perm.cons _ (zeN hx.2 (hL.erase _) λk hk=> ?_);exact(List.mem_erase_of_ne λ(z:k=p.1)=>hx.1 (z▸hk)).mpr (hs k (by rw[List.map_cons];exact List.mem_cons_of_mem _ hk))
theorem zkL {nm:Nat->Str}{X:List Re}{rs:List Rh}{k:Nat}(h:k≠0):wK nm (X++ [(0,rs)]) k=wK nm X k:=by
 unfold wK;rw[List.find?_append];have:([((0:Nat),rs)].find? λp=>p.1==k)=none:=by rw[List.find?_cons,show((0:Nat)==k)=false by simpa using h.symm];rfl
 rw[this,Option.or_none]
def v0 (m:Nat):List Nat:=(List.range m).map (· +1)
theorem zgx (m:Nat):(v0 m).Nodup:=by
 unfold v0;refine List.pairwise_iff_getElem.mpr λi j hi hj hij=> ?_;simp only[List.getElem_map,List.getElem_range];omega
theorem lN {m x:Nat} :x∈v0 m↔1<=x/\x<=m:=by
 unfold v0;rw[List.mem_map];constructor
 ·rintro⟨i,hi,rfl⟩;rw[List.mem_range]at hi;omega
 ·intro h;exact⟨x - 1,by rw[List.mem_range];omega,by omega⟩
theorem nM (m:Nat):(v0 m).length=m:=by unfold v0;simp
def shN (s:Sh):Sn:=(s.1,[s.2.1,s.2.2])
def zg3:y4:=λxs st Q=> ∃v:PV,xs= [v,v]/\(v= .non∨∃p,v=tR p)/\Q (.bl true) st
def zgn:y4:=λxs st Q=> ∃(sh:List Sn) (hs:List Hd) (h:Hd),xs= [xD sh hs,.str h.1,.tup (h.2.map Rh.pv),.dct (xZ (yO hs))]/\kM sh hs/\h∈hs/\Q (.bl true) st
def lM:y4:=λxs st Q=> ∃ns:List Int,xs= [.lst (ns.map PV.int)]/\st= []/\ns.length<=63/\∀s,Q (.bl true) s
theorem zkj {sh:List Sn}{hs:List Hd}(P:kM sh hs){h:Hd}(hh:h∈hs):z9 (yI h)<=45:=by
 have:=rT (f:=Rh.pv) (m:=40) h.2 λr hr=>P.rd h hh r hr;unfold yI yH wQ;simp only[z9,dpts];omega
theorem znY (L:qP)(H:Str):rG L H= .non∨∃p,rG L H=tR p:=by
 unfold rG;cases e:zU (xZ L) (.inr H)with
 | none=>exact .inl rfl
 | some z=>
  refine .inr ?_;unfold zU at e;obtain⟨q,hq,e2⟩:=Option.map_eq_some_iff.mp e;have:=List.mem_of_find?_eq_some hq;obtain⟨p,hp,rfl⟩:=List.mem_map.mp this;exact⟨p.2,by rw[<- e2];rfl⟩
section
variable {P:Program} {w:World} {K:Frag} {mg:Str->Option Value} {base:Heap}
theorem zlP {f:Addr}{fd:FuncData}(M:Mo K mg)(F:zV K "deed_of" "deed_of" o5 f fd):zJ P w K mg base zL 1 f fd ["row"] (zG K zgi):=by
 refine x5 0 F zob (λxs st Q h=>by obtain⟨r,rfl,_⟩:=h;rfl) ⟨_,λcdv A outer s H E hr=>(zA (yL (y7 (yT hr) (zE (zN hr) (qv 0) z7 (λ_ _=>rfl)) zI (y3 _)) (zF (yB (zE (zN hr) (qv 0) z7 (λ_ _=>rfl)))) yQ)
   (zA (yL (y7 (mU hr) (zE (zN hr) (qv 0) z7 (λ_ _=>rfl)) (yV (z3 zI (z3 zI z4))) (by rfl)) (zF (yB n5)) yQ)
   (zF (yB (qv 0))))),λxs st Q h=> ?_⟩
 obtain⟨r,rfl,q⟩:=h;have n1:(("split" :Str)==("when" :Str))=false:=by decide+kernel
 have n2:(("join" :Str)==("when" :Str))=false:=by decide+kernel
 have i1:wI (.str "split") [PV.str "split",.str "join"]=true:=by unfold wI;simp[rV]
 have i2:wI (.str "join") [PV.str "split",.str "join"]=true:=by unfold wI;simp[rV]
 have fl: [PV.str "split",PV.str "join"].all wG=true:=rfl;cases r with
 | split n=>
  unfold Rh.pv;refine zB ?_
  try simp? only[n1]
  refine zB ?_
  try simp? only[xY,vE,wG,i1,fl]
  exact q
 | join n=>
  unfold Rh.pv;refine zB ?_
  try simp? only[n2]
  refine zB ?_
  try simp? only[xY,vE,wG,i2,fl]
  exact q
 | pl r=>
  obtain⟨g,d⟩:=r;have hq:Q d.pv st:=q;cases g with
  | none=>
   obtain⟨k,more,e,k1,k2⟩:=d.form2;show u8 _ _ _ (qJ _ [d.pv]) _;rw[e]at hq⊢
   refine zB ?_
   try simp? only[k1]
   refine zB ?_
   try simp? only[xY,vE,wG,k2,fl]
   exact hq
  | some x=>
   show u8 _ _ _ (qJ _ [.tup [.str "when",u6 x,d.pv]]) _;refine zB ?_
   try simp? only[beq_self_eq_true]
   exact zjk hq
theorem zlW {f:Addr}{fd:FuncData}(M:Mo K mg)(F:zV K "shelf_of" "shelf_of" o9 f fd):zJ P w K mg base zL 1 f fd ["deed"] (zG K zg2):=by
 refine x5 0 F zog (λxs st Q h=>by obtain⟨d,rfl,_⟩:=h;rfl) ⟨_,λcdv A outer s H E hr=>(zA (yL (y7 (yT hr) (zE (zN hr) (qv 0) z7 (λ_ _=>rfl)) zI (y3 _)) (zF (yB n5)) yQ)
   (zF (yB (zE (zN hr) (qv 0) z7 (λ_ _=>rfl))))),λxs st Q h=> ?_⟩
 obtain⟨d,rfl,q⟩:=h;cases hd:d.nm with
 | none=>
  rw[hd]at q;cases d with
  | tell x=>
   unfold Dd.pv;refine zB ?_
   try simp? only[beq_self_eq_true]
   exact q
  | bag up a b=>cases hd
  | set a x=>cases hd
  | more a x=>cases hd
  | lay a x b=>cases hd
  | drop a x=>cases hd
 | some s=>
  rw[hd]at q;obtain⟨k,more,e,_,k2⟩:=d.form hd;rw[e];refine zB ?_
  try simp? only[k2]
  exact q
theorem nd0:(["tuples","word","one"]:List Str).Nodup:=by decide+kernel
theorem zfo {f:Addr}{fd:FuncData}(M:Mo K mg)(F:zV K "first_called" "first_called" qE f fd):zJ P w K mg base zL 1 f fd ["tuples","word"] (zG K zbC):=by
 refine x5 0 F zoc (λxs st Q h=>by obtain⟨l,S,s,rfl,_⟩:=h;rfl) ⟨_,λcdv A outer s H E hr=>(zF (yB (zE (zN hr) (pC (own:= ["one"]) (tK (fsc:=zO qE) (N:= ["tuples","word"]) (N':= ["tuples","word"]) rfl rfl (by decide+kernel)) rfl (wU (qv 0)) (λC s H fp pins=>(yF (i:=2) nd0 rfl (Or.inl rfl))) (λC s H fp pins=>nA (y7 (yT hr) (zE (zN hr) (qv 2) z7 (λ_ _=>rfl)) (qv 1) (y3 _))) (λC s H fp pins=>(qv 2))) z7 (λ_ _=>rfl)))),λxs st Q h=> ?_⟩;obtain⟨l,S,s,rfl,hn,hm,e,q⟩:=h
 try simp? only[true_and]
 refine qV (rW S) (λj x e hx he=> ?_) ?_
 ·obtain⟨⟨n,r⟩,hs',rfl⟩:=wC hx
  obtain⟨y,rfl⟩:=oR he;unfold yH
  try simp? only[true_and]
  by_cases hn:n=S
  ·have hb:(n==S)=true:=by rw[hn];exact beq_self_eq_true _
   have hf:rW S (yH (n,r))=some (yH (n,r)):=by show(if n==S then _ else _)=_;rw[hb];rfl
   try simp? only[hb]
   exact CP.yes (e':= [_]) hx hf rfl
  ·have hb:(n==S)=false:=by simpa using hn
   have hf:rW S (yH (n,r))=none:=by show(if n==S then _ else _)=_;rw[hb];rfl
   try simp? only[hb]
   exact CP.no (e':= [_]) hx hf rfl
 rw[zeu hn hm e]
 try simp? only[true_and]
 exact j3 rfl q
theorem zlV {f:Addr}{fd:FuncData}(M:Mo K mg)(F:zV K "shelf_named" "shelf_named" o8 f fd):zJ P w K mg base zL 2 f fd ["program","S"] (zG K zg1):=by
 obtain⟨zar,zao,nU,gO,zaK⟩:=M.first_called;have iU:zJ P w K mg base zL 1 zar zao ["tuples","word"] (zG K zbC):=zfo M nU;refine x5 0 F zof (λxs st Q h=>by obtain⟨sh,hs,S,s,rfl,_⟩:=h;rfl) ⟨_,λcdv A outer s H E hr=>have hr1:zY 1 _:=hr.mono (by decide);(zF (yB (zK iU hr1 (by rfl) zaK nU.kp gO (z3 (zE (zN hr) (qv 0) z7 (λ_ _=>rfl)) (z3 (qv 1) z4))))),λxs st Q h=> ?_⟩;obtain⟨sh,hs,S,s,rfl,hn,hm,e,q⟩:=h;unfold xD
 try simp? only[true_and]
 exact⟨sh,S,s,rfl,hn,hm,e,j3 rfl q⟩
theorem zfp {f:Addr}{fd:FuncData}(M:Mo K mg)(F:zV K "hand_named" "hand_named" o6 f fd):zJ P w K mg base zL 2 f fd ["program","H"] (zG K zbD):=by
 obtain⟨zar,zao,nU,gO,zaK⟩:=M.first_called;have iU:zJ P w K mg base zL 1 zar zao ["tuples","word"] (zG K zbC):=zfo M nU;refine x5 0 F zod (λxs st Q h=>by obtain⟨sh,hs,h,rfl,_⟩:=h;rfl) ⟨_,λcdv A outer s H E hr=>have hr1:zY 1 _:=hr.mono (by decide);(zF (yB (zK iU hr1 (by rfl) zaK nU.kp gO (z3 (zE (zN hr) (qv 0) z7 (λ_ _=>rfl)) (z3 (qv 1) z4))))),λxs st Q h=> ?_⟩;obtain⟨sh,hs,h,rfl,hn,hm,q⟩:=h;unfold xD
 try simp? only[true_and]
 exact⟨hs.map wQ,h.1,wQ h,by rw[List.map_map];rfl,by rw[zki];exact hn,List.mem_map_of_mem hm,rfl,j3 rfl q⟩
theorem zlX {f:Addr}{fd:FuncData}(M:Mo K mg)(F:zV K "split_at" "split_at" oA f fd):zJ P w K mg base zL 1 f fd ["program","H"] (zG K zg0):=by
 refine x5 0 F jZ (λxs st Q h=>by obtain⟨sh,hs,H,rfl,_⟩:=h;rfl) ⟨_,λcdv A outer s H E hr=>(zA (wM PassesOwn.never rfl (wU (zE (zN hr) (qv 0) z7 (λ_ _=>rfl))) (yF (i:=2) jZ.nd rfl (Or.inl rfl)) (zF (wM PassesOwn.never rfl (zfF (by rfl) M.enumerate (z3 (zE (zN hr) (qv 2) z7 (λ_ _=>rfl)) z4)) (t6 (n:=2) rfl (xH (yF (i:=3) jZ.nd rfl (Or.inl rfl)) (xH (yF (i:=4) jZ.nd rfl (Or.inl rfl)) uM))) (zF (yL (y7 (yT hr) (qv 4) (yV (z3 zI (z3 (qv 1) z4))) (y3 _)) (zF (yB (yV (z3 (zE (zN hr) (qv 2) z7 (λ_ _=>rfl)) (z3 (qv 3) z4))))) yQ)))))
   (zF (yB n5))),λxs st Q h=> ?_⟩
 obtain⟨sh,hs,H,rfl,hd,q⟩:=h;refine zB ?_;unfold xD
 try simp? only[true_and]
 refine wH (λk env s=> ∃v1 v2 v3:Option PV,env= [some (.tup [.tup (sh.map yH),.tup (hs.map yI)]),some (.str H),v1,v2,v3]/\H∉(yO (hs.take k)).map (·.1)/\s=st) ⟨none,none,none,rfl,by simp[yO],rfl⟩ ?_ ?_
 ·rintro k x env s hx ⟨v1,v2,v3,rfl,hno,rfl⟩
  obtain⟨h,hh,rfl⟩:=wC hx;obtain⟨L1,eL1⟩:=zc7 hh;unfold yI yH wQ
  try simp? only[za3]
  refine⟨_,rfl,wH (λj env s'=> ∃v2 v3:Option PV,env= [some (.tup [.tup (sh.map yH),.tup (hs.map yI)]),some (.str H),some (.tup [.str h.1,.tup (h.2.map Rh.pv)]),v2,v3]/\H∉(xT h (h.2.take j)).map (·.1)/\s'=s) ⟨_,_,rfl,by simp[xT,spos],rfl⟩ ?_ ?_⟩
  ·rintro j y env s' hy ⟨v2,v3,rfl,hno2,rfl⟩
   obtain⟨y',hy',rfl⟩:=fF hy;obtain⟨r,hr,rfl⟩:=wC hy';obtain⟨L2,eL2⟩:=zc6 hr;have hdr:z9 r.pv<=50:=Nat.le_trans (hd h (List.mem_iff_getElem?.mpr ⟨k,hh⟩) r (List.mem_iff_getElem?.mpr ⟨j,hr⟩)) (by decide);have e2:z9 (.tup [.str "split",.str H]) < 1000:=by simp[z9,dpts]
   rw[vA hr,gC,iC hr]at eL2;have step:r.is H=false->H∉(xT h (h.2.take (j+1))).map (·.1):=λhz=>by
    rw[vA hr,gC,List.map_append,List.mem_append,not_or];refine⟨hno2,?_⟩;cases r with
    | split n=>simp[Rh.is,Rh.ps]at hz⊢;exact λz=>hz z.symm
    | _=>simp[Rh.ps]
   try simp? only[zjh]
   cases r with
   | split n=>
    cases hb:(n==H)with
    | true=>
     have hnH:n=H:=eq_of_beq hb;subst hnH
     try simp? only[Rh.is,beq_self_eq_true]
     refine⟨hdr,?_⟩;have:rG (yO hs) n=tR (h.1,j):=by
      unfold rG;rw[eL1,eL2];show(zU (xZ (yO (hs.take k)++(xT h (h.2.take j)++ [(n,(h.1,j))]++L2)++L1)) (.inr n)).getD .non=_;rw[show yO (hs.take k)++(xT h (h.2.take j)++ [(n,(h.1,j))]++L2)++L1=(yO (hs.take k)++xT h (h.2.take j))++(n,(h.1,j))::(L2++L1) by simp,zgk (by rw[List.map_append,List.mem_append,not_or];exact⟨hno,hno2⟩)]
      rfl
     rw[this]at q;exact q
    | false=>
     try simp? only[Rh.is,hb]
     exact⟨hdr,_,_,rfl,step hb⟩
   | join n=>
    try simp? only[Rh.is]
    exact⟨hdr,_,_,rfl,step rfl⟩
   | pl r=>
    try simp? only[Rh.is]
    exact⟨hdr,_,_,rfl,step rfl⟩
  ·rintro env s' ⟨v2,v3,rfl,hno2,rfl⟩
   rw[mN,List.length_map,qK]at hno2
   try simp? only[true_and]
   exact⟨_,_,_,rfl,by rw[vA hh,zc8,List.map_append,List.mem_append,not_or];exact⟨hno,hno2⟩⟩
 ·rintro env s ⟨v1,v2,v3,rfl,hno,rfl⟩
  rw[List.length_map,qK]at hno
  try simp? only[true_and]
  have:rG (yO hs) H= .non:=by unfold rG;rw[zgl hno];rfl
  rw[this]at q;exact q
theorem nd1:(["program","kind","named","hand","row"]:List Str).Nodup:=by decide+kernel
theorem zfq {f:Addr}{fd:FuncData}(M:Mo K mg)(F:zV K "named_by_hands" "named_by_hands" qI f fd):zJ P w K mg base zL 1 f fd ["program","kind"] (zG K zbE):=by
 refine x5 0 F zb7 (λxs st Q h=>by obtain⟨sh,hs,kind,f,rfl,_⟩:=h;rfl) ⟨_,λcdv A outer s H E hr=>(zA (zT (i:=2) zb7.nd rfl (Or.inl rfl) zbi)
   (zA (wM PassesOwn.never rfl (wU (zE (zN hr) (qv 0) z7 (λ_ _=>rfl))) (yF (i:=3) zb7.nd rfl (Or.inl rfl)) (zF (uO (pC (own:= ["row"]) (tK (fsc:=zO qI) (N:= ["program","kind","named","hand"]) (N':= ["program","kind","named","hand"]) rfl rfl (by decide+kernel)) rfl (wU (zE (zN hr) (qv 3) z7 (λ_ _=>rfl))) (λC s H fp pins=>(yF (i:=4) nd1 rfl (Or.inl rfl))) (λC s H fp pins=>nA (y7 (yT hr) (zE (zN hr) (qv 4) z7 (λ_ _=>rfl)) (qv 1) (y3 _))) (λC s H fp pins=>(zE (zN hr) (qv 4) z7 (λ_ _=>rfl)))) (rA hr (qv 2) (zE (zN hr) (qv 3) z7 (λ_ _=>rfl))))))
   (zF (yB (qv 2))))),λxs st Q h=> ?_⟩
 obtain⟨sh,hs,kind,f,rfl,hf,hn,hl,q⟩:=h;refine zB ?_
 try simp? only[true_and]
 refine zB ?_;unfold xD
 try simp? only[true_and]
 refine wH (λk env s=> ∃v:Option PV,env= [some (xD sh hs),some (.str kind),some (.obj st.length),v]/\s=st++ [.dct (uH f (hs.take k))]) ⟨none,rfl,rfl⟩ ?_ ?_
 ·rintro k x env s hx ⟨v,rfl,rfl⟩
  obtain⟨h,hh,rfl⟩:=wC hx;have hnew:(Sum.inr h.1:z8)∉(uH f (hs.take k)).map (·.1):=by
   unfold uH;rw[List.map_map];intro z;obtain⟨h',hm',e⟩:=List.mem_map.mp z;obtain⟨i,hi⟩:=List.mem_iff_getElem?.mp hm';have hik:i < k:=by have:=(List.getElem?_eq_some_iff.mp hi).1;rw[List.length_take]at this;omega
   rw[List.getElem?_take_of_lt hik]at hi;have e1:h'.1=h.1:=Sum.inr.inj e;have:=(List.getElem?_inj (i:=i) (j:=k) (l:=hs.map (·.1)) (by rw[List.length_map];exact(List.getElem?_eq_some_iff.mp hi).1) hn).mp (by rw[List.getElem?_map,List.getElem?_map,hi,hh,Option.map_some,Option.map_some,e1]);omega
  have hkl:(uH f (hs.take k)).length<=1000:=by unfold uH;rw[List.length_map,List.length_take];omega
  unfold yI yH wQ
  try simp? only[true_and]
  refine qV (sW kind) (λj y e hy he=> ?_) ?_
  ·obtain⟨r,hr,rfl⟩:=wC hy
   obtain⟨y1,rfl⟩:=oR he;obtain⟨k1,x1,more,e1,ex⟩:=jW r;have hfk:sW kind r.pv=if k1==kind then some x1 else none:=by rw[e1];rfl
   rw[e1]at hy hfk⊢
   try simp? only[true_and]
   cases hb:(k1==kind)with
   | true=>
    rw[hb]at hfk
    try simp? only[true_and]
    exact⟨ex,CP.yes (e':= [_]) hy hfk rfl⟩
   | false=>
    rw[hb]at hfk
    try simp? only[true_and]
    exact CP.no (e':= [_]) hy hfk rfl
  ·rw[zau hf]
   try simp? only[true_and]
   exact⟨Nat.lt_of_le_of_lt hkl (by decide),_,rfl,by rw[mX hnew,vA hh];unfold uH;rw[List.map_append];rfl⟩
 ·rintro env s ⟨v,rfl,rfl⟩
  rw[List.length_map,List.take_of_length_le (Nat.le_refl _)]
  try simp? only[true_and]
  exact q
theorem nd2:(["program","splits","order","waiting","word","hand"]:List Str).Nodup:=by decide+kernel
theorem zlR {f:Addr}{fd:FuncData}(M:Mo K mg)(F:zV K "in_split_order" "in_split_order" qG f fd):zJ P w K mg base zL 2 f fd ["program"] (zG K zgr):=by
 obtain⟨zax,zaq,nW,gR,zaM⟩:=M.named_by_hands;have iW:zJ P w K mg base zL 1 zax zaq ["program","kind"] (zG K zbE):=zfq M nW;refine x5 0 F lK (λxs st Q h=>by obtain⟨sh,h0,hs,rk,rfl,_⟩:=h;rfl) ⟨_,λcdv A outer s H E hr=>have hr1:zY 1 _:=hr.mono (by decide);(zA (zT (i:=1) lK.nd rfl (Or.inl rfl) (zK iW hr1 (by rfl) zaM nW.kp gR (z3 (qv 0) (z3 zI z4))))
   (zA (zT (i:=2) lK.nd rfl (Or.inl rfl) (sQ z4))
   (zA (znx (i0:=3) (own:= ["hand"]) (tK (fsc:=zO qG) (N:= ["program","splits","order","waiting","word"]) (N':= ["program","splits","order","waiting","word"]) rfl rfl (by decide+kernel)) lK.nd rfl (Or.inl rfl) rfl (wU (t5 (zE (zN hr) (qv 0) z7 (λ_ _=>rfl)) t8 (uN z7))) (λC s H fp pins=>(yF (i:=5) nd2 rfl (Or.inl rfl))) (λC s H fp pins=>mZ) (λC s H fp pins=>(zE (zN hr) (qv 5) z7 (λ_ _=>rfl))))
   (zA (zbj PassesOwn.never (rD (qv 3)) (zA (zT (i:=4) lK.nd rfl (Or.inl rfl) (zfE PySem.F.plainAttrs_list PySem.F.slot_list_pop PySem.F.type_list_pop (by decide) zfg (qv 3)))
   (zA (wZ (wT PySem.F.plainAttrs_list PySem.F.slot_list_append PySem.F.type_list_append (by decide) uC (qv 2) (z3 (qv 4) z4)))
   (zF (wZ (wT PySem.F.plainAttrs_list PySem.F.slot_list_extend PySem.F.type_list_extend (by decide) zfc (qv 3) (z3 (znp rfl (by rfl) M.list (by rfl) M.reversed (zE (zN hr) (qv 1) (qv 4) (λ_ _=>rfl))) z4)))))))
   (zF (yB (vZ (pA rfl) (by rfl) M.tuple sC (z3 (qv 2) z4)))))))),λxs st Q h=> ?_⟩
 obtain⟨sh,h0,hs,rk,rfl,hn,hl,R,hr7,q⟩:=h;obtain⟨all,eall⟩: ∃all,h0::hs=all:=⟨_,rfl⟩;have h0m:h0.1∈all.map (·.1):=by rw[<- eall];exact List.mem_cons_self ..
 have hal:all.length<=1000:=by rw[<- eall,List.length_cons];omega
 rw[eall]at hn R hr7 q⊢
 refine zB ?_
 try simp? only[true_and]
 refine⟨sh,all,"split",Rh.sp,rfl,.inl ⟨rfl,rfl⟩,hn,hal,?_⟩
 try simp? only[true_and]
 refine zB ?_
 try simp? only[true_and]
 refine zB ?_;unfold xD
 try simp? only[true_and]
 rw[show((1:Int))=((1:Nat):Int)from rfl,mM,<- List.map_take,<- eall,List.take_succ_cons,List.take_zero,eall];refine qV nmF (λj y e hy he=> ?_) ?_
 ·obtain⟨h,hh,rfl⟩:=wC hy
  obtain⟨y1,rfl⟩:=oR he;unfold yI yH at hy⊢
  try simp? only[true_and]
  exact CP.yes (e':= [_]) hy rfl rfl
 show u8 _ _ _ _ (st++ [PO.lst []]++ [PO.lst [PV.str h0.1]]);obtain⟨g,eg⟩: ∃g,wS Rh.sp all=g:=⟨_,rfl⟩;have gv: ∀n∈all.map (·.1),zU (uH Rh.sp all) (.inr n)=some (.lst ((g n).map PV.str)):=λn hn=>by rw[zaN hn,eg]
 rw[eg]at R q;have hbig:(x6 g 8 h0.1).length<=960800:=Nat.le_trans (zaV R h0m) (by rw[<- bd7];exact kR (hr7 _ h0m));have g1: ∀{x y:PO},(st++ [x]++ [y])[st.length]?=some x:=λ{x y} =>by rw[List.append_assoc,List.getElem?_append_right (Nat.le_refl _),Nat.sub_self];rfl
 have g2: ∀{x y:PO},(st++ [x]++ [y])[st.length+1]?=some y:=λ{x y} =>by rw[List.append_assoc,List.getElem?_append_right (by omega),show st.length+1 - st.length=1 by omega];rfl
 have s1: ∀{x y z:PO},(st++ [x]++ [y]).set st.length z=st++ [z]++ [y]:=λ{x y z} =>by rw[List.append_assoc,List.set_append_right _ _ (Nat.le_refl _),Nat.sub_self];simp
 have s2: ∀{x y z:PO},(st++ [x]++ [y]).set (st.length+1) z=st++ [x]++ [z]:=λ{x y z} =>by rw[List.append_assoc,List.set_append_right _ _ (by omega),show st.length+1 - st.length=1 by omega];simp
 refine zB ?_;have len1':(st++ [PO.lst []]).length=st.length+1:=by simp
 rw[len1'];refine⟨λm env s=> ∃(wt od:List Str) (v:Option PV),env= [some (.tup [.tup (sh.map yH),.tup (all.map yI)]),some (.dct (uH Rh.sp all)),some (.obj st.length),some (.obj (st.length+1)),v]/\s=st++ [.lst (od.map PV.str)]++ [.lst (wt.map PV.str)]/\(∀n∈wt,n∈all.map (·.1))/\od++wt.reverse.flatMap (x6 g 8)=x6 g 8 h0.1/\m=(wt.reverse.flatMap (x6 g 8)).length,⟨_,[h0.1],[],none,rfl,rfl,λn hn=>by rw[List.mem_singleton.mp hn];exact h0m,by simp,rfl⟩,?_⟩;rintro m env s ⟨wt,od,v,rfl,rfl,hw,ho,rfl⟩
 try simp? only[g2]
 rcases List.eq_nil_or_concat wt with rfl | ⟨wt',n,rfl⟩
 ·have ho':od=x6 g 8 h0.1:=by simpa using ho
  have t1: ∀{x y:PO},(st++ [x]++ [y]).take st.length=st:=λ{x y} =>by rw[List.append_assoc,List.take_append_of_le_length (Nat.le_refl _),List.take_length]
  try simp? only[g1,t1]
  rw[ho'];exact q
 ·rw[List.concat_eq_append]at *
  have nm:n∈all.map (·.1):=hw n (by simp);have hgl:((wt'++ [n]).map PV.str).getLast?=some (.str n):=by simp
  have hdl:((wt'++ [n]).map PV.str).dropLast=wt'.map PV.str:=by simp
  have hne:((wt'++ [n]).map PV.str).isEmpty=false:=by simp
  have hst:=zaW R nm (show rk n < 8 by have:=hr7 n nm;omega);have hfl:(wt'++ [n]).reverse.flatMap (x6 g 8)=n::((g n).flatMap (x6 g 8)++wt'.reverse.flatMap (x6 g 8)):=by
   rw[List.reverse_append,List.reverse_singleton,List.singleton_append,List.flatMap_cons,hst];rfl
  have hlen:=congrArg List.length ho;rw[hfl,List.length_append,List.length_cons,List.length_append]at hlen;have hex:(wt'++(g n).reverse).reverse.flatMap (x6 g 8)=(g n).flatMap (x6 g 8)++wt'.reverse.flatMap (x6 g 8):=by
   rw[List.reverse_append,List.reverse_reverse,List.flatMap_append]
  have hwl: ∀{l:List Str},(∀x∈l,x∈all.map (·.1))->l.length<=(l.flatMap (x6 g 8)).length:=λ{l} =>by
   induction l with
   | nil=>intro _;exact Nat.le_refl _
   | cons x l ih=>
    intro h;rw[List.flatMap_cons,List.length_append,List.length_cons];have h1:=ih λy hy=>h y (List.mem_cons_of_mem _ hy);have hx:=h x (List.mem_cons_self ..);have h2:=zaW R hx (show rk x < 8 by have:=hr7 x hx;omega);have h3:1<=(x6 g 8 x).length:=by rw[h2,List.length_cons];omega
    omega
  have hw': ∀x∈wt'.reverse,x∈all.map (·.1):=λx hx=>hw x (by simp at hx⊢;exact .inl hx);have hg': ∀x∈g n,x∈all.map (·.1):=R.sub n nm;have l1:=hwl hw';have l2:=hwl hg';rw[List.length_reverse]at l1
  try simp? only[hne]
  refine⟨λe s=> ∃(v:Option PV),e= [some (.tup [.tup (sh.map yH),.tup (all.map yI)]),some (.dct (uH Rh.sp all)),some (.obj st.length),some (.obj (st.length+1)),v]/\s=st++ [.lst ((od++ [n]).map PV.str)]++ [.lst ((wt'++(g n).reverse).map PV.str)],?_,?_⟩
  ·rintro e s ⟨v,rfl,rfl⟩
   refine⟨_,?_,wt'++(g n).reverse,od++ [n],v,rfl,rfl,λx hx=> ?_,?_,rfl⟩
   ·rw[hex,hfl,List.length_cons];exact Nat.lt_succ_self _
   ·rcases List.mem_append.mp hx with hx | hx
    ·exact hw x (by simp[hx])
    ·exact hg' x (by simpa using hx)
   ·rw[hex,<- ho,hfl];simp
  ·have gvn:=gv n nm
   have big:(960800:Nat) < sizeLine:=by rw[sizeLine_eq];decide
   refine zB ?_
   try simp? only[g2,hgl,hdl,s2]
   refine zB ?_
   try simp? only[g1,s1,List.length_map]
   refine⟨by omega,?_⟩
   try simp? only[gvn,g2,s2,List.length_map,List.length_reverse]
   refine⟨by omega,_,rfl,by simp⟩
theorem zlO {f:Addr}{fd:FuncData}(M:Mo K mg)(F:zV K "come_to" "come_to" o4 f fd):zJ P w K mg base zL 1 f fd ["links","one"] (zG K zgh):=by
 refine x5 0 F lJ (λxs st Q h=>by obtain⟨lk,g,names,one,rfl,_⟩:=h;rfl) ⟨_,λcdv A outer s H E hr=>(zA (zT (i:=2) lJ.nd rfl (Or.inl rfl) zbi)
   (zA (zT (i:=3) lJ.nd rfl (Or.inl rfl) (sQ (z3 (qv 1) z4)))
   (zA (zbj PassesOwn.never (rD (qv 3)) (zA (zT (i:=4) lJ.nd rfl (Or.inl rfl) (zfE PySem.F.plainAttrs_list PySem.F.slot_list_pop PySem.F.type_list_pop (by decide) zfg (qv 3)))
   (zF (wM PassesOwn.never rfl (wU (zE (zN hr) (qv 0) (qv 4) (λ_ _=>rfl))) (yF (i:=5) lJ.nd rfl (Or.inl rfl)) (zF (yL (y7 (zaP hr) (qv 5) (qv 2) (by rfl)) (zA (uO sP (rA hr (qv 2) (qv 5)))
   (zF (wZ (wT PySem.F.plainAttrs_list PySem.F.slot_list_append PySem.F.type_list_append (by decide) uC (qv 3) (z3 (qv 5) z4))))) yQ))))))
   (zF (yB (qv 2)))))),λxs st Q h=> ?_⟩
 obtain⟨lk,g,names,one,rfl,hv,hsub,hnd,hnl,ho,q⟩:=h;have g1: ∀{x y:PO},(st++ [x]++ [y])[st.length]?=some x:=λ{x y} =>by rw[List.append_assoc,List.getElem?_append_right (Nat.le_refl _),Nat.sub_self];rfl
 have g2: ∀{x y:PO},(st++ [x]++ [y])[st.length+1]?=some y:=λ{x y} =>by rw[List.append_assoc,List.getElem?_append_right (by omega),show st.length+1 - st.length=1 by omega];rfl
 have s1: ∀{x y z:PO},(st++ [x]++ [y]).set st.length z=st++ [z]++ [y]:=λ{x y z} =>by rw[List.append_assoc,List.set_append_right _ _ (Nat.le_refl _),Nat.sub_self];simp
 have s2: ∀{x y z:PO},(st++ [x]++ [y]).set (st.length+1) z=st++ [x]++ [z]:=λ{x y z} =>by rw[List.append_assoc,List.set_append_right _ _ (by omega),show st.length+1 - st.length=1 by omega];simp
 have t1: ∀{x y:PO},(st++ [x]++ [y]).take st.length=st:=λ{x y} =>by rw[List.append_assoc,List.take_append_of_le_length (Nat.le_refl _),List.take_length]
 have len1': ∀{x:PO},(st++ [x]).length=st.length+1:=by simp
 have big:(3000:Nat) < sizeLine:=by rw[sizeLine_eq];decide
 refine zB ?_
 try simp? only[true_and]
 refine zB ?_
 try simp? only[true_and]
 rw[len1'];refine zB ?_;refine⟨λm env s=> ∃(wt ms:List Str) (v w:Option PV),env= [some (.dct lk),some (.str one),some (.obj st.length),some (.obj (st.length+1)),v,w]/\s=st++ [.dct (yW ms)]++ [.lst (wt.map PV.str)]/\ms.Nodup/\(∀x∈ms,Rc g one x)/\(∀x∈wt,x=one∨x∈ms)/\(∀x,(x=one∨x∈ms)->x∉wt->∀y∈g x,y∈ms)/\m=(names.length - ms.length)+wt.length/\wt.length<=1+ms.length,⟨_,[one],[],none,none,rfl,rfl,List.nodup_nil,by simp,by simp,λx hx hn=>by simp at hx hn;exact absurd hx hn,rfl,by simp⟩,?_⟩;rintro m env s ⟨wt,ms,v,w,rfl,rfl,hmn,hmr,hwm,hcl,rfl,hwl⟩;have hmi: ∀x∈ms,x∈names:=λx hx=>(hmr x hx).in_ hsub ho;have hml:ms.length<=names.length:=sZ hmn hmi
 try simp? only[g2]
 rcases List.eq_nil_or_concat wt with rfl | ⟨wt',n,rfl⟩
 ·try simp? only[g1,t1]
  unfold xG;dsimp only;rw[if_neg (Nat.lt_irrefl _),g1];dsimp only;rw[t1];refine q ms λx=>⟨hmr x,λh=> ?_⟩;have cl: ∀x,(x=one∨x∈ms)->∀y∈g x,y∈ms:=λx hx=>hcl x hx (by simp)
  induction h with
  | one h=>exact cl one (.inl rfl) _ h
  | more _ h ih=>exact cl _ (.inr ih) _ h
 ·rw[List.concat_eq_append]at *
  have hno:n=one∨n∈ms:=hwm n (by simp);have nm:n∈names:=hno.elim (λe=>e▸ho) (hmi n);have hgl:((wt'++ [n]).map PV.str).getLast?=some (.str n):=by simp
  have hdl:((wt'++ [n]).map PV.str).dropLast=wt'.map PV.str:=by simp
  have hne:((wt'++ [n]).map PV.str).isEmpty=false:=by simp
  have gvn:=hv n nm
  try simp? only[hne]
  refine⟨λe s=> ∃(wt2 ms2:List Str) (v w:Option PV),e= [some (.dct lk),some (.str one),some (.obj st.length),some (.obj (st.length+1)),v,w]/\s=st++ [.dct (yW ms2)]++ [.lst (wt2.map PV.str)]/\ms2.Nodup/\(∀x∈ms2,Rc g one x)/\(∀x∈wt2,x=one∨x∈ms2)/\(∀x,(x=one∨x∈ms2)->x∉wt2->∀y∈g x,y∈ms2)/\(names.length - ms2.length)+wt2.length < (names.length - ms.length)+(wt'++ [n]).length/\wt2.length<=1+ms2.length,?_,?_⟩
  ·rintro e s ⟨wt2,ms2,v,w,h1,h2,h3,h4,h5,h6,h7,h8⟩
   exact⟨_,h7,wt2,ms2,v,w,h1,h2,h3,h4,h5,h6,rfl,h8⟩
  ·refine zB ?_
   try simp? only[g2,hgl,hdl,s2]
   try simp? only[gvn]
   refine wH (λk env s=> ∃(wt2 ms2:List Str) (w:Option PV),env= [some (.dct lk),some (.str one),some (.obj st.length),some (.obj (st.length+1)),some (.str n),w]/\s=st++ [.dct (yW ms2)]++ [.lst (wt2.map PV.str)]/\ms2.Nodup/\(∀x∈ms2,Rc g one x)/\(∀x∈wt2,x=one∨x∈ms2)/\(∀x∈ms,x∈ms2)/\(∀x∈(g n).take k,x∈ms2)/\(∀x∈ms2,x∈ms∨x∈wt2)/\(∀x∈wt',x∈wt2)/\(names.length - ms2.length)+wt2.length=(names.length - ms.length)+wt'.length/\wt2.length+ms.length=wt'.length+ms2.length) ⟨wt',ms,w,rfl,rfl,hmn,hmr,λx hx=>hwm x (by simp[hx]),λx hx=>hx,by simp,λx hx=> .inl hx,λx hx=>hx,rfl,rfl⟩ ?_ ?_
   ·rintro k x env s hx ⟨wt2,ms2,w,rfl,rfl,h3,h4,h5,h6,h7,h8,h9,h10,h11⟩
    obtain⟨y,hy,rfl⟩:=wC hx;have hyg:y∈g n:=List.mem_iff_getElem?.mpr ⟨k,hy⟩;have hyr:Rc g one y:=hno.elim (λe=> .one (e▸hyg)) λhm=> .more (hmr n hm) hyg;have hin: ∀{Q:K3},xY true (.str y) (.obj st.length) (st++ [.dct (yW ms2)]++ [.lst (wt2.map PV.str)]) Q=Q (.bl (!decide (y∈ms2))) (st++ [.dct (yW ms2)]++ [.lst (wt2.map PV.str)]):=λ{Q} =>by
     unfold xY vE vU;dsimp only;rw[g1];show Q (.bl (!(zU (yW ms2) (.inr y)).isSome)) _=_;rw[iE]
    have hm2:ms2.length<=names.length:=sZ h3 λx hx=>(h4 x hx).in_ hsub ho
    try simp? only[hin]
    by_cases hd:y∈ms2
    ·have hdd:decide (y∈ms2)=true:=decide_eq_true hd
     try simp? only[hdd]
     refine⟨wt2,ms2,_,rfl,rfl,h3,h4,h5,h6,λx hx=> ?_,h8,h9,h10,h11⟩;rw[vA hy]at hx;rcases List.mem_append.mp hx with hx | hx
     ·exact h7 x hx
     ·rw[List.mem_singleton.mp hx];exact hd
    ·have hdd:decide (y∈ms2)=false:=decide_eq_false hd
     have hm3:(ms2++ [y]).length<=names.length:=sZ (l:=ms2++ [y]) (List.nodup_append.mpr ⟨h3,by simp,λa ha b hb=>by rw[List.mem_singleton.mp hb];exact λz=>hd (z▸ha)⟩) λx hx=>by
      rcases List.mem_append.mp hx with hx | hx
      ·exact(h4 x hx).in_ hsub ho
      ·rw[List.mem_singleton.mp hx];exact hyr.in_ hsub ho
     rw[List.length_append,List.length_singleton]at hm3;have htl:(yW ms2).length=ms2.length:=by unfold yW;rw[List.length_map]
     have hw2:wt2.length<=1000:=by rw[List.length_append,List.length_singleton]at hwl;omega
     have tn:=zgN hd
     try simp? only[hdd]
     refine zB ?_
     try simp? only[g1,s1,htl,tn]
     refine⟨by omega,?_⟩
     try simp? only[g2,s2,List.length_map]
     refine⟨by omega,wt2++ [y],ms2++ [y],_,rfl,by simp,List.nodup_append.mpr ⟨h3,by simp,λa ha b hb=>by rw[List.mem_singleton.mp hb];exact λz=>hd (z▸ha)⟩,λx hx=> ?_,λx hx=> ?_,λx hx=>List.mem_append_left _ (h6 x hx),λx hx=> ?_,λx hx=> ?_,λx hx=>List.mem_append_left _ (h9 x hx),by simp only[List.length_append,List.length_singleton];omega,by simp only[List.length_append,List.length_singleton];omega⟩
     ·rcases List.mem_append.mp hx with hx | hx
      ·exact h4 x hx
      ·rw[List.mem_singleton.mp hx];exact hyr
     ·rcases List.mem_append.mp hx with hx | hx
      ·exact(h5 x hx).imp id (List.mem_append_left _)
      ·exact .inr (List.mem_append_right _ hx)
     ·rw[vA hy]at hx
      rcases List.mem_append.mp hx with hx | hx
      ·exact List.mem_append_left _ (h7 x hx)
      ·exact List.mem_append_right _ hx
     ·rcases List.mem_append.mp hx with hx | hx
      ·exact(h8 x hx).imp id (List.mem_append_left _)
      ·exact .inr (List.mem_append_right _ hx)
   ·rintro env s ⟨wt2,ms2,w,rfl,rfl,h3,h4,h5,h6,h7,h8,h9,h10,h11⟩
    rw[List.length_map,List.take_of_length_le (Nat.le_refl _)]at h7
    try simp? only[true_and]
    rw[List.length_append,List.length_singleton]at hwl;refine⟨wt2,ms2,_,_,rfl,rfl,h3,h4,h5,λx hx hxw=> ?_,by rw[List.length_append,List.length_singleton];omega,by omega⟩;by_cases hxn:x=n
    ·subst hxn;exact h7
    ·have hx2:x=one∨x∈ms:=hx.elim .inl λhx=>(h8 x hx).elim .inr λz=>absurd z hxw
     exact λy hy=>h6 y (hcl x hx2 (λz=>by
      rcases List.mem_append.mp z with z | z
      ·exact hxw (h9 x z)
      ·exact hxn (List.mem_singleton.mp z)) y hy)
theorem nd3:(["program","H","inner","hand"]:List Str).Nodup:=by decide+kernel
theorem zlS {f:Addr}{fd:FuncData}(M:Mo K mg)(F:zV K "inner_hands" "inner_hands" qH f fd):zJ P w K mg base zL 2 f fd ["program","H"] (zG K zgq):=by
 obtain⟨zax,zaq,nW,gR,zaM⟩:=M.named_by_hands;have iW:zJ P w K mg base zL 1 zax zaq ["program","kind"] (zG K zbE):=zfq M nW;obtain⟨zj4,zjK,zco,ziw,zkY⟩:=M.come_to;have zhE:zJ P w K mg base zL 1 zj4 zjK ["links","one"] (zG K zgh):=zlO M zco;refine x5 0 F zfZ (λxs st Q h=>by obtain⟨sh,hs,H,rfl,_⟩:=h;rfl) ⟨_,λcdv A outer s H E hr=>have hr1:zY 1 _:=hr.mono (by decide);(zA (zT (i:=2) zfZ.nd rfl (Or.inr rfl) (zK zhE hr1 (by rfl) zkY zco.kp ziw (z3 (zK iW hr1 (by rfl) zaM nW.kp gR (z3 (qv 0) (z3 zI z4))) (z3 (qv 1) z4))))
   (zF (yB (y6 xA (yV (z3 (qv 1) z4)) (vZ (pA rfl) (by rfl) M.tuple sC (z3 (pC (own:= ["hand"]) (tK (fsc:=zO qH) (N:= ["program","H","inner"]) (N':= ["program","H","inner"]) rfl rfl (by decide+kernel)) rfl (wU (zE (zN hr) (qv 0) z7 (λ_ _=>rfl))) (λC s H fp pins=>(yF (i:=3) nd3 rfl (Or.inl rfl))) (λC s H fp pins=>nA (PW.pt (tB (y7 (mU hr) (zE (zN hr) (qv 3) z7 (λ_ _=>rfl)) (qv 2) (by rfl)) (tD (y7 (q0 hr) (zE (zN hr) (qv 3) z7 (λ_ _=>rfl)) (qv 1) (y3 _)))))) (λC s H fp pins=>(zE (zN hr) (qv 3) z7 (λ_ _=>rfl)))) z4)))))),λxs st Q h=> ?_⟩
 obtain⟨sh,hs,H,rfl,hn,hl,hH,hsub,q⟩:=h;refine zB ?_
 try simp? only[true_and]
 refine⟨sh,hs,"join",Rh.jn,rfl,.inr ⟨rfl,rfl⟩,hn,hl,?_⟩
 try simp? only[true_and]
 refine⟨uH Rh.jn hs,wS Rh.jn hs,hs.map (·.1),H,rfl,λn hn=>zaN hn,hsub,hn,by rw[List.length_map];exact hl,hH,λms hms=> ?_⟩;unfold xD
 try simp? only[true_and]
 refine qV (oO ms H) (λj y e hy he=> ?_) ?_
 ·obtain⟨h,hh,rfl⟩:=wC hy
  obtain⟨y1,rfl⟩:=oR he;unfold yI yH at hy⊢
  have hin: ∀{Q:K3} {st:z6},xY false (.str (wQ h).1) (.dct (yW ms)) st Q=Q (.bl (decide ((wQ h).1∈ms))) st:=λ{Q st} =>by
   unfold xY vE vU;dsimp only;show Q (.bl (zU (yW ms) (.inr (wQ h).1)).isSome) _=_;rw[iE]
  try simp? only[hin]
  have hf:oO ms H (.tup (.str (wQ h).1::(wQ h).2))=if decide ((wQ h).1∈ms)&& !((wQ h).1==H)then some (.str (wQ h).1)else none:=rfl
  cases h1:decide ((wQ h).1∈ms)with
  | false=>
   rw[h1]at hf;rw[if_neg (by decide)];exact CP.no (e':= [_]) hy hf rfl
  | true=>
   rw[h1]at hf;rw[if_pos rfl];cases h2:((wQ h).1==H)with
   | false=>
    rw[h2]at hf;rw[if_pos (by decide)];exact CP.yes (e':= [_]) hy hf rfl
   | true=>
    rw[h2]at hf;rw[if_neg (by decide)];exact CP.no (e':= [_]) hy hf rfl
 have e1:=jB (ms:=ms) (H:=H) hs;rw[e1,List.take_length];refine⟨?_,q _ λn=> ?_⟩
 ·rw[List.length_map]
  have:=List.length_filter_le (λn=>decide (n∈ms)&& !(n==H)) (hs.map (·.1));rw[List.length_map]at this;rw[sizeLine_eq];omega
 ·simp[hms n]
theorem zlT {f:Addr}{fd:FuncData}(M:Mo K mg)(F:zV K "is_deed_on" "is_deed_on" o7 f fd):zJ P w K mg base zL 2 f fd ["row","S"] (zG K zgp):=by
 obtain⟨zjN,zjL,zcp,zix,zkZ⟩:=M.deed_of;have zhF:zJ P w K mg base zL 1 zjN zjL ["row"] (zG K zgi):=zlP M zcp;obtain⟨zkb,zjT,zcw,zi7,zli⟩:=M.shelf_of;have zhM:zJ P w K mg base zL 1 zkb zjT ["deed"] (zG K zg2):=zlW M zcw;refine x5 0 F zga (λxs st Q h=>by obtain⟨r,S,rfl,_⟩:=h;rfl) ⟨_,λcdv A outer s H E hr=>have hr1:zY 1 _:=hr.mono (by decide);(zA (zT (i:=2) zga.nd rfl (Or.inl rfl) (zK zhF hr1 (by rfl) zkZ zcp.kp zix (z3 (qv 0) z4)))
   (zF (yB (pB (uL zl6 (qv 2) n5 (y3 _)) (mY (uL (yT hr) (zK zhM hr1 (by rfl) zli zcw.kp zi7 (z3 (qv 2) z4)) (qv 1) (y3 _))))))),λxs st Q h=> ?_⟩
 obtain⟨r,S,rfl,q⟩:=h;refine zB ?_
 try simp? only[true_and]
 refine⟨r,rfl,?_⟩;cases hd:r.deed with
 | none=>
  have e:r.on S=false:=by unfold Rh.on;rw[hd];rfl
  rw[e]at q;unfold dvP
  try simp? only[true_and]
  exact q
 | some d=>
  obtain⟨k,more,e,_⟩:=d.form2;have e2:r.on S=(d.nm==some S):=by unfold Rh.on;rw[hd];rfl
  rw[e2]at q;have hni:vW d.pv=false:=by rw[e];rfl
  show if(!vW d.pv)=true then _ else _
  rw[if_pos (by rw[hni];rfl)];refine⟨d,rfl,?_⟩;cases hn:d.nm with
  | none=>
   rw[hn]at q;unfold opS
   try simp? only[true_and]
   exact q
  | some s=>
   rw[hn]at q;have e3:(some s==some S)=(s==S):=rfl;rw[e3]at q;unfold opS
   try simp? only[true_and]
   exact q
theorem nd4:(["program","H","S","rows","number","row"]:List Str).Nodup:=by decide+kernel
theorem zlQ {f:Addr}{fd:FuncData}(M:Mo K mg)(F:zV K "deeds_on" "deeds_on" qC f fd):zJ P w K mg base zL 3 f fd ["program","H","S"] (zG K zgj):=by
 obtain⟨zas,zap,nV,gP,zaL⟩:=M.hand_named;have iV:zJ P w K mg base zL 2 zas zap ["program","H"] (zG K zbD):=zfp M nV;obtain⟨zjX,zjR,zct,zi1,zle⟩:=M.is_deed_on;have zhJ:zJ P w K mg base zL 2 zjX zjR ["row","S"] (zG K zgp):=zlT M zct;refine x5 1 F zfY (λxs st Q h=>by obtain⟨sh,hs,h,S,rfl,_⟩:=h;rfl) ⟨_,λcdv A outer s H E hr=>have hr2:zY 2 _:=hr.mono (by decide);(zA (zT (i:=3) zfY.nd rfl (Or.inl rfl) (zE (zN hr) (zK iV hr2 (by rfl) zaL nV.kp gP (z3 (qv 0) (z3 (qv 1) z4))) z7 (λ_ _=>rfl)))
   (zF (yB (znn (own:= ["number","row"]) (tK (fsc:=zO qC) (N:= ["program","H","S","rows"]) (N':= ["program","H","S","rows"]) rfl rfl (by decide+kernel)) rfl (zfF (by rfl) M.enumerate (z3 (qv 3) z4)) (λC s H fp pins=>(t6 (n:=2) rfl (xH (yF (i:=4) nd4 rfl (Or.inl rfl)) (xH (yF (i:=5) nd4 rfl (Or.inl rfl)) uM)))) (λC s H fp pins=>nA (rD (zK zhJ hr2 (by rfl) zle zct.kp zi1 (z3 (qv 5) (z3 (qv 2) z4))))) (λC s H fp pins=>(qv 4)))))),λxs st Q h=> ?_⟩
 obtain⟨sh,hs,h,S,rfl,hn,hm,hl,q⟩:=h;refine zB ?_
 try simp? only[true_and]
 refine⟨sh,hs,h,rfl,hn,hm,?_⟩;unfold yI yH wQ
 try simp? only[za3]
 refine⟨h.2.map Rh.pv,rfl,λk ys env s=> ∃v1 v2:Option PV,ys=(vD S (h.2.take k) 0).map yE/\env= [some (xD sh hs),some (.str h.1),some (.str S),some (.tup (h.2.map Rh.pv)),v1,v2]/\s=st,⟨none,none,rfl,rfl,rfl⟩,?_,?_⟩
 ·rintro k x ys env s hx ⟨v1,v2,rfl,rfl,rfl⟩
  obtain⟨y,hy,rfl⟩:=fF hx;obtain⟨r,hr,rfl⟩:=wC hy
  try simp? only[true_and]
  refine⟨r,S,rfl,?_⟩;cases ho:r.on S with
  | false=>
   try simp? only[true_and]
   exact⟨_,_,by rw[vA hr,mV,ho];simp,rfl⟩
  | true=>
   try simp? only[true_and]
   exact⟨_,_,by rw[vA hr,mV,ho,iC hr];simp,rfl⟩
 ·rintro ys env s ⟨v1,v2,rfl,rfl,rfl⟩
  rw[mN,List.length_map,List.take_of_length_le (Nat.le_refl _)]
  try simp? only[true_and]
  exact q
theorem zfj {f:Addr}{fd:FuncData}(M:Mo K mg)(F:zV K "_law_box" "_law_box" pH f fd):zJ P w K mg base zL 1 f fd ["_law_script","_law_k"] (zG K zbB):=by
 refine x5 1 F lE (λxs st Q h=>by obtain⟨ns,k,rfl,_⟩:=h;rfl) ⟨_,λcdv A outer s H E hr=>(zA (zT (i:=2) lE.nd rfl (Or.inl rfl) (y6 xA (y6 sM z7 (qv 1)) z7))
   (zA (yL (y7 oZ (qv 1) (xL wD (by rfl) M.len PySem.boot_len (z3 (qv 0) z4)) (y3 _)) (zF (zT (i:=2) lE.nd rfl (Or.inl rfl) (zE (zN hr) (qv 0) (qv 1) (λ_ _=>rfl)))) (zF (yL (y7 uZ (xL wD (by rfl) M.len PySem.boot_len (z3 (qv 0) z4)) z7 (y3 _)) (zF (zT (i:=2) lE.nd rfl (Or.inl rfl) (y6 xA (qv 2) (y6 sM (y6 sL (zE (zN hr) (qv 0) (y6 sL (qv 1) (xL wD (by rfl) M.len PySem.boot_len (z3 (qv 0) z4))) (λ_ _=>rfl)) z7) z7)))) yQ)))
   (zA (zT (i:=3) lE.nd rfl (Or.inl rfl) (y6 xA (y6 sL (y6 xA (y6 sM (y6 sL (qv 2) z7) z7) (y6 sM z7 (qv 1))) z7) z7))
   (zF (yB (sQ (z3 (y6 sM (qv 2) (vZ oX (by rfl) M.int qT (z3 (uL zfd (qv 2) (y6 zl7 z7 z7) (y3 _)) z4))) (z3 (qv 3) z4)))))))),λxs st Q h=> ?_⟩
 obtain⟨ns,k,rfl,hl,hk,q⟩:=h
 simp_all? only[List.length_map]
 have bit: ∀c:Int,-18446744073709551616 < (if decide (1000000000000000000<=c)=true then(1:Int)else 0)/\(if decide (1000000000000000000<=c)=true then(1:Int)else 0) < 18446744073709551616:=λc=>by split <;> exact⟨by decide,by decide⟩
 have fin: ∀c:Int,yD (c * (if decide (1000000000000000000<=c)=true then(1:Int)else 0)) ((c % 2147483629 * 48271+40692 * k) % 2147483629+1):=λc=>by
  refine⟨?_,by omega,by omega⟩
  split
  ·rename_i h
   have:=of_decide_eq_true h;omega
  ·omega
 refine za7 (λh=> ?_) (λh=>za7 (λh2=> ?_) (λh2=> ?_))
 ·obtain⟨z,_,ez⟩:=oJ PV.int (ns:=ns) hk (of_decide_eq_true h)
  simp_all? only[ez]
  exact⟨fA,.inr (bit z),q _ _ (fin z)⟩
 ·have hp:(0:Int) < ns.length:=of_decide_eq_true h2
  obtain⟨z,_,ez⟩:=oJ PV.int (ns:=ns) (k:=k % ns.length) (Int.emod_nonneg _ (by omega)) (Int.emod_lt_of_pos _ hp)
  simp_all? only[ez]
  exact⟨hp,fA,.inr (bit _),q _ _ (fin _)⟩
 ·exact⟨fA,.inr (bit _),q _ _ (fin _)⟩
theorem uJ {f:Addr}{fd:FuncData}(M:Mo K mg)(F:zV K "_law_take" "_law_take" pU f fd):zJ P w K mg base zL 1 f fd ["_law_box_here","_law_many"] (zG K u5):=by
 refine x5 0 F zb6 (λxs st Q h=>by obtain⟨i,many,a,b,rfl,_⟩:=h;rfl) ⟨_,λcdv A outer s H E hr=>(zA (yL (y7 uZ (zE (zN hr) (qv 0) z7 (λ_ _=>rfl)) z7 (y3 _)) (zA (zT (i:=2) zb6.nd rfl (Or.inl rfl) (y6 sL (zE (zN hr) (qv 0) z7 (λ_ _=>rfl)) (qv 1)))
   (zA (uO (y6 jI (zE (zN hr) (qv 0) z7 (λ_ _=>rfl)) (qv 1)) (rA hr (qv 0) z7))
   (zF (yB (qv 2))))) yQ)
   (zA (zT (i:=3) zb6.nd rfl (Or.inl rfl) (y6 sL (y6 sM (zE (zN hr) (qv 0) z7 (λ_ _=>rfl)) z7) z7))
   (zA (uO (y6 xA (y6 sL (y6 xA (y6 sM (qv 3) z7) z7) z7) z7) (rA hr (qv 0) z7))
   (zF (yB (y6 sL (y6 jI (y6 xA (y6 sM (qv 3) z7) (zE (zN hr) (qv 0) z7 (λ_ _=>rfl))) z7) (qv 1))))))),λxs st Q h=> ?_⟩
 obtain⟨i,many,a,b,rfl,hi,⟨ha,hb,hb2⟩,hm,hm2,q⟩:=h
 simp_all? only[hi]
 refine za7 (λh=> ?_) (λh=> ?_)
 ·exact⟨hm,⟨hm,hm2⟩,q _ _ _ (Int.emod_nonneg _ (by omega)) (Int.emod_lt_of_pos _ hm) ⟨Int.ediv_nonneg ha (by omega),hb,hb2⟩⟩
 ·exact⟨hm,q _ _ _ (Int.emod_nonneg _ (by omega)) (Int.emod_lt_of_pos _ hm) ⟨ha,by omega,by omega⟩⟩
theorem nd5:(["_law_box_here","_law_many","_law_letters","?3","_law_common","_law_at","_law_first","_law_longer","_law_found","_law_word","_law_own","_law_k"]:List Str).Nodup:=by decide+kernel
theorem zlN {f:Addr}{fd:FuncData}(M:Mo K mg)(F:zV K "_law_words" "_law_words" qB f fd):zJ P w K mg base zL 2 f fd ["_law_box_here","_law_many"] (zG K zg6):=by
 obtain⟨xV,xW,zX,y9,yA⟩:=M._law_take;have y8:zJ P w K mg base zL 1 xV xW ["_law_box_here","_law_many"] (zG K u5):=uJ M zX;refine x5 0 F uQ (λxs st Q h=>by obtain⟨i,many,a,b,rfl,_⟩:=h;rfl) ⟨_,λcdv A outer s H E hr=>have hr1:zY 1 _:=hr.mono (by decide);(zA (zT (i:=2) uQ.nd rfl (Or.inr rfl) zI)
   (zA (zT (i:=4) uQ.nd rfl (Or.inl rfl) (wT PySem.F.plainAttrs_str PySem.F.slot_str_join PySem.F.type_str_join (by decide) zl3 zI (z3 (pC (own:= ["_law_k"]) (tK (fsc:=zO qB) (N:= ["_law_box_here","_law_many","_law_letters","_law_k","_law_common","_law_at","_law_first","_law_longer","_law_found","_law_word","_law_own"]) (N':= ["_law_box_here","_law_many","_law_letters","?3","_law_common","_law_at","_law_first","_law_longer","_law_found","_law_word","_law_own"]) rfl rfl (by decide+kernel)) rfl (rB (by rfl) M.range (z3 (zK y8 hr1 (by rfl) yA zX.kp y9 (z3 (qv 0) (z3 z7 z4))) z4)) (λC s H fp pins=>(yF (i:=11) nd5 rfl (Or.inl rfl))) (λC s H fp pins=>mZ) (λC s H fp pins=>(zE (zN hr) (qv 2) (zK y8 hr1 (by rfl) yA zX.kp y9 (z3 (qv 0) (z3 z7 z4))) (λ_ _=>rfl)))) z4)))
   (zA (zT (i:=5) uQ.nd rfl (Or.inl rfl) (zK y8 hr1 (by rfl) yA zX.kp y9 (z3 (qv 0) (z3 (y6 xA (xL wD (by rfl) M.len PySem.boot_len (z3 (qv 4) z4)) z7) z4))))
   (zA (zT (i:=6) uQ.nd rfl (Or.inl rfl) (zK y8 hr1 (by rfl) yA zX.kp y9 (z3 (qv 0) (z3 z7 z4))))
   (zA (zT (i:=7) uQ.nd rfl (Or.inl rfl) (zK y8 hr1 (by rfl) yA zX.kp y9 (z3 (qv 0) (z3 z7 z4))))
   (zA (zT (i:=8) uQ.nd rfl (Or.inl rfl) (sQ z4))
   (zA (wM PassesOwn.never rfl (rB (by rfl) M.range (z3 (qv 1) z4)) (yF (i:=3) uQ.nd rfl (Or.inl rfl)) (zA (zT (i:=9) uQ.nd rfl (Or.inl rfl) (y6 xA (y6 xA (t5 (qv 4) t8 (uN (qv 5))) (zE (zN hr) (qv 2) (y6 sL (y6 xA (qv 6) (y6 sM z7 (qv 3))) z7) (λ_ _=>rfl))) (t5 (qv 4) (uN (qv 5)) t8)))
   (zF (wZ (wT PySem.F.plainAttrs_list PySem.F.slot_list_append PySem.F.type_list_append (by decide) uC (qv 8) (z3 (y6 xA (qv 9) (y6 sM zI (vZ oX (by rfl) M.int qT (z3 (pB (uL (yT hr) (qv 7) z7 (y3 _)) (mY (uL (yT hr) (y6 sL (qv 3) z7) z7 (y3 _)))) z4)))) z4))))))
   (zA (zT (i:=10) uQ.nd rfl (Or.inl rfl) (u0 (z3 zI (z3 zI (z3 zI (z3 zI (z3 zI (z3 zI (z3 zI (z3 zI (z3 zI (z3 zI (z3 zI (z3 zI z4))))))))))))))
   (zA (zT (i:=10) uQ.nd rfl (Or.inl rfl) (y6 xA (qv 10) (u0 (z3 zI (z3 zI (z3 zI (z3 zI (z3 zI (z3 zI (z3 zI (z3 zI (z3 zI (z3 zI (z3 zI z4))))))))))))))
   (zA (zT (i:=10) uQ.nd rfl (Or.inl rfl) (y6 xA (qv 10) (u0 (z3 zI (z3 zI (z3 zI (z3 zI z4)))))))
   (zA (zT (i:=9) uQ.nd rfl (Or.inl rfl) (zE (zN hr) (qv 10) (zK y8 hr1 (by rfl) yA zX.kp y9 (z3 (qv 0) (z3 z7 z4))) (λ_ _=>rfl)))
   (zA (yL (PW.pt (tB (y7 (yT hr) (zK y8 hr1 (by rfl) yA zX.kp y9 (z3 (qv 0) (z3 z7 z4))) z7 (y3 _)) (tD (y7 (zaP hr) (qv 9) (qv 8) (by rfl))))) (zF (uO (qv 9) (rA hr (qv 8) (zK y8 hr1 (by rfl) yA zX.kp y9 (z3 (qv 0) (z3 (qv 1) z4)))))) yQ)
   (zF (yB (qv 8))))))))))))))),λxs st Q h=> ?_⟩
 obtain⟨i,many,a,b,rfl,hi,hb,h0,h10,q⟩:=h;have hil:=(List.getElem?_eq_some_iff.mp hi).1;have hset: ∀{a b:Int},(st.set i (zC a b))[i]?=some (zC a b):=λ{a b} =>tM hi;have hset2: ∀{a b:Int} {o:PO},(st.set i (zC a b)++ [o])[i]?=some (zC a b):=λ{a b o} =>za1 hset;have hput: ∀{a b c d:Int} {o:PO},(st.set i (zC a b)++ [o]).set i (zC c d)=st.set i (zC c d)++ [o]:=λ{a b c d o} =>by rw[zb_ (by rw[List.length_set];exact hil),set_set]
 have hsl: ∀{o:PO},(st.set i o).length=st.length:=List.length_set;have hat: ∀{a b:Int} {o:PO},(st.set i (zC a b)++ [o])[st.length]?=some o:=λ{a b o} =>by rw[<- hsl (o:=zC a b)];exact uY
 have hst2: ∀{a b:Int} {o o':PO},(st.set i (zC a b)++ [o]).set st.length o'=st.set i (zC a b)++ [o']:=λ{a b o o'} =>by rw[<- hsl (o:=zC a b)];exact nK
 have small_l:(("abcdefghijklmnopqrstuvwxyz" :Str)).length<=sizeLine:=Nat.le_trans (m:=1000) (by decide+kernel) (by decide);have thou: ∀{n:Nat},n<=1000->n<=sizeLine:=λh=>Nat.le_trans h (by decide);refine zB ?_
 try simp? only[true_and]
 refine zB ?_
 try simp? only[true_and]
 refine⟨i,7,a,b,rfl,hi,hb,by decide,by decide,λd a b d0 d1 hb=> ?_⟩
 try simp? only[true_and]
 refine⟨⟨by omega,by omega⟩,λk ys env s=> ∃(xs:List Str) (v:Option PV) (a b:Int),ys=xs.map PV.str/\xs.length=k/\(∀x∈xs,x.length<=1)/\env= [some (PV.obj i),some (PV.int many),some (PV.str "abcdefghijklmnopqrstuvwxyz"),none,none,none,none,none,none,none,none,v]/\yD a b/\s=st.set i (zC a b),
  ⟨[],none,a,b,rfl,rfl,by simp,rfl,hb,rfl⟩,?_,?_⟩
 ·rintro k x ys env s hx ⟨xs,v,a,b,rfl,hk,hx1,rfl,hb,rfl⟩
  obtain⟨_,rfl⟩:=sR hx
  try simp? only[true_and]
  refine⟨i,26,a,b,rfl,hset,hb,by decide,by decide,λe a b e0 e1 hb=> ?_⟩;have hc:=zeM e0 e1
  try simp? only[hc]
  refine⟨small_l,xs++ [⟨#[97+e.toNat]⟩],_,a,b,by simp,by simp[hk],λz hz=> ?_,rfl,hb,rfl⟩;rcases List.mem_append.mp hz with hz | hz
  ·exact hx1 z hz
  ·rw[List.mem_singleton.mp hz];exact Nat.le_refl _
 rintro ys env s ⟨xs,v,a,b,rfl,hk,hx1,rfl,hb,rfl⟩;rw[tQ]at hk;have hsum:(xs.map (·.length)).sum<=1 * xs.length:=zoO xs 1 hx1;have hz:(xs.map (·.length)).sum+xs.length * (Str.ofString "").length<=6:=by
  rw[show(Str.ofString "").length=0 by decide+kernel];omega
 try simp? only[zbq]
 refine⟨xs,rfl,Nat.le_trans hz (by decide),?_⟩;have hcl:(Txt.join (Str.ofString "") xs).length<=6:=Nat.le_trans (zk6 _ _) hz;generalize Txt.join (Str.ofString "") xs=common at hcl⊢
 try simp? only[true_and]
 refine zB ?_
 try simp? only[true_and]
 refine⟨thou (by omega),i,_,a,b,rfl,hset,hb,by omega,by omega,λat' a b a0 a1 hb=> ?_⟩
 try simp? only[true_and]
 refine zB ?_
 try simp? only[true_and]
 refine⟨i,26,a,b,rfl,hset,hb,by decide,by decide,λfirst a b f0 f1 hb=> ?_⟩
 try simp? only[true_and]
 refine zB ?_
 try simp? only[true_and]
 refine⟨i,3,a,b,rfl,hset,hb,by decide,by decide,λlg a b g0 g1 hb=> ?_⟩
 try simp? only[true_and]
 refine zB ?_
 try simp? only[true_and]
 refine zB ?_
 try simp? only[hsl]
 obtain⟨A,eA⟩: ∃A:Str,A=Txt.slice common none (some at'):=⟨_,rfl⟩;obtain⟨B,eB⟩: ∃B:Str,B=Txt.slice common (some at') none:=⟨_,rfl⟩;refine⟨⟨by omega,by omega⟩,?_⟩;refine wH (λk env s=> ∃(ws:List Str) (v3 v9:Option PV),env= [some (PV.obj i),some (PV.int many),some (PV.str "abcdefghijklmnopqrstuvwxyz"),v3,some (.str common),some (.int at'),some (.int first),some (.int lg),some (.obj st.length),v9,none]/\ws.length=k/\qR A B first ws/\s=st.set i (zC a b)++ [.lst (ws.map PV.str)])
  ⟨[],none,none,rfl,rfl,λm w hw=>by simp at hw,rfl⟩ ?_ ?_
 ·rintro k x env s hx ⟨ws,v3,v9,rfl,hwl,hw,rfl⟩
  obtain⟨hk2,rfl⟩:=sR hx;have hc:=zeM (d:=(first+5 * (0+k)) % 26) (Int.emod_nonneg _ (by decide)) (Int.emod_lt_of_pos _ (by decide))
  try simp? only[true_and]
  refine zB ?_
  try simp? only[hc]
  refine⟨thou (by omega),λl1=>⟨small_l,?_⟩⟩;rw[<- eA]at l1⊢
  have lc:(⟨#[97+((first+5 * (0+(k:Int))) % 26).toNat]⟩:Str).length=1:=rfl;refine⟨thou (by omega),thou (by omega),λl2=> ?_⟩;rw[<- eB]at l2⊢
  refine⟨thou (by rw[Str.length_append];omega),?_⟩
  try simp? only[true_and]
  have done: ∀z:Str,z.length<=1->(A++⟨#[97+((first+5 * (0+(k:Int))) % 26).toNat]⟩++B).length+z.length<=sizeLine/\ws.length < sizeLine/\∃(ws':List Str) (v3 v9:Option PV),[some (PV.obj i),some (PV.int many),some (PV.str "abcdefghijklmnopqrstuvwxyz"),some (PV.int (0+k)),some (.str common),some (.int at'),some (.int first),some (.int lg),some (.obj st.length),some (PV.str (A++⟨#[97+((first+5 * (0+(k:Int))) % 26).toNat]⟩++B)),none]= [some (PV.obj i),some (PV.int many),some (PV.str "abcdefghijklmnopqrstuvwxyz"),v3,some (.str common),some (.int at'),some (.int first),some (.int lg),some (.obj st.length),v9,none]/\ws'.length=k+1/\qR A B first ws'/\st.set i (zC a b)++ [PO.lst (ws.map PV.str++ [.str (A++⟨#[97+((first+5 * (0+(k:Int))) % 26).toNat]⟩++B++z)])]=st.set i (zC a b)++ [.lst (ws'.map PV.str)]:=λz hz=>by
   refine⟨thou (by rw[Str.length_append,Str.length_append];omega),Nat.lt_of_lt_of_le (m:=1000) (by omega) (by decide),ws++ [A++⟨#[97+((first+5 * (0+(k:Int))) % 26).toNat]⟩++B++z],_,_,rfl,by simp[hwl],hw.snoc hwl,by simp⟩
  by_cases gg:lg=1
  ·subst gg
   by_cases o1:(0+(k:Int)) % 2=1
   ·have b1:((0+(k:Int)) % 2==1)=true:=by simpa using o1
    try simp? only[beq_self_eq_true,b1,hat,hst2,List.length_map]
    exact done _ (by decide+kernel)
   ·have b1:((0+(k:Int)) % 2==1)=false:=by simpa using o1
    try simp? only[beq_self_eq_true,b1,hat,hst2,List.length_map]
    exact done _ (by decide+kernel)
  ·have gf:(lg==1)=false:=by simpa using gg
   try simp? only[gf,hat,hst2,List.length_map]
   exact done _ (by decide+kernel)
 ·rintro env s ⟨ws,v3,v9,rfl,hwl,hw,rfl⟩
  rw[tQ]at hwl;have hnd:=hw.nodup (by omega)
  try simp? only[true_and]
  refine zB ?_
  try simp? only[true_and]
  refine zB ?_
  try simp? only[true_and]
  refine⟨thou (by decide),zB ?_⟩
  try simp? only[true_and]
  refine⟨thou (by decide),zB ?_⟩
  try simp? only[true_and]
  refine⟨i,27,a,b,rfl,hset2,hb,by decide,by decide,λe a b e0 e1 hb=> ?_⟩;obtain⟨wd,et⟩:=zmt e0 e1
  try simp? only[hput,et]
  refine tS (λenv s=> ∃(us:List Str) (v3 v9 v10:Option PV) (a b:Int),env= [some (PV.obj i),some (PV.int many),some (PV.str "abcdefghijklmnopqrstuvwxyz"),v3,some (.str common),some (.int at'),some (.int first),some (.int lg),some (.obj st.length),v9,v10]/\us.Nodup/\us.length=ws.length/\yD a b/\s=st.set i (zC a b)++ [.lst (us.map PV.str)]) (λN hN=> ?_) ?_
  ·try simp? only[true_and]
   refine⟨i,4,a,b,rfl,hset2,hb,by decide,by decide,λf a b f0 f1 hb=> ?_⟩
   try simp? only[hput]
   by_cases hf:f=0
   ·subst hf
    have nin: ∀{Q:K3},xY true (.str wd) (.obj st.length) (st.set i (zC a b)++ [.lst (ws.map PV.str)]) Q=Q (.bl (!decide (wd∈ws))) (st.set i (zC a b)++ [.lst (ws.map PV.str)]):=zlz hat
    try simp? only[beq_self_eq_true,nin]
    by_cases hin:wd∈ws
    ·have hd:decide (wd∈ws)=true:=decide_eq_true hin
     try simp? only[hd]
     exact hN _ _ ⟨ws,_,_,_,a,b,rfl,hnd,rfl,hb,rfl⟩
    ·have hd:decide (wd∈ws)=false:=decide_eq_false hin
     try simp? only[hd]
     refine⟨i,many,a,b,rfl,hset2,hb,by omega,by omega,λg a b g0 g1 hb=> ?_⟩;obtain⟨n,rfl⟩: ∃n:Nat,g=n:=⟨g.toNat,by omega⟩;have hix:wJ ws.length (n:Int)=some n:=zk3 (by omega)
     try simp? only[hput,hat,hst2,List.length_map,hix]
     exact hN _ _ ⟨ws.set n wd,_,_,_,a,b,rfl,zlx hnd hin n,List.length_set,hb,by rw[List.map_set]⟩
   ·have nf:(f==0)=false:=by simpa using hf
    try simp? only[nf]
    exact hN _ _ ⟨ws,_,_,_,a,b,rfl,hnd,rfl,hb,rfl⟩
  ·rintro env s ⟨us,v3,v9,v10,a,b,rfl,hun,hul,hb,rfl⟩
   try simp? only[true_and]
   rw[show xG st.length Q=xG ((st.set i (zC a b)).length+0) Q by rw[hsl];rfl,<- hsl (o:=zC a b),j4];exact q us a b (by omega) hun hb
theorem zfl {f:Addr}{fd:FuncData}(M:Mo K mg)(F:zV K "_law_number" "_law_number" pP f fd):zJ P w K mg base zL 2 f fd ["_law_box_here"] (zG K zbF):=by
 obtain⟨xV,xW,zX,y9,yA⟩:=M._law_take;have y8:zJ P w K mg base zL 1 xV xW ["_law_box_here","_law_many"] (zG K u5):=uJ M zX;refine x5 0 F zfX (λxs st Q h=>by obtain⟨i,a,b,rfl,_⟩:=h;rfl) ⟨_,λcdv A outer s H E hr=>have hr1:zY 1 _:=hr.mono (by decide);(zA (zT (i:=1) zfX.nd rfl (Or.inl rfl) (zK y8 hr1 (by rfl) yA zX.kp y9 (z3 (qv 0) (z3 z7 z4))))
   (zA (yL (y7 oZ (qv 1) z7 (y3 _)) (zF (yB (zK y8 hr1 (by rfl) yA zX.kp y9 (z3 (qv 0) (z3 z7 z4))))) yQ)
   (zA (yL (y7 (yT hr) (qv 1) z7 (y3 _)) (zF (yB (y6 r6 z7 (zK y8 hr1 (by rfl) yA zX.kp y9 (z3 (qv 0) (z3 z7 z4)))))) yQ)
   (zF (yB (zK y8 hr1 (by rfl) yA zX.kp y9 (z3 (qv 0) (z3 z7 z4)))))))),λxs st Q h=> ?_⟩
 obtain⟨i,a,b,rfl,hi,hb,q⟩:=h;have hset: ∀{a b:Int},(st.set i (zC a b))[i]?=some (zC a b):=λ{a b} =>tM hi;refine zB ?_
 try simp? only[true_and]
 refine⟨i,4,a,b,rfl,hi,hb,by decide,by decide,λd a b d0 d1 hb=> ?_⟩;refine zB ?_
 try simp? only[true_and]
 by_cases h0:d < 2
 ·rw[if_pos (decide_eq_true h0)]
  exact⟨i,_,a,b,rfl,hset,hb,by decide,by decide,λe a b e0 e1 hb=>by try simp? only[true_and];exact q e a b e0 (by omega) hb⟩
 rw[if_neg (by simpa using h0)];refine zB ?_
 try simp? only[true_and]
 by_cases h1:d=2
 ·subst h1
  try simp? only[beq_self_eq_true]
  refine⟨i,_,a,b,rfl,hset,hb,by decide,by decide,λe a b e0 e1 hb=> ?_⟩
  try simp? only[true_and]
  exact q _ a b (by omega) (by omega) hb
 have n1:(d==2)=false:=by simpa using h1
 try simp? only[n1]
 exact⟨i,_,a,b,rfl,hset,hb,by decide,by decide,λe a b e0 e1 hb=>by try simp? only[true_and];exact q e a b e0 e1 hb⟩
theorem zaR {L:Type}{lp:L->PV}{f:Addr}{fd:FuncData}(M:Mo K mg)(F:zV K "_law_term" "_law_term" pV f fd)(uE:yM K fd ["_law_box_here","_law_leaves_here","_law_room","_law_deep"] [])(uG:mg "_law_term" =some (.ref f)): ∀d,zJ P w K mg base zL (d+2) f fd ["_law_box_here","_law_leaves_here","_law_room","_law_deep"] (zG K ((lP lp) d))
 | 0=>⟨λvs H Q E h=>(zg5 h).elim,λA outer s H args us vs Q E _ _ _ _ h=>(zg5 h).elim⟩
 | d+1=>by
  have IH:zJ P w K mg base zL (d+2) f fd ["_law_box_here","_law_leaves_here","_law_room","_law_deep"] (zG K ((lP lp) d)):=zaR M F uE uG d;obtain⟨xV,xW,zX,y9,yA⟩:=M._law_take;have y8:zJ P w K mg base zL 1 xV xW ["_law_box_here","_law_many"] (zG K u5):=uJ M zX;obtain⟨zag,zal,nR,gK,zaH⟩:=M._law_number;have iR:zJ P w K mg base zL 2 zag zal ["_law_box_here"] (zG K zbF):=zfl M nR;have uT:=F;refine x5 0 F o0 (λxs st Q h=>by obtain⟨i,ls,room,deep,a,b,rfl,_⟩:=h;rfl) ⟨_,λcdv A outer s H E hr=>have hr1:zY 1 _:=hr.mono (by omega);have hr2:zY 2 _:=hr.mono (by omega);(zA (zT (i:=4) o0.nd rfl (Or.inl rfl) (zK y8 hr1 (by rfl) yA zX.kp y9 (z3 (qv 0) (z3 z7 z4))))
   (zA (yL (PW.pt (q5 (y7 oZ (qv 2) z7 (y3 _)) (q5 (y7 (yT hr) (qv 3) z7 (y3 _)) (nB (y7 oZ (qv 4) z7 (y3 _)))))) (zA (yL (PW.pt (tB (y7 uZ (xL wD (by rfl) M.len PySem.boot_len (z3 (qv 1) z4)) z7 (y3 _)) (tD (y7 uZ (zK y8 hr1 (by rfl) yA zX.kp y9 (z3 (qv 0) (z3 z7 z4))) z7 (y3 _))))) (zF (yB (zE (zN hr) (qv 1) (zK y8 hr1 (by rfl) yA zX.kp y9 (z3 (qv 0) (z3 (xL wD (by rfl) M.len PySem.boot_len (z3 (qv 1) z4)) z4))) (λ_ _=>rfl)))) yQ)
   (zF (yB (yV (z3 zI (z3 (zK iR hr2 (by rfl) zaH nR.kp gK (z3 (qv 0) z4)) z4)))))) yQ)
   (zA (yL (PW.pt (tB (y7 (yT hr) (qv 4) z7 (y3 _)) (tD (y7 uZ (qv 2) z7 (y3 _))))) (zA (zT (i:=5) o0.nd rfl (Or.inl rfl) (y6 jI (y6 r6 (qv 2) z7) z7))
   (zA (zT (i:=6) o0.nd rfl (Or.inl rfl) (zK IH hr (by rfl) uG uT.kp uE (z3 (qv 0) (z3 (qv 1) (z3 (qv 5) (z3 (y6 r6 (qv 3) z7) z4))))))
   (zA (zT (i:=7) o0.nd rfl (Or.inl rfl) (zK IH hr (by rfl) uG uT.kp uE (z3 (qv 0) (z3 (qv 1) (z3 (qv 5) (z3 (y6 r6 (qv 3) z7) z4))))))
   (zF (yB (yV (z3 zI (z3 (qv 6) (z3 (qv 7) (z3 (zK IH hr (by rfl) uG uT.kp uE (z3 (qv 0) (z3 (qv 1) (z3 (qv 5) (z3 (y6 r6 (qv 3) z7) z4))))) z4)))))))))) yQ)
   (zA (zT (i:=8) o0.nd rfl (Or.inl rfl) (y6 jI (y6 r6 (qv 2) z7) z7))
   (zA (zT (i:=6) o0.nd rfl (Or.inl rfl) (zK IH hr (by rfl) uG uT.kp uE (z3 (qv 0) (z3 (qv 1) (z3 (qv 8) (z3 (y6 r6 (qv 3) z7) z4))))))
   (zF (yB (yV (z3 zI (z3 (zE (zN hr) zI (zK y8 hr1 (by rfl) yA zX.kp y9 (z3 (qv 0) (z3 z7 z4))) (λ_ _=>rfl)) (z3 (qv 6) (z3 (zK IH hr (by rfl) uG uT.kp uE (z3 (qv 0) (z3 (qv 1) (z3 (qv 8) (z3 (y6 r6 (qv 3) z7) z4))))) z4)))))))))))),λxs st Q h=> ?_⟩
  obtain⟨i,ls,room,deep,a,b,rfl,hi,hb,hlp,hll,d0,dd,q⟩:=h;have hset: ∀{a b:Int},(st.set i (zC a b))[i]?=some (zC a b):=λ{a b} =>tM hi;refine zB ?_
  try simp? only[true_and]
  refine⟨i,5,a,b,rfl,hi,hb,by decide,by decide,λf a b f0 f1 hb=> ?_⟩;refine zB ?_;refine ze7 (b:=decide (room < 3∨deep=0∨f < 2)) (λQ=> ?_) ?_
  ·try simp? only[true_and]
   by_cases h1:room < 3
   ·simp[h1]
   ·by_cases h2:deep=0
    ·simp[h1,h2]
    ·simp[h1,h2]
  by_cases hz:room < 3∨deep=0∨f < 2
  ·rw[if_pos (decide_eq_true hz)]
   refine zB ?_
   try simp? only[List.length_map]
   by_cases hl:0 < ls.length
   ·have hl':decide ((0:Int) < (ls.length:Int))=true:=decide_eq_true (by omega)
    try simp? only[hl']
    refine⟨i,3,a,b,rfl,hset,hb,by decide,by decide,λe a b e0 e1 hb=> ?_⟩
    try simp? only[true_and]
    by_cases he:0 < e
    ·rw[if_pos (decide_eq_true he)]
     try simp? only[List.length_map]
     refine⟨i,_,a,b,rfl,hset,hb,by omega,by omega,λg a b g0 g1 hb=> ?_⟩;obtain⟨n,rfl⟩: ∃n:Nat,g=n:=⟨g.toNat,by omega⟩;have hn:n < ls.length:=by omega
     have ha:atI (ls.map lp) (n:Int)=some (lp ls[n]):=vT (by rw[List.getElem?_map,List.getElem?_eq_getElem hn];rfl)
     try simp? only[ha]
     refine zdq (t:= .lf ls[n]) hlp ?_;rw[zoG];exact q (.lf ls[n]) a b (List.getElem_mem hn) d0 hb
    ·rw[if_neg (by simpa using he)]
     try simp? only[true_and]
     refine⟨i,a,b,rfl,hset,hb,λk a b k0 k1 hb=> ?_⟩
     try simp? only[true_and]
     exact q (.num k) a b ⟨k0,k1⟩ d0 hb
   ·have hl':decide ((0:Int) < (ls.length:Int))=false:=decide_eq_false (by omega)
    try simp? only[hl']
    refine⟨i,a,b,rfl,hset,hb,λk a b k0 k1 hb=> ?_⟩
    try simp? only[true_and]
    exact q (.num k) a b ⟨k0,k1⟩ d0 hb
  rw[if_neg (by simpa using hz)];have hd0: ¬ deep=0:=λz=>hz (.inr (.inl z))
  try simp? only[true_and]
  refine zB ?_;refine ze7 (b:=decide (f=4/\3 < room)) (λQ=> ?_) ?_
  ·try simp? only[true_and]
   by_cases h1:f=4
   ·subst h1;simp
   ·simp[h1]
  by_cases hc:f=4/\3 < room
  ·rw[if_pos (decide_eq_true hc)]
   refine zB ?_
   try simp? only[true_and]
   refine zB ?_
   try simp? only[true_and]
   refine⟨i,ls,_,deep - 1,a,b,rfl,hset,hb,hlp,hll,by omega,by omega,λt1 a b k1 r1 hb=> ?_⟩;refine zB ?_
   try simp? only[true_and]
   refine⟨i,ls,_,deep - 1,a,b,rfl,hset,hb,hlp,hll,by omega,by omega,λt2 a b k2 r2 hb=> ?_⟩
   try simp? only[true_and]
   refine⟨i,ls,_,deep - 1,a,b,rfl,hset,hb,hlp,hll,by omega,by omega,λt3 a b k3 r3 hb=> ?_⟩
   try simp? only[zbh hlp]
   exact q (.ite t1 t2 t3) a b ⟨k1,k2,k3⟩ (by show((max t1.rank (max t2.rank t3.rank)+1:Nat):Int)<=deep;omega) hb
  rw[if_neg (by simpa using hc)]
  try simp? only[true_and]
  refine zB ?_
  try simp? only[true_and]
  refine zB ?_
  try simp? only[true_and]
  refine⟨i,ls,_,deep - 1,a,b,rfl,hset,hb,hlp,hll,by omega,by omega,λt1 a b k1 r1 hb=> ?_⟩
  try simp? only[true_and]
  refine⟨i,5,a,b,rfl,hset,hb,by decide,by decide,λg a b g0 g1 hb=> ?_⟩;obtain⟨c,hc,hs⟩:=zoi g g0 g1
  try simp? only[hc]
  refine⟨Nat.le_trans (m:=1000) (by decide+kernel) (by decide),i,ls,_,deep - 1,a,b,rfl,hset,hb,hlp,hll,by omega,by omega,λt2 a b k2 r2 hb=> ?_⟩
  try simp? only[zbh hlp]
  exact q (.op ⟨#[c]⟩ t1 t2) a b ⟨hs,k1,k2⟩ (by show((max t1.rank t2.rank+1:Nat):Int)<=deep;omega) hb
theorem zfi {L:Type}{lp:L->PV}{f:Addr}{fd:FuncData}(M:Mo K mg)(F:zV K "_law_any_term" "_law_any_term" pG f fd):zJ P w K mg base zL 10 f fd ["_law_box_here","_law_leaves_here"] (zG K (zbA lp)):=by
 obtain⟨xV,xW,zX,y9,yA⟩:=M._law_take;have y8:zJ P w K mg base zL 1 xV xW ["_law_box_here","_law_many"] (zG K u5):=uJ M zX;obtain⟨zah,zam,uT,uE,uG⟩:=M._law_term;have kF:zJ P w K mg base zL 9 zah zam ["_law_box_here","_law_leaves_here","_law_room","_law_deep"] (zG K (lP lp 7)):=zaR M uT uE uG 7;refine x5 0 F zfV (λxs st Q h=>by obtain⟨i,ls,a,b,rfl,_⟩:=h;rfl) ⟨_,λcdv A outer s H E hr=>have hr1:zY 1 _:=hr.mono (by decide);have hr9:zY 9 _:=hr.mono (by decide);(zA (zT (i:=2) zfV.nd rfl (Or.inl rfl) (zE (zN hr) (u0 (z3 z7 (z3 z7 (z3 z7 (z3 z7 z4))))) (zK y8 hr1 (by rfl) yA zX.kp y9 (z3 (qv 0) (z3 z7 z4))) (λ_ _=>rfl)))
   (zF (yB (zK kF hr9 (by rfl) uG uT.kp uE (z3 (qv 0) (z3 (qv 1) (z3 (qv 2) (z3 (zE (zN hr) (u0 (z3 z7 (z3 z7 z4))) (vZ oX (by rfl) M.int qT (z3 (uL (yT hr) (zK y8 hr1 (by rfl) yA zX.kp y9 (z3 (qv 0) (z3 z7 z4))) z7 (y3 _)) z4)) (λ_ _=>rfl)) z4)))))))),λxs st Q h=> ?_⟩
 obtain⟨i,ls,a,b,rfl,hi,hb,hlp,hll,q⟩:=h;have hset: ∀{a b:Int},(st.set i (zC a b))[i]?=some (zC a b):=λ{a b} =>tM hi;refine zB ?_
 try simp? only[true_and]
 refine⟨i,4,a,b,rfl,hi,hb,by decide,by decide,λf a b f0 f1 hb=> ?_⟩;obtain⟨r,er⟩: ∃r:Int,atI [PV.int 1,.int 3,.int 7,.int 30] f=some (.int r):=by
  have:f=0∨f=1∨f=2∨f=3:=by omega
  rcases this with rfl | rfl | rfl | rfl
  ·exact⟨1,rfl⟩
  ·exact⟨3,rfl⟩
  ·exact⟨7,rfl⟩
  ·exact⟨30,rfl⟩
 try simp? only[er]
 refine⟨i,4,a,b,rfl,hset,hb,by decide,by decide,λg a b g0 g1 hb=> ?_⟩;obtain⟨dp,ed,p0,p6⟩: ∃dp:Int,atI [PV.int 2,.int 6] (if(g==1)=true then(1:Int)else 0)=some (.int dp)/\0<=dp/\dp<=6:=by
  split
  ·exact⟨6,rfl,by decide,by decide⟩
  ·exact⟨2,rfl,by decide,by decide⟩
 try simp? only[ed]
 refine⟨i,ls,r,dp,a,b,rfl,hset,hb,hlp,hll,p0,by omega,λt a b tk tr hb=> ?_⟩;refine zdq hlp ?_
 try simp? only[true_and]
 exact q t a b tk (by omega) hb
theorem zlH {f:Addr}{fd:FuncData}(M:Mo K mg)(F:zV K "_law_manner" "_law_manner" pO f fd):zJ P w K mg base zL 10 f fd ["_law_box_here","_law_kinds","_law_calm"] (zG K zgw):=by
 obtain⟨xV,xW,zX,y9,yA⟩:=M._law_take;have y8:zJ P w K mg base zL 1 xV xW ["_law_box_here","_law_many"] (zG K u5):=uJ M zX;obtain⟨zah,zam,uT,uE,uG⟩:=M._law_term;have kF:zJ P w K mg base zL 9 zah zam ["_law_box_here","_law_leaves_here","_law_room","_law_deep"] (zG K (lP uU.pv 7)):=zaR M uT uE uG 7;refine x5 0 F lH (λxs st Q h=>by obtain⟨i,a,b,rfl,_⟩:=h;rfl) ⟨_,λcdv A outer s H E hr=>have hr1:zY 1 _:=hr.mono (by decide);have hr9:zY 9 _:=hr.mono (by decide);(zA (zT (i:=3) lH.nd rfl (Or.inl rfl) (zE (zN hr) (qv 1) (zK y8 hr1 (by rfl) yA zX.kp y9 (z3 (qv 0) (z3 (xL wD (by rfl) M.len PySem.boot_len (z3 (qv 1) z4)) z4))) (λ_ _=>rfl)))
   (zA (yL (y7 (q0 hr) (qv 3) zI (y3 _)) (zF (yB (yV (z3 (qv 3) z4)))) yQ)
   (zA (zT (i:=4) lH.nd rfl (Or.inl rfl) (u0 (z3 (yV (z3 zI z4)) (z3 (yV (z3 zI z4)) (z3 (yV (z3 zI z4)) z4)))))
   (zA (zT (i:=5) lH.nd rfl (Or.inl rfl) (zK kF hr9 (by rfl) uG uT.kp uE (z3 (qv 0) (z3 (qv 4) (z3 (zE (zN hr) (u0 (z3 z7 (z3 z7 (z3 z7 (z3 z7 z4))))) (zK y8 hr1 (by rfl) yA zX.kp y9 (z3 (qv 0) (z3 z7 z4))) (λ_ _=>rfl)) (z3 z7 z4))))))
   (zA (yL (rD (qv 2)) (zF (zT (i:=5) lH.nd rfl (Or.inl rfl) (yV (z3 zI (z3 (yV (z3 zI (z3 zI (z3 (zE (zN hr) (qv 4) z7 (λ_ _=>rfl)) (z3 (zE (zN hr) (qv 4) z7 (λ_ _=>rfl)) z4))))) (z3 (zE (zN hr) (qv 4) z7 (λ_ _=>rfl)) (z3 (zK kF hr9 (by rfl) uG uT.kp uE (z3 (qv 0) (z3 (qv 4) (z3 z7 (z3 z7 z4))))) z4))))))) yQ)
   (zF (yB (yV (z3 zI (z3 (y6 xA z7 (zK y8 hr1 (by rfl) yA zX.kp y9 (z3 (qv 0) (z3 z7 z4)))) (z3 (qv 5) z4))))))))))),λxs st Q h=> ?_⟩
 obtain⟨i,a,b,rfl,hi,hb,q⟩:=h;have hset: ∀{a b:Int},(st.set i (zC a b))[i]?=some (zC a b):=λ{a b} =>tM hi;unfold p8;refine zB ?_
 try simp? only[true_and]
 refine⟨i,_,a,b,rfl,hi,hb,by decide,by decide,λd a b d0 d1 hb=> ?_⟩;obtain⟨kd,hkd,ek⟩: ∃kd:Str,(kd= "last" ∨kd= "sum" ∨kd= "bag" ∨kd= "row" ∨kd= "told")/\atI [PV.str "last",.str "sum",.str "bag",.str "row",.str "told"] d=some (.str kd):=by
  have:d=0∨d=1∨d=2∨d=3∨d=4:=by omega
  rcases this with rfl | rfl | rfl | rfl | rfl
  ·exact⟨_,.inl rfl,rfl⟩
  ·exact⟨_,.inr (.inl rfl),rfl⟩
  ·exact⟨_,.inr (.inr (.inl rfl)),rfl⟩
  ·exact⟨_,.inr (.inr (.inr (.inl rfl))),rfl⟩
  ·exact⟨_,.inr (.inr (.inr (.inr rfl))),rfl⟩
 try simp? only[ek]
 refine zB ?_
 try simp? only[true_and]
 by_cases ht:kd= "told"
 ·subst ht
  try simp? only[beq_self_eq_true]
  refine zB ?_
  try simp? only[true_and]
  refine zB ?_
  try simp? only[true_and]
  refine⟨i,4,a,b,rfl,hset,hb,by decide,by decide,λe a b e0 e1 hb=> ?_⟩;obtain⟨rm,er⟩: ∃rm:Int,atI [PV.int 1,.int 3,.int 7,.int 15] e=some (.int rm):=by
   have:e=0∨e=1∨e=2∨e=3:=by omega
   rcases this with rfl | rfl | rfl | rfl
   ·exact⟨1,rfl⟩
   ·exact⟨3,rfl⟩
   ·exact⟨7,rfl⟩
   ·exact⟨15,rfl⟩
  try simp? only[er]
  refine⟨i,[.was,.mine,.yours],rm,6,a,b,rfl,hset,hb,zeK,by decide,by decide,by decide,λt a b tk tr hb=> ?_⟩
  try simp? only[true_and]
  refine zB ?_
  try simp? only[true_and]
  refine⟨i,4,a,b,rfl,hset,hb,by decide,by decide,λn a b n0 n1 hb=> ?_⟩
  try simp? only[zbh zeK]
  exact q "told" [.int (2+n),t.pv uU.pv] a b (.inr ⟨rfl,2+n,t,rfl,by omega,by omega,by omega⟩) hb
 ·have nt:(kd==("told" :Str))=false:=by simpa using ht
  try simp? only[nt]
  exact q kd [] a b (.inl ⟨by rcases hkd with h | h | h | h | h <;> simp_all,rfl⟩) hb
theorem nd6:(["_law_box_here","_law_manner_here","_law_things","_law_found","_law_word","_law_many","_law_k"]:List Str).Nodup:=by decide+kernel
theorem zlA {f:Addr}{fd:FuncData}(M:Mo K mg)(F:zV K "_law_begin" "_law_begin" qA f fd):zJ P w K mg base zL 3 f fd ["_law_box_here","_law_manner_here","_law_things"] (zG K zgg):=by
 obtain⟨xV,xW,zX,y9,yA⟩:=M._law_take;have y8:zJ P w K mg base zL 1 xV xW ["_law_box_here","_law_many"] (zG K u5):=uJ M zX;obtain⟨zag,zal,nR,gK,zaH⟩:=M._law_number;have iR:zJ P w K mg base zL 2 zag zal ["_law_box_here"] (zG K zbF):=zfl M nR;refine x5 0 F lD (λxs st Q h=>by obtain⟨i,kd,r,ws,a,b,rfl,_⟩:=h;rfl) ⟨_,λcdv A outer s H E hr=>have hr1:zY 1 _:=hr.mono (by decide);have hr2:zY 2 _:=hr.mono (by decide);(zA (yL (y7 (yT hr) (zE (zN hr) (qv 1) z7 (λ_ _=>rfl)) zI (y3 _)) (zF (yB (zK y8 hr1 (by rfl) yA zX.kp y9 (z3 (qv 0) (z3 (zE (zN hr) (qv 1) z7 (λ_ _=>rfl)) z4))))) yQ)
   (zA (yL (y7 (yT hr) (zE (zN hr) (qv 1) z7 (λ_ _=>rfl)) zI (y3 _)) (zA (zT (i:=3) lD.nd rfl (Or.inl rfl) (sQ z4))
   (zA (wM PassesOwn.never rfl (wU (xL zl9 (by rfl) M.sorted PyProof.Rows.boot_sorted (z3 (qv 2) z4))) (yF (i:=4) lD.nd rfl (Or.inl rfl)) (zA (zT (i:=5) lD.nd rfl (Or.inl rfl) (y6 r6 (zK y8 hr1 (by rfl) yA zX.kp y9 (z3 (qv 0) (z3 z7 z4))) z7))
   (zF (yL (y7 (yT hr) (zK y8 hr1 (by rfl) yA zX.kp y9 (z3 (qv 0) (z3 z7 z4))) z7 (y3 _)) (zF (wZ (wT PySem.F.plainAttrs_list PySem.F.slot_list_append PySem.F.type_list_append (by decide) uC (qv 3) (z3 (yV (z3 (qv 4) (z3 (y6 xA (qv 5) (vZ oX (by rfl) M.int qT (z3 (uL zfd (qv 5) z7 (y3 _)) z4))) z4))) z4)))) yQ))))
   (zF (yB (vZ (pA rfl) (by rfl) M.tuple sC (z3 (qv 3) z4)))))) yQ)
   (zA (yL (y7 (yT hr) (zE (zN hr) (qv 1) z7 (λ_ _=>rfl)) zI (y3 _)) (zA (zT (i:=5) lD.nd rfl (Or.inl rfl) (zK y8 hr1 (by rfl) yA zX.kp y9 (z3 (qv 0) (z3 (zE (zN hr) (u0 (z3 z7 (z3 z7 z4))) (vZ oX (by rfl) M.int qT (z3 (uL (yT hr) (zK y8 hr1 (by rfl) yA zX.kp y9 (z3 (qv 0) (z3 z7 z4))) z7 (y3 _)) z4)) (λ_ _=>rfl)) z4))))
   (zF (yB (vZ (pA rfl) (by rfl) M.tuple sC (z3 (pC (own:= ["_law_k"]) (tK (fsc:=zO qA) (N:= ["_law_box_here","_law_manner_here","_law_things","_law_found","_law_word","_law_many"]) (N':= ["_law_box_here","_law_manner_here","_law_things","_law_found","_law_word","_law_many"]) rfl rfl (by decide+kernel)) rfl (rB (by rfl) M.range (z3 (qv 5) z4)) (λC s H fp pins=>(yF (i:=6) nd6 rfl (Or.inl rfl))) (λC s H fp pins=>mZ) (λC s H fp pins=>(zE (zN hr) (qv 2) (zK y8 hr1 (by rfl) yA zX.kp y9 (z3 (qv 0) (z3 (xL wD (by rfl) M.len PySem.boot_len (z3 (qv 2) z4)) z4))) (λ_ _=>rfl)))) z4))))) yQ)
   (zF (yB (zK iR hr2 (by rfl) zaH nR.kp gK (z3 (qv 0) z4))))))),λxs st Q h=> ?_⟩
 obtain⟨i,kd,r,ws,a,b,rfl,hi,hb,hmn,hne,hwl,hnd,q⟩:=h;have hil:=(List.getElem?_eq_some_iff.mp hi).1;have hset: ∀{a b:Int},(st.set i (zC a b))[i]?=some (zC a b):=λ{a b} =>tM hi;have hset2: ∀{a b:Int} {o:PO},(st.set i (zC a b)++ [o])[i]?=some (zC a b):=λ{a b o} =>za1 hset;have hput: ∀{a b c d:Int} {o:PO},(st.set i (zC a b)++ [o]).set i (zC c d)=st.set i (zC c d)++ [o]:=λ{a b c d o} =>by rw[zb_ (by rw[List.length_set];exact hil),set_set]
 have hsl: ∀{o:PO},(st.set i o).length=st.length:=List.length_set;have hat: ∀{a b:Int} {o:PO},(st.set i (zC a b)++ [o])[st.length]?=some o:=λ{a b o} =>by rw[<- hsl (o:=zC a b)];exact uY
 have hst2: ∀{a b:Int} {o o':PO},(st.set i (zC a b)++ [o]).set st.length o'=st.set i (zC a b)++ [o']:=λ{a b o o'} =>by rw[<- hsl (o:=zC a b)];exact nK
 have htk: ∀{a b:Int} {o:PO},(st.set i (zC a b)++ [o]).take st.length=st.set i (zC a b):=λ{a b o} =>by rw[<- hsl (o:=zC a b)];exact zbM
 have hst:st=st.set i (zC a b):=by
  obtain⟨h1,h2⟩:=List.getElem?_eq_some_iff.mp hi;rw[<- h2,List.set_getElem_self]
 have hpos:0 < ws.length:=List.length_pos_iff.mpr hne;have n_last_told:(("last" :Str)==("told" :Str))=false:=by decide+kernel
 have n_last_bag:(("last" :Str)==("bag" :Str))=false:=by decide+kernel
 have n_last_row:(("last" :Str)==("row" :Str))=false:=by decide+kernel
 have n_sum_told:(("sum" :Str)==("told" :Str))=false:=by decide+kernel
 have n_sum_bag:(("sum" :Str)==("bag" :Str))=false:=by decide+kernel
 have n_sum_row:(("sum" :Str)==("row" :Str))=false:=by decide+kernel
 have n_bag_told:(("bag" :Str)==("told" :Str))=false:=by decide+kernel
 have n_row_told:(("row" :Str)==("told" :Str))=false:=by decide+kernel
 have n_row_bag:(("row" :Str)==("bag" :Str))=false:=by decide+kernel
 rcases hmn with⟨hk,rfl⟩ | ⟨rfl,n,t,rfl,n2,n6⟩
 ·rcases hk with rfl | rfl | rfl | rfl
  ·refine zB ?_
   try simp? only[n_last_told]
   refine zB ?_
   try simp? only[n_last_bag]
   refine zB ?_
   try simp? only[n_last_row]
   refine⟨i,a,b,rfl,hi,hb,λd a b d0 d1 hb=> ?_⟩
   try simp? only[true_and]
   exact q (.int d) a b ⟨by decide+kernel,by decide+kernel,d0,d1⟩ hb
  ·refine zB ?_
   try simp? only[n_sum_told]
   refine zB ?_
   try simp? only[n_sum_bag]
   refine zB ?_
   try simp? only[n_sum_row]
   refine⟨i,a,b,rfl,hi,hb,λd a b d0 d1 hb=> ?_⟩
   try simp? only[true_and]
   exact q (.int d) a b ⟨by decide+kernel,by decide+kernel,d0,d1⟩ hb
  ·refine zB ?_
   try simp? only[n_bag_told]
   refine zB ?_
   try simp? only[beq_self_eq_true]
   refine zB ?_
   try simp? only[true_and]
   refine zB ?_
   try simp? only[zbz,oT]
   refine⟨ws,rfl,by omega,λss hp hs=> ?_⟩;have hss:ss.Nodup:=hp.nodup_iff.mpr hnd;have hsln:=hp.length_eq
   try simp? only[true_and]
   refine wH (λk env s=> ∃(l:List (Str×Int)) (v w:Option PV) (a b:Int),env= [some (PV.obj i),some (.tup [.str "bag"]),some (.lst (ws.map PV.str)),some (.obj st.length),v,w]/\(l.map (·.1)).Sublist (ss.take k)/\yD a b/\s=st.set i (zC a b)++ [.lst (l.map λq=>PV.tup [.str q.1,.int q.2])])
    ⟨[],none,none,a,b,rfl,by simp,hb,by rw[<- hst];rfl⟩ ?_ ?_
   ·rintro k x env s hx ⟨l,v,w,a,b,rfl,hl,hb,rfl⟩
    obtain⟨wd,hwd,rfl⟩:=wC hx;have hll:l.length<=40:=by
     have:=hl.length_le;rw[List.length_map,List.length_take]at this;omega
    try simp? only[true_and]
    refine zB ?_
    try simp? only[true_and]
    refine⟨i,198,a,b,rfl,hset2,hb,by decide,by decide,λd a b d0 d1 hb=> ?_⟩
    try simp? only[hput]
    refine⟨i,2,a,b,rfl,hset2,hb,by decide,by decide,λe a b e0 e1 hb=> ?_⟩
    try simp? only[hput]
    by_cases h1:e=1
    ·subst h1
     try simp? only[beq_self_eq_true,hat,hst2,List.length_map]
     refine⟨Nat.lt_of_lt_of_le (m:=1000) (by omega) (by decide),l++ [(wd,_)],_,_,a,b,rfl,?_,hb,by simp;rfl⟩;rw[lT hwd,List.map_append];exact hl.append (List.Sublist.refl _)
    ·have n1:(e==1)=false:=by simpa using h1
     try simp? only[n1]
     exact⟨l,_,_,a,b,rfl,by rw[lT hwd];exact hl.trans (List.sublist_append_left _ _),hb,rfl⟩
   ·rintro env s ⟨l,v,w,a,b,rfl,hl,hb,rfl⟩
    have hsub:=hl.trans (List.take_sublist _ _);have hll:l.length<=40:=by
     have:=hsub.length_le;rw[List.length_map]at this;omega
    try simp? only[hat,htk]
    exact q (.bag l) a b ⟨rfl,hss.sublist hsub,hll⟩ hb
  ·refine zB ?_
   try simp? only[n_row_told]
   refine zB ?_
   try simp? only[n_row_bag]
   refine zB ?_
   try simp? only[beq_self_eq_true]
   refine zB ?_
   try simp? only[true_and]
   refine⟨i,4,a,b,rfl,hi,hb,by decide,by decide,λe a b e0 e1 hb=> ?_⟩;obtain⟨z,ez,z0,z1⟩: ∃z:Int,atI [PV.int 5,.int 21] (if(e==1)=true then(1:Int)else 0)=some (.int z)/\0 < z/\z<=21:=by
    split
    ·exact⟨21,rfl,by decide,by decide⟩
    ·exact⟨5,rfl,by decide,by decide⟩
   try simp? only[ez]
   refine⟨i,z,a,b,rfl,hset,hb,z0,by omega,λm a b m0 m1 hb=> ?_⟩
   try simp? only[true_and]
   refine⟨⟨by omega,by omega⟩,λk ys env s=> ∃(us:List Str) (v:Option PV) (a b:Int),ys=us.map PV.str/\us.length=k/\env= [some (PV.obj i),some (.tup [.str "row"]),some (.lst (ws.map PV.str)),none,none,some (.int m),v]/\yD a b/\s=st.set i (zC a b),⟨[],none,a,b,rfl,rfl,rfl,hb,rfl⟩,?_,?_⟩
   ·rintro k x ys env s hx ⟨us,v,a,b,rfl,hk,rfl,hb,rfl⟩
    obtain⟨_,rfl⟩:=sR hx
    try simp? only[List.length_map]
    refine⟨i,_,a,b,rfl,hset,hb,by omega,by omega,λe a b e0 e1 hb=> ?_⟩;obtain⟨t,_,et⟩:=oJ PV.str (ns:=ws) e0 e1
    try simp? only[et]
    exact⟨us++ [t],_,a,b,by simp,by simp[hk],rfl,hb,rfl⟩
   ·rintro ys env s ⟨us,v,a,b,rfl,hk,rfl,hb,rfl⟩
    rw[tQ]at hk
    try simp? only[true_and]
    exact q (.row us) a b ⟨rfl,by omega⟩ hb
 ·refine zB ?_
  try simp? only[beq_self_eq_true]
  refine⟨i,n,a,b,rfl,hi,hb,by omega,by omega,λd a b d0 d1 hb=> ?_⟩
  try simp? only[true_and]
  exact q (.int d) a b ⟨by decide+kernel,by decide+kernel,d0,by omega⟩ hb
theorem zlG {f:Addr}{fd:FuncData}(M:Mo K mg)(F:zV K "_law_leaves" "_law_leaves" pN f fd):zJ P w K mg base zL 2 f fd ["_law_box_here","_law_shelves","_law_things"] (zG K zgv):=by
 obtain⟨xV,xW,zX,y9,yA⟩:=M._law_take;have y8:zJ P w K mg base zL 1 xV xW ["_law_box_here","_law_many"] (zG K u5):=uJ M zX;refine x5 0 F lG (λxs st Q h=>by obtain⟨i,sh,ws,a,b,rfl,_⟩:=h;rfl) ⟨_,λcdv A outer s H E hr=>have hr1:zY 1 _:=hr.mono (by decide);(zA (zT (i:=3) lG.nd rfl (Or.inl rfl) (sQ z4))
   (zA (wM PassesOwn.never rfl (wU (qv 1)) (t6 (n:=3) rfl (xH (yF (i:=4) lG.nd rfl (Or.inl rfl)) (xH (yF (i:=5) lG.nd rfl (Or.inl rfl)) (xH (yF (i:=6) lG.nd rfl (Or.inl rfl)) uM)))) (zF (yL (y7 (yT hr) (zE (zN hr) (qv 5) z7 (λ_ _=>rfl)) zI (y3 _)) (zF (wZ (wT PySem.F.plainAttrs_list PySem.F.slot_list_append PySem.F.type_list_append (by decide) uC (qv 3) (z3 (yV (z3 zI (z3 (qv 4) (z3 (zE (zN hr) (qv 2) (zK y8 hr1 (by rfl) yA zX.kp y9 (z3 (qv 0) (z3 (xL wD (by rfl) M.len PySem.boot_len (z3 (qv 2) z4)) z4))) (λ_ _=>rfl)) z4)))) z4)))) (zF (wZ (wT PySem.F.plainAttrs_list PySem.F.slot_list_append PySem.F.type_list_append (by decide) uC (qv 3) (z3 (zE (zN hr) (u0 (z3 (yV (z3 zI (z3 (qv 4) z4))) (z3 (yV (z3 zI (z3 (qv 4) z4))) z4))) (vZ oX (by rfl) M.int qT (z3 (uL (yT hr) (zE (zN hr) (qv 5) z7 (λ_ _=>rfl)) zI (y3 _)) z4)) (λ_ _=>rfl)) z4)))))))
   (zF (yB (qv 3))))),λxs st Q h=> ?_⟩
 obtain⟨i,sh,ws,a,b,rfl,hi,hb,hk,hsl,hne,hwl,q⟩:=h;have hil:=(List.getElem?_eq_some_iff.mp hi).1;have hset: ∀{a b:Int},(st.set i (zC a b))[i]?=some (zC a b):=λ{a b} =>tM hi;have hset2: ∀{a b:Int} {o:PO},(st.set i (zC a b)++ [o])[i]?=some (zC a b):=λ{a b o} =>za1 hset;have hput: ∀{a b c d:Int} {o:PO},(st.set i (zC a b)++ [o]).set i (zC c d)=st.set i (zC c d)++ [o]:=λ{a b c d o} =>by rw[zb_ (by rw[List.length_set];exact hil),set_set]
 have hsl2: ∀{o:PO},(st.set i o).length=st.length:=List.length_set;have hst:st=st.set i (zC a b):=by
  obtain⟨h1,h2⟩:=List.getElem?_eq_some_iff.mp hi;rw[<- h2,List.set_getElem_self]
 have hpos:0 < ws.length:=List.length_pos_iff.mpr hne;refine zB ?_
 try simp? only[true_and]
 refine zB ?_
 try simp? only[true_and]
 refine wH (λk env s=> ∃(ls:List Lf) (v w x:Option PV) (a b:Int),env= [some (PV.obj i),some (.lst (sh.map yC)),some (.lst (ws.map PV.str)),some (.obj st.length),v,w,x]/\ls.length=k/\(∀l∈ls,nY sh l)/\yD a b/\s=st.set i (zC a b)++ [.lst (ls.map Lf.pv)])
  ⟨[],none,none,none,a,b,rfl,rfl,by simp,hb,by rw[<- hst];rfl⟩ ?_ ?_
 ·rintro k y env s hy ⟨ls,v,w,x,a,b,rfl,hk',hl,hb,rfl⟩
  obtain⟨s0,hs0,rfl⟩:=wC hy;have ms:=List.mem_of_getElem? hs0;have hkl:=(List.getElem?_eq_some_iff.mp hs0).1;obtain⟨kd,r,er⟩:=hk s0 ms;have hat: ∀{a b:Int} {o:PO},(st.set i (zC a b)++ [o])[st.length]?=some o:=λ{a b o} =>by rw[<- hsl2 (o:=zC a b)];exact uY
  have hst2: ∀{a b:Int} {o o':PO},(st.set i (zC a b)++ [o]).set st.length o'=st.set i (zC a b)++ [o']:=λ{a b o o'} =>by rw[<- hsl2 (o:=zC a b)];exact nK
  unfold yC;rw[er];have more: ∀(l:Lf) (a b:Int),nY sh l->yD a b->∀v w x,∃(ls':List Lf) (v' w' x':Option PV) (a' b':Int),[some (PV.obj i),some (.lst (sh.map yC)),some (.lst (ws.map PV.str)),some (.obj st.length),v,w,x]= [some (PV.obj i),some (.lst (sh.map yC)),some (.lst (ws.map PV.str)),some (.obj st.length),v',w',x']/\ls'.length=k+1/\(∀l∈ls',nY sh l)/\yD a' b'/\st.set i (zC a b)++ [PO.lst (ls.map Lf.pv++ [l.pv])]=st.set i (zC a' b')++ [.lst (ls'.map Lf.pv)]:=λl a b h1 h2 v w x=>
   ⟨ls++ [l],v,w,x,a,b,rfl,by simp[hk'],λl' hl'=>by
    rcases List.mem_append.mp hl' with h | h
    ·exact hl l' h
    ·rw[List.mem_singleton.mp h];exact h1,h2,by simp⟩
  have small:(ls.map Lf.pv).length < sizeLine:=Nat.lt_of_lt_of_le (m:=1000) (by rw[List.length_map];omega) (by decide)
  try simp? only[true_and]
  by_cases hbag:kd= "bag"
  ·subst hbag
   try simp? only[beq_self_eq_true,List.length_map,hat]
   refine⟨i,_,a,b,rfl,hset2,hb,by omega,by omega,λe a b e0 e1 hb=> ?_⟩;obtain⟨t,_,et⟩:=oJ PV.str (ns:=ws) e0 e1
   try simp? only[et,hput,hat,hst2]
   exact⟨small,more (.many s0.1 t) a b ⟨s0,ms,"bag",⟨r,er⟩,.inl ⟨rfl,t,rfl⟩⟩ hb _ _ _⟩
  ·have nb:(kd==("bag" :Str))=false:=by simpa using hbag
   try simp? only[nb]
   by_cases hrow:kd= "row"
   ·subst hrow
    try simp? only[beq_self_eq_true,hat,hst2]
    exact⟨small,more (.long s0.1) a b ⟨s0,ms,"row",⟨r,er⟩,.inr (.inl ⟨rfl,rfl⟩)⟩ hb _ _ _⟩
   ·have nr:(kd==("row" :Str))=false:=by simpa using hrow
    try simp? only[nr,hat,hst2]
    exact⟨small,more (.shelf s0.1) a b ⟨s0,ms,kd,⟨r,er⟩,.inr (.inr ⟨hbag,hrow,rfl⟩)⟩ hb _ _ _⟩
 ·rintro env s ⟨ls,v,w,x,a,b,rfl,hk',hl,hb,rfl⟩
  rw[List.length_map]at hk'
  try simp? only[true_and]
  rw[show xG st.length Q=xG ((st.set i (zC a b)).length+0) Q by rw[hsl2];rfl,<- hsl2 (o:=zC a b),j4];exact q ls a b hk' hl hb
theorem zlB {f:Addr}{fd:FuncData}(M:Mo K mg)(F:zV K "_law_deed" "_law_deed" pI f fd):zJ P w K mg base zL 11 f fd ["_law_box_here","_law_shelf","_law_leaves_here","_law_things"] (zG K zgm):=by
 obtain⟨xV,xW,zX,y9,yA⟩:=M._law_take;have y8:zJ P w K mg base zL 1 xV xW ["_law_box_here","_law_many"] (zG K u5):=uJ M zX;obtain⟨zae,zaj,oG,kQ,jF⟩:=M._law_any_term;have kE:zJ P w K mg base zL 10 zae zaj ["_law_box_here","_law_leaves_here"] (zG K (zbA Lf.pv)):=zfi M oG;refine x5 0 F pY (λxs st Q h=>by obtain⟨i,nm,kd,r,bg,ls,ws,a,b,rfl,_⟩:=h;rfl) ⟨_,λcdv A outer s H E hr=>have hr1:zY 1 _:=hr.mono (by decide);have hr10:zY 10 _:=hr.mono (by decide);(zA (uO (qv 1) (t6 (n:=3) rfl (xH (yF (i:=4) pY.nd rfl (Or.inl rfl)) (xH (yF (i:=5) pY.nd rfl (Or.inl rfl)) (xH (yF (i:=6) pY.nd rfl (Or.inl rfl)) uM)))))
   (zA (zT (i:=7) pY.nd rfl (Or.inl rfl) (zE (zN hr) (qv 3) (zK y8 hr1 (by rfl) yA zX.kp y9 (z3 (qv 0) (z3 (xL wD (by rfl) M.len PySem.boot_len (z3 (qv 3) z4)) z4))) (λ_ _=>rfl)))
   (zA (yL (y7 (yT hr) (zE (zN hr) (qv 5) z7 (λ_ _=>rfl)) zI (y3 _)) (zF (yB (yV (z3 (zE (zN hr) (u0 (z3 zI (z3 zI z4))) (zK y8 hr1 (by rfl) yA zX.kp y9 (z3 (qv 0) (z3 z7 z4))) (λ_ _=>rfl)) (z3 (qv 4) (z3 (qv 7) z4)))))) yQ)
   (zA (zT (i:=8) pY.nd rfl (Or.inl rfl) (zK kE hr10 (by rfl) jF oG.kp kQ (z3 (qv 0) (z3 (qv 2) z4))))
   (zA (yL (y7 (yT hr) (zE (zN hr) (qv 5) z7 (λ_ _=>rfl)) zI (y3 _)) (zF (yB (yV (z3 zI (z3 (qv 4) (z3 (qv 8) z4)))))) yQ)
   (zA (yL (y7 (q0 hr) (zE (zN hr) (qv 5) z7 (λ_ _=>rfl)) zI (y3 _)) (zF (yB (yV (z3 zI (z3 (qv 4) (z3 (qv 8) z4)))))) yQ)
   (zA (yL (y7 (yT hr) (zK y8 hr1 (by rfl) yA zX.kp y9 (z3 (qv 0) (z3 z7 z4))) z7 (y3 _)) (zF (zT (i:=8) pY.nd rfl (Or.inl rfl) (yV (z3 zI (z3 (zK y8 hr1 (by rfl) yA zX.kp y9 (z3 (qv 0) (z3 z7 z4))) z4))))) yQ)
   (zA (yL (y7 uZ (zK y8 hr1 (by rfl) yA zX.kp y9 (z3 (qv 0) (z3 z7 z4))) z7 (y3 _)) (zF (yB (yV (z3 zI (z3 (qv 4) (z3 (qv 8) (z3 (qv 7) z4))))))) yQ)
   (zF (yB (yV (z3 zI (z3 (qv 4) (z3 (qv 8) z4)))))))))))))),λxs st Q h=> ?_⟩
 obtain⟨i,nm,kd,r,bg,ls,ws,a,b,rfl,hbg,hi,hb,hwe,hwl,hll,q⟩:=h;have hset: ∀{a b:Int},(st.set i (zC a b))[i]?=some (zC a b):=λ{a b} =>tM hi;have hw0:0 < ws.length:=List.length_pos_iff.mpr hwe;refine zB ?_
 try simp? only[hbg]
 refine zB ?_
 try simp? only[List.length_map]
 refine⟨i,(ws.length:Int),a,b,rfl,hi,hb,by omega,by omega,λd a b d0 d1 hb=> ?_⟩;obtain⟨wd,_,ew⟩:=oJ PV.str (ns:=ws) d0 d1
 try simp? only[ew]
 refine zB ?_;by_cases k1:kd= "bag"
 ·subst k1
  try simp? only[beq_self_eq_true]
  refine⟨i,2,a,b,rfl,hset,hb,by decide,by decide,λg a b g0 g1 hb=> ?_⟩;have hg:g=0∨g=1:=by omega
  rcases hg with rfl | rfl
  ·try simp? only[set_set]
   exact q (.bag true nm wd) a b ⟨rfl,λx hx=>(by cases hx),rfl⟩ hb
  ·try simp? only[set_set]
   exact q (.bag false nm wd) a b ⟨rfl,λx hx=>(by cases hx),rfl⟩ hb
 have n1:(kd==("bag" :Str))=false:=by simpa using k1
 try simp? only[n1]
 refine zB ?_
 try simp? only[true_and]
 refine⟨i,ls,a,b,rfl,hset,hb,zaE,hll,λt a b tok u7 hb=> ?_⟩
 try simp? only[set_set]
 refine zB ?_;by_cases k2:kd= "sum"
 ·subst k2
  try simp? only[beq_self_eq_true]
  exact⟨tV t,q (.more nm t) a b ⟨rfl,λx hx=>(by cases hx;exact⟨tok,u7⟩),rfl⟩ hb⟩
 have n2:(kd==("sum" :Str))=false:=by simpa using k2
 try simp? only[n2]
 refine zB ?_;by_cases k3:kd= "row"
 rotate_left
 ·have n3:(kd==("row" :Str))=false:=by simpa using k3
  try simp? only[n3]
  exact⟨tV t,q (.set nm t) a b ⟨rfl,λx hx=>(by cases hx;exact⟨tok,u7⟩),k1,k3,k2⟩ hb⟩
 subst k3
 try simp? only[beq_self_eq_true]
 refine tS (λenv s=> ∃(t:Tm Lf) (a b:Int),env= [some (PV.obj i),some (.tup [.str nm,.tup (.str "row" ::r),bg]),some (.lst (ls.map Lf.pv)),some (.lst (ws.map PV.str)),some (.str nm),some (.tup (.str "row" ::r)),some bg,some (.str wd),some (t.pv Lf.pv)]/\s=st.set i (zC a b)/\yD a b/\t.ok (λl=>l∈ls)/\t.rank < 7) (λN hN=> ?_) ?_
 ·try simp? only[true_and]
  refine⟨i,2,a,b,rfl,hset,hb,by decide,by decide,λg a b g0 g1 hb=> ?_⟩
  try simp? only[set_set]
  by_cases h0:g=0
  ·subst h0
   try simp? only[beq_self_eq_true]
   refine⟨i,6,a,b,rfl,hset,hb,by decide,by decide,λe a b e0 e1 hb=> ?_⟩
   try simp? only[set_set]
   exact hN _ _ ⟨.num e,a,b,rfl,rfl,hb,⟨e0,by omega⟩,by show 0 < 7;decide⟩
  ·have nf:(g==0)=false:=by simpa using h0
   try simp? only[nf]
   exact hN _ _ ⟨t,a,b,rfl,rfl,hb,tok,u7⟩
 ·rintro env s0 ⟨t,a,b,rfl,rfl,hb,tok,u7⟩
  refine zB ?_
  try simp? only[true_and]
  refine⟨i,5,a,b,rfl,hset,hb,by decide,by decide,λg a b g0 g1 hb=> ?_⟩
  try simp? only[set_set]
  by_cases h1:1 < g
  ·have hd:decide (1 < g)=true:=decide_eq_true h1
   try simp? only[hd]
   exact⟨tV t,q (.lay nm t wd) a b ⟨rfl,λx hx=>(by cases hx;exact⟨tok,u7⟩),rfl⟩ hb⟩
  ·have hd:decide (1 < g)=false:=decide_eq_false h1
   try simp? only[hd]
   exact⟨tV t,q (.drop nm t) a b ⟨rfl,λx hx=>(by cases hx;exact⟨tok,u7⟩),rfl⟩ hb⟩
theorem zlJ {f:Addr}{fd:FuncData}(M:Mo K mg)(F:zV K "_law_row" "_law_row" pR f fd):zJ P w K mg base zL 12 f fd ["_law_box_here","_law_uses","_law_things"] (zG K lO):=by
 obtain⟨xV,xW,zX,y9,yA⟩:=M._law_take;have y8:zJ P w K mg base zL 1 xV xW ["_law_box_here","_law_many"] (zG K u5):=uJ M zX;obtain⟨zae,zaj,oG,kQ,jF⟩:=M._law_any_term;have kE:zJ P w K mg base zL 10 zae zaj ["_law_box_here","_law_leaves_here"] (zG K (zbA Lf.pv)):=zfi M oG;obtain⟨zjv,zjB,zci,ziq,zkR⟩:=M._law_leaves;have zh5:zJ P w K mg base zL 2 zjv zjB ["_law_box_here","_law_shelves","_law_things"] (zG K zgv):=zlG M zci;obtain⟨zjp,zj6,zce,zil,zkN⟩:=M._law_deed;have zh0:zJ P w K mg base zL 11 zjp zj6 ["_law_box_here","_law_shelf","_law_leaves_here","_law_things"] (zG K zgm):=zlB M zce;refine x5 0 F nJ (λxs st Q h=>by obtain⟨i,sh,ws,a,b,rfl,_⟩:=h;rfl) ⟨_,λcdv A outer s H E hr=>have hr1:zY 1 _:=hr.mono (by decide);have hr2:zY 2 _:=hr.mono (by decide);have hr10:zY 10 _:=hr.mono (by decide);have hr11:zY 11 _:=hr.mono (by decide);(zA (uO (qv 1) (t6 (n:=2) rfl (xH (yF (i:=3) nJ.nd rfl (Or.inl rfl)) (xH (yF (i:=4) nJ.nd rfl (Or.inl rfl)) uM))))
   (zA (zT (i:=5) nJ.nd rfl (Or.inl rfl) (zK zh5 hr2 (by rfl) zkR zci.kp ziq (z3 (qv 0) (z3 (qv 4) (z3 (qv 2) z4)))))
   (zA (zT (i:=6) nJ.nd rfl (Or.inl rfl) (yV (z3 zI (z3 (zK kE hr10 (by rfl) jF oG.kp kQ (z3 (qv 0) (z3 (qv 5) z4))) z4))))
   (zA (yL (PW.pt (tB (y7 uZ (xL wD (by rfl) M.len PySem.boot_len (z3 (qv 3) z4)) z7 (y3 _)) (tD (y7 uZ (zK y8 hr1 (by rfl) yA zX.kp y9 (z3 (qv 0) (z3 z7 z4))) z7 (y3 _))))) (zF (zT (i:=6) nJ.nd rfl (Or.inl rfl) (zK zh0 hr11 (by rfl) zkN zce.kp zil (z3 (qv 0) (z3 (zE (zN hr) (qv 3) (zK y8 hr1 (by rfl) yA zX.kp y9 (z3 (qv 0) (z3 (xL wD (by rfl) M.len PySem.boot_len (z3 (qv 3) z4)) z4))) (λ_ _=>rfl)) (z3 (qv 5) (z3 (qv 2) z4))))))) yQ)
   (zA (yL (y7 (yT hr) (zK y8 hr1 (by rfl) yA zX.kp y9 (z3 (qv 0) (z3 z7 z4))) z7 (y3 _)) (zF (yB (yV (z3 zI (z3 (zK kE hr10 (by rfl) jF oG.kp kQ (z3 (qv 0) (z3 (qv 5) z4))) (z3 (qv 6) z4)))))) yQ)
   (zF (yB (qv 6)))))))),λxs st Q h=> ?_⟩
 obtain⟨i,sh,ws,a,b,rfl,hi,hb,hsh,hse,hsl,hwe,hwl,q⟩:=h;have hset: ∀{a b:Int},(st.set i (zC a b))[i]?=some (zC a b):=λ{a b} =>tM hi;have hs0:0 < sh.length:=List.length_pos_iff.mpr hse;have hk: ∀s∈sh,∃kd,iZ s kd:=λs hs=>let⟨kd,r,h,e,_⟩:=hsh s hs;⟨kd,r,e⟩;refine zB ?_
 try simp? only[true_and]
 refine zB ?_
 try simp? only[true_and]
 refine⟨i,sh,ws,a,b,rfl,hi,hb,hk,by omega,hwe,hwl,λls a b lll hls hb=> ?_⟩;have tf: ∀{t:Tm Lf},t.ok (λl=>l∈ls)->t.rank < 7->gE sh t:=λh1 h2=>⟨Tm.ok_mono (λl hl=>hls l hl) h1,h2⟩
 try simp? only[true_and]
 refine zB ?_
 try simp? only[true_and]
 refine⟨i,ls,a,b,rfl,hset,hb,zaE,by omega,λt a b tok u7 hb=> ?_⟩
 try simp? only[set_set,tV]
 refine tS (λenv s=> ∃(d:Dd) (a b:Int),env= [some (PV.obj i),some (.tup [.lst (sh.map yC),.lst (sh.map yC)]),some (.lst (ws.map PV.str)),some (.lst (sh.map yC)),some (.lst (sh.map yC)),some (.lst (ls.map Lf.pv)),some d.pv]/\s=st.set i (zC a b)/\yD a b/\zcc sh d) (λN hN=> ?_) ?_
 ·have hd0:decide ((0:Int) < (sh.length:Int))=true:=decide_eq_true (by omega)
  try simp? only[List.length_map,hd0]
  refine⟨i,6,a,b,rfl,hset,hb,by decide,by decide,λg a b g0 g1 hb=> ?_⟩
  try simp? only[set_set]
  by_cases hg:0 < g
  ·have hd:decide (0 < g)=true:=decide_eq_true hg
   try simp? only[hd,List.length_map]
   refine⟨i,(sh.length:Int),a,b,rfl,hset,hb,by omega,by omega,λe a b e0 e1 hb=> ?_⟩;obtain⟨n,rfl⟩: ∃n:Nat,e=n:=⟨e.toNat,by omega⟩;have hn:sh[n]?=some sh[n]:=List.getElem?_eq_getElem (by omega);obtain⟨kd,r,h,es,hm,eb,hv⟩:=hsh _ (List.mem_iff_getElem?.mpr ⟨n,hn⟩);have er:atI (sh.map yC) (n:Int)=some (.tup [.str sh[n].1,.tup (.str kd::r),h.pv]):=by
    rw[zok hn];unfold yC;rw[es,eb]
   try simp? only[set_set,er]
   refine⟨i,sh[n].1,kd,r,h.pv,ls,ws,a,b,rfl,ze3 h,hset,hb,hwe,hwl,by omega,λd a b hd hb=> ?_⟩
   try simp? only[set_set]
   obtain⟨d1,d2,d3⟩:=hd;exact hN _ _ ⟨d,a,b,rfl,rfl,hb,λx hx=>tf (d2 x hx).1 (d2 x hx).2,λs hs=>⟨sh[n],List.mem_iff_getElem?.mpr ⟨n,hn⟩,by rw[d1]at hs;exact Option.some.inj hs,kd,r,es,d3⟩⟩
  ·have hd:decide (0 < g)=false:=decide_eq_false hg
   try simp? only[hd]
   exact hN _ _ ⟨.tell t,a,b,rfl,rfl,hb,λx hx=>(by cases hx;exact tf tok u7),λs hs=>by cases hs⟩
 ·rintro env s0 ⟨d,a,b,rfl,rfl,hb,hD⟩
  refine zB ?_
  try simp? only[true_and]
  refine⟨i,4,a,b,rfl,hset,hb,by decide,by decide,λg a b g0 g1 hb=> ?_⟩
  try simp? only[set_set]
  by_cases h0:g=0
  ·subst h0
   try simp? only[beq_self_eq_true]
   refine⟨i,ls,a,b,rfl,hset,hb,zaE,by omega,λt a b tok u7 hb=> ?_⟩
   try simp? only[set_set,tV]
   exact⟨fD d,q (some t,d) a b ⟨λx hx=>(by cases hx;exact tf tok u7),hD⟩ hb⟩
  ·have nf:(g==0)=false:=by simpa using h0
   try simp? only[nf]
   exact zjl (fD d) (q (none,d) a b ⟨λx hx=>(by cases hx),hD⟩ hb)
theorem zlE {f:Addr}{fd:FuncData}(M:Mo K mg)(F:zV K "_law_join" "_law_join" pL f fd):zJ P w K mg base zL 2 f fd ["_law_box_here","_law_plan","_law_rows","_law_held"] (zG K i6):=by
 obtain⟨xV,xW,zX,y9,yA⟩:=M._law_take;have y8:zJ P w K mg base zL 1 xV xW ["_law_box_here","_law_many"] (zG K u5):=uJ M zX;refine x5 0 F zfW (λxs st Q h=>by obtain⟨S,i,p,r,h,e,kv,names,E,a,b,w0,hd,rfl,_⟩:=h;rfl) ⟨_,λcdv A outer s H E hr=>have hr1:zY 1 _:=hr.mono (by decide);(zA (zT (i:=4) zfW.nd rfl (Or.inl rfl) (wT PySem.F.plainAttrs_list PySem.F.slot_list_pop PySem.F.type_list_pop (by decide) zfh (qv 3) (z3 (zK y8 hr1 (by rfl) yA zX.kp y9 (z3 (qv 0) (z3 (xL wD (by rfl) M.len PySem.boot_len (z3 (qv 3) z4)) z4))) z4)))
   (zA (wZ (wT PySem.F.plainAttrs_list PySem.F.slot_list_append PySem.F.type_list_append (by decide) uC (qv 2) (z3 (yV (z3 zI (z3 (zE (zN hr) (zE (vX hr) (qv 1) zI (λ_ _=>rfl)) (qv 4) (λ_ _=>rfl)) z4))) z4)))
   (zF (wZ (wT PySem.F.plainAttrs_list PySem.F.slot_list_extend PySem.F.type_list_extend (by decide) zfc (qv 3) (z3 (zE (zN hr) (zE (vX hr) (qv 1) zI (λ_ _=>rfl)) (qv 4) (λ_ _=>rfl)) z4)))))),λxs st Q h=> ?_⟩
 obtain⟨S,i,p,r,h,e,kv,names,E,a,b,w0,hd,rfl,rfl,L,hb,hne,hl1,hl2,hx,q⟩:=h;have hlen: ∀{a b a' b':Int} {w w' d d':List PV},(S a' b' w' d').take (S a b w d).length=S a' b' w' d':=λ{a b a' b' w w' d d'} =>by
  rw[L.len (a':=a') (b':=b') (w':=w') (d':=d')];exact List.take_length
 obtain⟨gi,si,gr,sr,gh,sh',gp,ge⟩:=L;have hpos:0 < hd.length:=List.length_pos_iff.mpr hne;have nm:zU kv (.inr "names")=some (.lst (names.map PV.str)):=hx.1;have en:zU kv (.inr "ends")=some (.obj e):=hx.2.1;refine zB ?_
 try simp? only[gh,List.length_map]
 refine⟨i,hd.length,a,b,rfl,gi,hb,by omega,by omega,λk a b k0 k1 hb=> ?_⟩;obtain⟨k,rfl⟩: ∃n:Nat,k=n:=⟨k.toNat,by omega⟩;have hk:k < hd.length:=by omega
 obtain⟨x,hxk⟩: ∃x,hd[k]?=some x:=⟨_,List.getElem?_eq_getElem hk⟩;obtain⟨hxn,l,hll,hlv⟩:=hx.2.2 x (List.mem_iff_getElem?.mpr ⟨k,hxk⟩);obtain⟨nmx,hnx⟩: ∃z,names[x]?=some z:=⟨_,List.getElem?_eq_getElem hxn⟩;have hix:atI (names.map PV.str) (x:Int)=some (.str nmx):=vT (by rw[List.getElem?_map,hnx];rfl);have hel:(hd.eraseIdx k).length<=1000:=Nat.le_trans (List.length_eraseIdx_le ..) hl1;have he:(hd.map yE).eraseIdx k=(hd.eraseIdx k).map yE:=fH
 try simp? only[si,zbw]
 refine⟨h,k,yE x,_,rfl,rfl,gh,by rw[List.getElem?_map,hxk];rfl,?_⟩;rw[he]
 try simp? only[sh']
 refine zB ?_
 try simp? only[gp,nm,hix,gr,sr,wP]
 refine⟨Nat.lt_of_le_of_lt hl2 (by decide),?_⟩;rw[gh,en];refine⟨rfl,?_⟩;have ge':= @ge
 try simp? only[ge,hlv,gh,sh',List.length_map]
 refine⟨by rw[sizeLine_eq];omega,?_⟩;rw[<- List.map_append,hlen];exact q k x l nmx a b hxk hnx hlv hb
theorem zfk {f:Addr}{fd:FuncData}(M:Mo K mg)(F:zV K "_law_hand" "_law_hand" pK f fd)(mF:yM K fd ["_law_script","_law_at","_law_plan","_law_number_here"] [])(mQ:mg "_law_hand" =some (.ref f)): ∀d,zJ P w K mg base zL (d+13) f fd ["_law_script","_law_at","_law_plan","_law_number_here"] (zG K (i5 d))
 | 0=>⟨λvs H Q E h=>(zgo h).elim,λA outer s H args us vs Q E _ _ _ _ h=>(zgo h).elim⟩
 | d+1=>by
  have IH:zJ P w K mg base zL (d+13) f fd ["_law_script","_law_at","_law_plan","_law_number_here"] (zG K (i5 d)):=zfk M F mF mQ d;obtain⟨zaf,zak,nQ,gJ,zaG⟩:=M._law_box;have iQ:zJ P w K mg base zL 1 zaf zak ["_law_script","_law_k"] (zG K zbB):=zfj M nQ;obtain⟨xV,xW,zX,y9,yA⟩:=M._law_take;have y8:zJ P w K mg base zL 1 xV xW ["_law_box_here","_law_many"] (zG K u5):=uJ M zX;obtain⟨zjz,zjF,iO,zcB,zeQ⟩:=M._law_row;have zcz:zJ P w K mg base zL 12 zjz zjF ["_law_box_here","_law_uses","_law_things"] (zG K lO):=zlJ M iO;obtain⟨zjt,zj_,iN,zcA,zeP⟩:=M._law_join;have zcy:zJ P w K mg base zL 2 zjt zj_ ["_law_box_here","_law_plan","_law_rows","_law_held"] (zG K i6):=zlE M iN;have lZ:=F;refine x5 0 F pZ (λxs st Q h=>by obtain⟨ns,at',n,a0,kv,names,things,shl,many,sp,E,R,m0,rfl,_⟩:=h;rfl) ⟨_,λcdv A outer s H E hr=>have hr1:zY 1 _:=hr.mono (by omega);have hr2:zY 2 _:=hr.mono (by omega);have hr12:zY 12 _:=hr.mono (by omega);(zA (zT (i:=4) pZ.nd rfl (Or.inl rfl) (zK iQ hr1 (by rfl) zaG nQ.kp gJ (z3 (qv 0) (z3 (y6 xA (qv 1) (qv 3)) z4))))
   (zA (zT (i:=5) pZ.nd rfl (Or.inl rfl) (zE (zN hr) (zE (vX hr) (qv 2) zI (λ_ _=>rfl)) (qv 3) (λ_ _=>rfl)))
   (zA (znw (i:=6) (j:=7) rfl pZ.nd rfl rfl (by decide) rfl rfl (z3 (sQ z4) (z3 (sQ z4) z4)) (by rfl))
   (zA (wM PassesOwn.never rfl (rB (by rfl) M.range (z3 (zK y8 hr1 (by rfl) yA zX.kp y9 (z3 (qv 4) (z3 z7 z4))) z4)) (yF (i:=8) pZ.nd rfl (Or.inl rfl)) (zA (zT (i:=9) pZ.nd rfl (Or.inl rfl) (zK y8 hr1 (by rfl) yA zX.kp y9 (z3 (qv 4) (z3 z7 z4))))
   (zF (yL (PW.pt (tB (y7 oZ (qv 9) z7 (y3 _)) (tD (y7 uZ (xL wD (by rfl) M.len PySem.boot_len (z3 (zE (vX hr) (qv 2) zI (λ_ _=>rfl)) z4)) z7 (y3 _))))) (zA (zT (i:=10) pZ.nd rfl (Or.inl rfl) (wT PySem.F.plainAttrs_list PySem.F.slot_list_pop PySem.F.type_list_pop (by decide) zfh (zE (vX hr) (qv 2) zI (λ_ _=>rfl)) (z3 (zK y8 hr1 (by rfl) yA zX.kp y9 (z3 (qv 4) (z3 (xL wD (by rfl) M.len PySem.boot_len (z3 (zE (vX hr) (qv 2) zI (λ_ _=>rfl)) z4)) z4))) z4)))
   (zA (uO (zK IH hr (by rfl) mQ lZ.kp mF (z3 (qv 0) (z3 (qv 1) (z3 (qv 2) (z3 (qv 10) z4))))) (rA hr (zE (vX hr) (qv 2) zI (λ_ _=>rfl)) (qv 10)))
   (zA (wZ (wT PySem.F.plainAttrs_list PySem.F.slot_list_append PySem.F.type_list_append (by decide) uC (qv 6) (z3 (yV (z3 zI (z3 (zE (zN hr) (zE (vX hr) (qv 2) zI (λ_ _=>rfl)) (qv 10) (λ_ _=>rfl)) z4))) z4)))
   (zF (wZ (wT PySem.F.plainAttrs_list PySem.F.slot_list_append PySem.F.type_list_append (by decide) uC (qv 7) (z3 (qv 10) z4))))))) (zF (yL (PW.pt (tB (y7 (yT hr) (qv 9) z7 (y3 _)) (tD (y7 uZ (xL wD (by rfl) M.len PySem.boot_len (z3 (qv 7) z4)) z7 (y3 _))))) (zF (wZ (zK zcy hr2 (by rfl) zeP iN.kp zcA (z3 (qv 4) (z3 (qv 2) (z3 (qv 6) (z3 (qv 7) z4))))))) (zF (wZ (wT PySem.F.plainAttrs_list PySem.F.slot_list_append PySem.F.type_list_append (by decide) uC (qv 6) (z3 (zK zcz hr12 (by rfl) zeQ iO.kp zcB (z3 (qv 4) (z3 (qv 5) (z3 (zE (vX hr) (qv 2) zI (λ_ _=>rfl)) z4)))) z4))))))))))
   (zA (zbj PassesOwn.never (PW.pt (tB (y7 uZ (xL wD (by rfl) M.len PySem.boot_len (z3 (qv 7) z4)) z7 (y3 _)) (tD (PW.pt (q5 (y7 (yT hr) (qv 3) z7 (y3 _)) (nB (y7 uZ (zK y8 hr1 (by rfl) yA zX.kp y9 (z3 (qv 4) (z3 z7 z4))) z7 (y3 _)))))))) (zA (yL (PW.pt (tB (y7 oZ (xL wD (by rfl) M.len PySem.boot_len (z3 (qv 6) z4)) z7 (y3 _)) (tD (y7 (yT hr) (zK y8 hr1 (by rfl) yA zX.kp y9 (z3 (qv 4) (z3 z7 z4))) z7 (y3 _))))) (zF (wZ (wT PySem.F.plainAttrs_list PySem.F.slot_list_append PySem.F.type_list_append (by decide) uC (qv 6) (z3 (zK zcz hr12 (by rfl) zeQ iO.kp zcB (z3 (qv 4) (z3 (qv 5) (z3 (zE (vX hr) (qv 2) zI (λ_ _=>rfl)) z4)))) z4)))) yQ)
   (zF (wZ (zK zcy hr2 (by rfl) zeP iN.kp zcA (z3 (qv 4) (z3 (qv 2) (z3 (qv 6) (z3 (qv 7) z4)))))))))
   (zA (uO (yV (z3 (zE (zN hr) (zE (vX hr) (qv 2) zI (λ_ _=>rfl)) (qv 3) (λ_ _=>rfl)) (z3 (vZ (pA rfl) (by rfl) M.tuple sC (z3 (qv 6) z4)) z4))) (rA hr (zE (vX hr) (qv 2) zI (λ_ _=>rfl)) (qv 3)))
   (zF (yB (qv 7))))))))),λxs st Q h=> ?_⟩
  obtain⟨ns,at',n,a0,kv,names,things,shl,many,sp,E,R,m0,rfl,rfl,H,hd8,q⟩:=h;have hu:atI (List.replicate many (PV.tup [.lst (shl.map yC),.lst (shl.map yC)])) (n:Int)=some (.tup [.lst (shl.map yC),.lst (shl.map yC)]):=vT (by rw[List.getElem?_replicate,if_pos H.nlt]);have kn:=H.K.nms;have kt:=H.K.tgs;have ku:=H.K.uses;have ks:=H.K.spare;have ke:=H.K.ends;have kr:=H.K.rows;refine zB ?_
  try simp? only[true_and]
  refine⟨ns,_,rfl,H.nl,by have:=H.a0;omega,λa b hb=> ?_⟩
  try simp? only[zc0,zc1]
  refine zB ?_
  try simp? only[wO,ku,hu,wP]
  refine zB ?_
  try simp? only[zc0,zc1]
  have e3: ∀{x y z:PO},m0++ [x]++ [y]++ [z]=m0++ [x,y,z]:=λ{x y z} =>by simp
  have l1: ∀{x:PO},(m0++ [x]).length+5=m0.length+6:=λ{x} =>by simp
  have l2: ∀{x y:PO},(m0++ [x]++ [y]).length+5=m0.length+7:=λ{x y} =>by simp
  rw[e3,l1,l2];have enm: ∀{x:Nat},x < names.length->atI (names.map PV.str) (x:Int)=some (.str (zP names x)):=λ{x} hx=>vT (by rw[List.getElem?_map,jH hx];rfl);have insp: ∀x∈sp,x < names.length:=λx hx=>Nat.lt_of_lt_of_le (H.sm x hx) H.nml;have env0: ∃ev:Option PV->Option PV->Option PV->zH,ev=λv8 v9 v10=> [some (PV.lst (ns.map PV.int)),some (.int at'),some (.obj 4),some (.int (n:Int)),some (.obj (m0.length+5)),some (.tup [.lst (shl.map yC),.lst (shl.map yC)]),some (.obj (m0.length+6)),some (.obj (m0.length+7)),v8,v9,v10]:=⟨_,rfl⟩;obtain⟨ev,hev⟩:=env0;have big:(2000:Nat) < sizeLine:=by rw[sizeLine_eq];decide
  refine tS (λenv s=> ∃(sp' ks:List Nat) (X:List Re) (E1:List Ee) (rs:List Rh) (hd:List Nat) (a b:Int) (v8 v9 v10:Option PV),env=ev v8 v9 v10/\s=G a0 kv (zP names) sp' (E++E1) (R++X) (m0++ [zC a b,.lst (rs.map Rh.pv),.lst (hd.map yE)])/\LI shl (zP names) sp E sp' ks X E1 rs hd/\rs.length<=8/\yD a b) (λN hN=> ?_) ?_
  ·try simp? only[true_and]
   refine⟨m0.length+5,9,a,b,rfl,w6,hb,by decide,by decide,λt a b t0 t1 hb=> ?_⟩
   try simp? only[wA]
   refine⟨⟨by omega,by omega⟩,wH (λk env s=> ∃(sp' ks:List Nat) (X:List Re) (E1:List Ee) (rs:List Rh) (hd:List Nat) (a b:Int) (v8 v9 v10:Option PV),env=ev v8 v9 v10/\s=G a0 kv (zP names) sp' (E++E1) (R++X) (m0++ [zC a b,.lst (rs.map Rh.pv),.lst (hd.map yE)])/\LI shl (zP names) sp E sp' ks X E1 rs hd/\rs.length<=k/\yD a b) ⟨sp,[],[],[],[],[],a,b,none,none,none,by rw[hev],by simp,LI.start H.sn,Nat.le_refl _,hb⟩ ?_ ?_⟩
   ·rintro k x env s hx ⟨sp',ks',X,E1,rs,hd,a,b,v8,v9,v10,rfl,rfl,I,hrl,hb⟩
    obtain⟨hk,rfl⟩:=sR hx;have hIl:=I.len;have hs7:=H.s7;subst hev
    try simp? only[true_and]
    refine zB ?_
    try simp? only[true_and]
    refine⟨m0.length+5,8,a,b,rfl,w6,hb,by decide,by decide,λkind a b k0 k1 hb=> ?_⟩
    try simp? only[wA]
    have hrl':rs.length<=8:=by omega
    have done: ∀{zG ks2:List Nat} {X2:List Re} {E2:List Ee} {rs2:List Rh} {hd2:List Nat} {a b:Int} {v8 v9 v10:Option PV},LI shl (zP names) sp E zG ks2 X2 E2 rs2 hd2->rs2.length<=k+1->yD a b->∃(sp' ks:List Nat) (X:List Re) (E1:List Ee) (rs:List Rh) (hd:List Nat) (a' b':Int) (v8' v9' v10':Option PV),[some (PV.lst (ns.map PV.int)),some (.int at'),some (.obj 4),some (.int (n:Int)),some (.obj (m0.length+5)),some (.tup [.lst (shl.map yC),.lst (shl.map yC)]),some (.obj (m0.length+6)),some (.obj (m0.length+7)),v8,v9,v10]= [some (PV.lst (ns.map PV.int)),some (.int at'),some (.obj 4),some (.int (n:Int)),some (.obj (m0.length+5)),some (.tup [.lst (shl.map yC),.lst (shl.map yC)]),some (.obj (m0.length+6)),some (.obj (m0.length+7)),v8',v9',v10']/\G a0 kv (zP names) zG (E++E2) (R++X2) (m0++ [zC a b,.lst (rs2.map Rh.pv),.lst (hd2.map yE)])=G a0 kv (zP names) sp' (E++E1) (R++X) (m0++ [zC a' b',.lst (rs.map Rh.pv),.lst (hd.map yE)])/\LI shl (zP names) sp E sp' ks X E1 rs hd/\rs.length<=k+1/\yD a' b':=λ{zG ks2 X2 E2 rs2 hd2 a b v8 v9 v10} I2 h2 hb=>⟨zG,ks2,X2,E2,rs2,hd2,a,b,v8,v9,v10,rfl,rfl,I2,h2,hb⟩;have plain: ∀{r:Rw} {a b:Int} {v8 v9 v10:Option PV},qO shl r->yD a b->_:=λ{r a b v8 v9 v10} hr hb=>done (v8:=v8) (v9:=v9) (v10:=v10) (I.plain hr) (by rw[List.length_append,List.length_singleton];omega) hb;by_cases hk3:kind < 3
    ·have d3:decide (kind < 3)=true:=decide_eq_true hk3
     rw[d3];by_cases hsp:sp'= []
     ·subst hsp
      try simp? only[vF,vG,wW,wO,w6,vH,vB,wA,vI,vJ,kn,kt,ks,ke,kr,wP,List.length_map]
      have hk3':(kind==3)=false:=by simp;omega
      rw[hk3']
      try simp? only[true_and]
      refine zb4 H hb λr a b hr hb=> ?_
      try simp? only[vF,vG,wW,wO,w6,vH,vB,wA,vI,vJ,kn,kt,ks,ke,kr,wP,List.length_map,jX]
      refine⟨by omega,?_⟩;have:=plain (v8:=some (.int (0+(k:Int)))) (v9:=some (.int kind)) (v10:=v10) hr hb;rw[List.map_append]at this;exact this
     ·have hpos:0 < sp'.length:=List.length_pos_iff.mpr hsp
      have hdp:decide (0 < ((sp'.length:Nat):Int))=true:=decide_eq_true (by omega)
      try simp? only[vF,vG,wW,wO,w6,vH,vB,wA,vI,vJ,kn,kt,ks,ke,kr,wP,List.length_map,hdp]
      refine zB ?_
      try simp? only[vF,vG,wW,wO,w6,vH,vB,wA,vI,vJ,kn,kt,ks,ke,kr,wP,List.length_map]
      refine⟨m0.length+5,sp'.length,a,b,rfl,w6,hb,by omega,by omega,λi a b i0 i1 hb=> ?_⟩;obtain⟨i,rfl⟩: ∃n:Nat,i=n:=⟨i.toNat,by omega⟩;have hi:i < sp'.length:=by omega
      obtain⟨j,hj⟩: ∃j,sp'[i]?=some j:=⟨_,List.getElem?_eq_getElem hi⟩;have hjs:j∈sp':=List.mem_iff_getElem?.mpr ⟨i,hj⟩;have hjsp:j∈sp:=I.sub j (List.mem_append_right _ hjs)
      try simp? only[vF,vG,wW,wO,w6,vH,vB,wA,vI,vJ,kn,kt,ks,ke,kr,wP,List.length_map,zbw]
      refine⟨1,i,yE j,_,rfl,rfl,vF,by rw[List.getElem?_map,hj];rfl,?_⟩;rw[fH,zhB]
      try simp? only[true_and]
      refine zB ?_
      try simp? only[true_and]
      have hlt:=List.length_eraseIdx_le sp' i;have hlt2:(sp'.eraseIdx i).length < sp'.length:=by rw[List.length_eraseIdx,if_pos hi];omega
      refine⟨ns,at',j,a0,kv,names,things,shl,many,sp'.eraseIdx i,E++E1,R++X,_,rfl,rfl,H.kid I hj,by omega,λspc ksc Xc E1c rsc hdc C hcl=> ?_⟩;have hjn:j < names.length:=insp j hjsp;have ej:=enm hjn;have Cl:=C.len;have ee1:E1.length=ks'.length:=by rw[<- I.ek,List.length_map]
      have ee2:E1c.length=ksc.length:=by rw[<- C.ek,List.length_map]
      have helh:=H.el;have hjne:j∉(E++E1++E1c).map (·.1):=by
       have hk:=H.kid I hj;rw[List.map_append,List.mem_append,not_or,C.ek];refine⟨?_,λz=>(zdp (List.nodup_append.mp I.nd).2.1 hj (C.sub j (List.mem_append_left _ z))).2 rfl⟩;rw[List.map_append,List.mem_append,not_or,I.ek];exact⟨H.de j hjsp,λz=>(List.nodup_append.mp I.nd).2.2 j z j hjs rfl⟩
      have hen:=zje (l:=hdc) hjne;have hel2:(wY (E++E1++E1c)).length<=200:=by unfold wY;rw[List.length_map,List.length_append,List.length_append];omega
      have inj: ∀a∈sp,∀b∈sp,zP names a=zP names b->a=b:=λa ha b hb e=>zeX H.nn (insp a ha) (insp b hb) e;have I2:=LI.split inj I hj C hcl
      try simp? only[vF,vG,wW,wO,w6,vH,vB,wA,vI,vJ,kn,kt,ks,ke,kr,wP,List.length_map]
      refine⟨by omega,?_⟩;rw[hen,zhC];refine zB ?_
      try simp? only[vF,vG,wW,wO,w6,vH,vB,wA,vI,vJ,kn,kt,ks,ke,kr,wP,List.length_map,ej]
      have hhl:=I.hl;refine⟨by omega,by omega,?_⟩;have:=done (v8:=some (.int (0+(k:Int)))) (v9:=some (.int kind)) (v10:=some (yE j)) I2 (by rw[List.length_append,List.length_singleton];omega) hb;rw[<- List.append_assoc E,<- List.append_assoc (E++E1),<- List.append_assoc R,<- List.append_assoc (R++X),List.map_append,List.map_append]at this;exact this
    ·have d3:decide (kind < 3)=false:=decide_eq_false hk3
     rw[d3]
     try simp? only[vF,vG,wW,wO,w6,vH,vB,wA,vI,vJ,kn,kt,ks,ke,kr,wP,List.length_map]
     by_cases he3:kind=3/\hd≠ []
     ·obtain⟨rfl,hne⟩:=he3
      have hdp:decide (0 < ((hd.length:Nat):Int))=true:=decide_eq_true (by have:=List.length_pos_iff.mpr hne;omega)
      try simp? only[beq_self_eq_true,hdp]
      refine zeG H I (by omega) hb hne λk' x l a b hx hl hb=> ?_;exact done (I.join hx hl).1 (by rw[List.length_append,List.length_singleton];omega) hb
     ·have rowc: ∀{Q:K3},(∀(r:Rw) a b,qO shl r->yD a b->Q r.pv (G a0 kv (zP names) sp' (E++E1) (R++X) (m0++ [zC a b,.lst (rs.map Rh.pv),.lst (hd.map yE)])))->lO [.obj (m0.length+5),.tup [.lst (shl.map yC),.lst (shl.map yC)],.lst (things.map PV.str)] (G a0 kv (zP names) sp' (E++E1) (R++X) (m0++ [zC a b,.lst (rs.map Rh.pv),.lst (hd.map yE)])) Q:=λq=>zb4 H hb q
      have rowd: ∀(r:Rw) a b,qO shl r->yD a b->_:=λr a b hr hb=>plain (v8:=some (.int (0+(k:Int)))) (v9:=some (.int kind)) (v10:=v10) (a:=a) (b:=b) hr hb;by_cases hkk:kind=3
      ·have hnil:hd= []:=Classical.byContradiction λz=>he3 ⟨hkk,z⟩
       subst hkk hnil
       try simp? only[beq_self_eq_true]
       refine rowc λr a b hr hb=> ?_
       try simp? only[vF,vG,wW,wO,w6,vH,vB,wA,vI,vJ,kn,kt,ks,ke,kr,wP,List.length_map,jX]
       refine⟨by omega,?_⟩;have:=rowd r a b hr hb;rw[List.map_append]at this;exact this
      ·have hk3':(kind==3)=false:=by simpa using hkk
       rw[hk3']
       try simp? only[true_and]
       refine rowc λr a b hr hb=> ?_
       try simp? only[vF,vG,wW,wO,w6,vH,vB,wA,vI,vJ,kn,kt,ks,ke,kr,wP,List.length_map,jX]
       refine⟨by omega,?_⟩;have:=rowd r a b hr hb;rw[List.map_append]at this;exact this
   ·rintro env s ⟨sp',ks',X,E1,rs,hd,a,b,v8,v9,v10,rfl,rfl,I,hrl,hb⟩
    rw[tQ]at hrl
    try simp? only[true_and]
    exact hN _ _ ⟨sp',ks',X,E1,rs,hd,a,b,v8,v9,v10,rfl,rfl,I,by omega,hb⟩
  ·rintro env s ⟨sp0,ks0,X0,E0,rs0,hd0,a,b,v8,v9,v10,rfl,rfl,I0,hrl0,hb0⟩
   have hs7:=H.s7;have hw0:=I0.wt;have hk0:=I0.len;refine tS (λenv s=> ∃(sp' ks:List Nat) (X:List Re) (E1:List Ee) (rs:List Rh) (hd:List Nat) (a b:Int) (v8 v9 v10:Option PV),env=ev v8 v9 v10/\s=G a0 kv (zP names) sp' (E++E1) (R++X) (m0++ [zC a b,.lst (rs.map Rh.pv),.lst (hd.map yE)])/\LI shl (zP names) sp E sp' ks X E1 rs hd/\rs.length<=30) (λN hN=> ?_) ?_
   ·refine⟨λm env s=> ∃(sp' ks:List Nat) (X:List Re) (E1:List Ee) (rs:List Rh) (hd:List Nat) (a b:Int) (v8 v9 v10:Option PV),env=ev v8 v9 v10/\s=G a0 kv (zP names) sp' (E++E1) (R++X) (m0++ [zC a b,.lst (rs.map Rh.pv),.lst (hd.map yE)])/\LI shl (zP names) sp E sp' ks X E1 rs hd/\yD a b/\m=(hd.map (wE (E++E1))).sum/\rs.length+2 * m<=22,⟨_,sp0,ks0,X0,E0,rs0,hd0,a,b,v8,v9,v10,rfl,rfl,I0,hb0,rfl,by omega⟩,?_⟩
    rintro m env s ⟨sp',ks',X,E1,rs,hd,a,b,v8,v9,v10,rfl,rfl,I,hb,rfl,hrl⟩;have hIl:=I.len;have hhl:=I.hl;subst hev;by_cases hne:hd= []
    ·subst hne
     try simp? only[vF,vG,wW,wO,w6,vH,vB,wA,vI,vJ,kn,kt,ks,ke,kr,wP,List.length_map]
     exact hN _ _ ⟨sp',ks',X,E1,rs,[],a,b,v8,v9,v10,rfl,rfl,I,by omega⟩
    ·have hdp:decide (0 < ((hd.length:Nat):Int))=true:=decide_eq_true (by have:=List.length_pos_iff.mpr hne;omega)
     have body: ∀{a b:Int} {D:xS},yD a b->(∀(rs2:List Rh) (hd2:List Nat) (a b:Int),LI shl (zP names) sp E sp' ks' X E1 rs2 hd2->yD a b->(hd2.map (wE (E++E1))).sum+1=(hd.map (wE (E++E1))).sum->rs2.length<=rs.length+2->D.nx [some (PV.lst (ns.map PV.int)),some (.int at'),some (.obj 4),some (.int (n:Int)),some (.obj (m0.length+5)),some (.tup [.lst (shl.map yC),.lst (shl.map yC)]),some (.obj (m0.length+6)),some (.obj (m0.length+7)),v8,v9,v10] (G a0 kv (zP names) sp' (E++E1) (R++X) (m0++ [zC a b,.lst (rs2.map Rh.pv),.lst (hd2.map yE)])))->
       u8 (iK (iG (lU (rM (pD λi j=>decide (i < j)) (rL jS (uR (vQ 6) oB)) (vC (PV.int 12)))) (lU (rM zbl (rL u5 (uR (vQ 4) (uR (vC (PV.int 3)) oB))) (vC (PV.int 0))))) (iJ (vBM "list" jO (vQ 6) (uR (rL lO (uR (vQ 4) (uR (vQ 5) (uR (rM jR (vQ 2) (vC (PV.str (Str.ofString "things")))) oB)))) oB))) zbT) (iJ (rL i6 (uR (vQ 4) (uR (vQ 2) (uR (vQ 6) (uR (vQ 7) oB)))))) D [some (PV.lst (ns.map PV.int)),some (.int at'),some (.obj 4),some (.int (n:Int)),some (.obj (m0.length+5)),some (.tup [.lst (shl.map yC),.lst (shl.map yC)]),some (.obj (m0.length+6)),some (.obj (m0.length+7)),v8,v9,v10] (G a0 kv (zP names) sp' (E++E1) (R++X) (m0++ [zC a b,.lst (rs.map Rh.pv),.lst (hd.map yE)])):=by
      intro a b D hb hD;refine tS (λenv s=> ∃(rs2:List Rh) (a b:Int),env= [some (PV.lst (ns.map PV.int)),some (.int at'),some (.obj 4),some (.int (n:Int)),some (.obj (m0.length+5)),some (.tup [.lst (shl.map yC),.lst (shl.map yC)]),some (.obj (m0.length+6)),some (.obj (m0.length+7)),v8,v9,v10]/\s=G a0 kv (zP names) sp' (E++E1) (R++X) (m0++ [zC a b,.lst (rs2.map Rh.pv),.lst (hd.map yE)])/\LI shl (zP names) sp E sp' ks' X E1 rs2 hd/\yD a b/\rs2.length<=rs.length+1) (λN hN=> ?_) ?_
      ·try simp? only[vF,vG,wW,wO,w6,vH,vB,wA,vI,vJ,kn,kt,ks,ke,kr,wP,List.length_map]
       by_cases h12:((rs.length:Nat):Int) < 12
       ·have d12:decide (((rs.length:Nat):Int) < 12)=true:=decide_eq_true h12
        try simp? only[d12]
        refine⟨m0.length+5,3,a,b,rfl,w6,hb,by decide,by decide,λt a b t0 t1 hb=> ?_⟩
        try simp? only[wA]
        by_cases ht:t=0
        ·subst ht
         try simp? only[beq_self_eq_true,vF,vG,wW,wO,w6,vH,vB,wA,vI,vJ,kn,kt,ks,ke,kr,wP,List.length_map]
         refine zb4 H hb λr a b hr hb=> ?_
         try simp? only[vF,vG,wW,wO,w6,vH,vB,wA,vI,vJ,kn,kt,ks,ke,kr,wP,List.length_map,jX]
         refine⟨by omega,hN _ _ ⟨rs++ [.pl r],a,b,rfl,by rw[List.map_append];rfl,I.plain hr,hb,by rw[List.length_append,List.length_singleton];exact Nat.le_refl _⟩⟩
        ·have ht':(t==0)=false:=by simpa using ht
         try simp? only[ht']
         exact hN _ _ ⟨rs,a,b,rfl,rfl,I,hb,by omega⟩
       ·have d12:decide (((rs.length:Nat):Int) < 12)=false:=decide_eq_false h12
        try simp? only[d12]
        exact hN _ _ ⟨rs,a,b,rfl,rfl,I,hb,by omega⟩
      ·rintro env s ⟨rs2,a,b,rfl,rfl,I2,hb,hr2⟩
       try simp? only[true_and]
       refine zeG H I2 (by omega) hb hne λk' x l a b hx hl hb=> ?_;have:=I2.join hx hl;exact hD _ _ a b this.1 hb this.2 (by rw[List.length_append,List.length_singleton];omega)
     try simp? only[vF,vG,wW,wO,w6,vH,vB,wA,vI,vJ,kn,kt,ks,ke,kr,wP,List.length_map,hdp]
     by_cases hn0:n=0
     ·have hn0':(((n:Nat):Int)==0)=true:=by rw[hn0];rfl
      try simp? only[hn0']
      refine⟨λe s=> ∃(rs2:List Rh) (hd2:List Nat) (a b:Int),e= [some (PV.lst (ns.map PV.int)),some (.int at'),some (.obj 4),some (.int (n:Int)),some (.obj (m0.length+5)),some (.tup [.lst (shl.map yC),.lst (shl.map yC)]),some (.obj (m0.length+6)),some (.obj (m0.length+7)),v8,v9,v10]/\s=G a0 kv (zP names) sp' (E++E1) (R++X) (m0++ [zC a b,.lst (rs2.map Rh.pv),.lst (hd2.map yE)])/\LI shl (zP names) sp E sp' ks' X E1 rs2 hd2/\yD a b/\(hd2.map (wE (E++E1))).sum+1=(hd.map (wE (E++E1))).sum/\rs2.length<=rs.length+2,?_,body hb λrs2 hd2 a b i1 i2 i3 i4=>⟨rs2,hd2,a,b,rfl,rfl,i1,i2,i3,i4⟩⟩;rintro e s ⟨rs2,hd2,a,b,rfl,rfl,h3,h4,h5,h6⟩;exact⟨(hd2.map (wE (E++E1))).sum,by omega,sp',ks',X,E1,rs2,hd2,a,b,v8,v9,v10,rfl,rfl,h3,h4,rfl,by omega⟩
     ·have hn0':(((n:Nat):Int)==0)=false:=by simp;omega
      try simp? only[hn0']
      refine⟨m0.length+5,3,a,b,rfl,w6,hb,by decide,by decide,λt a b t0 t1 hb=> ?_⟩
      try simp? only[wA]
      by_cases ht:0 < t
      ·have ht':decide (0 < t)=true:=decide_eq_true ht
       try simp? only[ht']
       refine⟨λe s=> ∃(rs2:List Rh) (hd2:List Nat) (a b:Int),e= [some (PV.lst (ns.map PV.int)),some (.int at'),some (.obj 4),some (.int (n:Int)),some (.obj (m0.length+5)),some (.tup [.lst (shl.map yC),.lst (shl.map yC)]),some (.obj (m0.length+6)),some (.obj (m0.length+7)),v8,v9,v10]/\s=G a0 kv (zP names) sp' (E++E1) (R++X) (m0++ [zC a b,.lst (rs2.map Rh.pv),.lst (hd2.map yE)])/\LI shl (zP names) sp E sp' ks' X E1 rs2 hd2/\yD a b/\(hd2.map (wE (E++E1))).sum+1=(hd.map (wE (E++E1))).sum/\rs2.length<=rs.length+2,?_,body hb λrs2 hd2 a b i1 i2 i3 i4=>⟨rs2,hd2,a,b,rfl,rfl,i1,i2,i3,i4⟩⟩;rintro e s ⟨rs2,hd2,a,b,rfl,rfl,h3,h4,h5,h6⟩;exact⟨(hd2.map (wE (E++E1))).sum,by omega,sp',ks',X,E1,rs2,hd2,a,b,v8,v9,v10,rfl,rfl,h3,h4,rfl,by omega⟩
      ·have ht':decide (0 < t)=false:=decide_eq_false ht
       try simp? only[ht']
       exact hN _ _ ⟨sp',ks',X,E1,rs,hd,a,b,v8,v9,v10,rfl,rfl,I,by omega⟩
   ·rintro env s ⟨sp',ks',X,E1,rs,hd,a,b,v8,v9,v10,rfl,rfl,I,hrl⟩
    subst hev;have en:=enm (Nat.lt_of_lt_of_le H.nlt H.nml);have hnk:n∉(R++X).map (·.1):=by
     rw[List.map_append,List.mem_append,not_or,I.xk];exact⟨H.nr,λz=>H.ns' (I.sub n (List.mem_append_left _ z))⟩
    have hrn:=znT (nm:=zP names) (rs:=rs) hnk;have hxl:X.length=ks'.length:=by rw[<- I.xk,List.length_map]
    have hIl:=I.len;have hrr:=H.rl;have hrl2:(vM (zP names) (R++X)).length<=200:=by unfold vM;rw[List.length_map,List.length_append];omega
    refine zB ?_
    try simp? only[vF,vG,wW,wO,w6,vH,vB,wA,vI,vJ,kn,kt,ks,ke,kr,wP,List.length_map,en]
    refine⟨by omega,?_⟩;rw[show PV.tup [PV.str (zP names n),PV.tup (rs.map Rh.pv)]=yI (zP names n,rs)from rfl,hrn,zhD];unfold xG;dsimp only;rw[if_neg (by omega),vB];dsimp only;have htk: ∀{m1 m2:z6} {x y:List Nat} {z:List Ee} {u:List Re},(G a0 kv (zP names) x z u (m1++m2)).take (m1.length+5)=G a0 kv (zP names) x z u m1:=λ{m1 m2 x y z u} =>by
     show _::_::_::_::_::((m1++m2).take m1.length)=_;rw[List.take_append_of_le_length (Nat.le_refl _),List.take_length];rfl
    rw[htk (y:= [])];exact q sp' ks' X E1 rs hd I hrl
theorem zlM {f:Addr}{fd:FuncData}(M:Mo K mg)(F:zV K "_law_three_words" "_law_three_words" pW f fd):zJ P w K mg base zL 3 f fd ["_law_box_here"] (zG K zg4):=by
 obtain⟨xV,xW,zX,y9,yA⟩:=M._law_take;have y8:zJ P w K mg base zL 1 xV xW ["_law_box_here","_law_many"] (zG K u5):=uJ M zX;obtain⟨zj3,zjJ,kB,gM,zaJ⟩:=M._law_words;have iT:zJ P w K mg base zL 2 zj3 zjJ ["_law_box_here","_law_many"] (zG K zg6):=zlN M kB;refine x5 0 F rJ (λxs st Q h=>by obtain⟨i,a,b,rfl,_⟩:=h;rfl) ⟨_,λcdv A outer s H E hr=>have hr1:zY 1 _:=hr.mono (by decide);have hr2:zY 2 _:=hr.mono (by decide);(zA (zT (i:=1) rJ.nd rfl (Or.inl rfl) (zK y8 hr1 (by rfl) yA zX.kp y9 (z3 (qv 0) (z3 z7 z4))))
   (zA (zT (i:=2) rJ.nd rfl (Or.inl rfl) (zK iT hr2 (by rfl) zaJ kB.kp gM (z3 (qv 0) (z3 z7 z4))))
   (zA (yL (y7 (yT hr) (qv 1) z7 (y3 _)) (zA (uO (t5 (t5 zI (uN (zK y8 hr1 (by rfl) yA zX.kp y9 (z3 (qv 0) (z3 z7 z4)))) t8) t8 (uN z7)) (znu (n:=3) rfl (xH (yF (i:=3) rJ.nd rfl (Or.inl rfl)) (xH (yF (i:=4) rJ.nd rfl (Or.inl rfl)) (xH (yF (i:=5) rJ.nd rfl (Or.inl rfl)) uM)))))
   (zA (zT (i:=2) rJ.nd rfl (Or.inl rfl) (u0 (z3 (qv 3) (z3 (y6 xA (qv 3) (qv 4)) (z3 (qv 4) (z3 (y6 xA (qv 4) (qv 5)) (z3 (qv 5) z4)))))))
   (zF (zT (i:=2) rJ.nd rfl (Or.inl rfl) (y6 xA (qv 2) (u0 (z3 (y6 xA (qv 3) (qv 5)) (z3 (y6 xA (y6 xA (qv 3) (qv 4)) (qv 5)) (z3 (y6 xA (qv 5) (qv 4)) z4))))))))) yQ)
   (zA (zT (i:=6) rJ.nd rfl (Or.inl rfl) (zK y8 hr1 (by rfl) yA zX.kp y9 (z3 (qv 0) (z3 z7 z4))))
   (zA (yL (PW.pt (q5 (y7 (yT hr) (qv 1) z7 (y3 _)) (nB (y7 (yT hr) (qv 1) z7 (y3 _))))) (zF (yB (yV (z3 (t5 (qv 2) t8 (uN z7)) (z3 (y6 xA (t5 (qv 2) (uN (qv 6)) t8) (t5 (qv 2) t8 (uN (qv 6)))) (z3 (t5 (zns (qv 2) (uN (znt zl5 z7))) t8 (uN z7)) z4)))))) yQ)
   (zF (yB (yV (z3 (t5 (qv 2) t8 (uN z7)) (z3 (zK iT hr2 (by rfl) zaJ kB.kp gM (z3 (qv 0) (z3 z7 z4))) (z3 (zK iT hr2 (by rfl) zaJ kB.kp gM (z3 (qv 0) (z3 z7 z4))) z4))))))))))),λxs st Q h=> ?_⟩
 obtain⟨i,a,b,rfl,hi,hb,q⟩:=h;have hset: ∀{a b:Int},(st.set i (zC a b))[i]?=some (zC a b):=λ{a b} =>tM hi;have small_l:(("abcdefghijklmnopqrstuvwxyz" :Str)).length<=sizeLine:=Nat.le_trans (m:=1000) (by decide+kernel) (by decide);refine zB ?_
 try simp? only[true_and]
 refine⟨i,4,a,b,rfl,hi,hb,by decide,by decide,λform a b f0 f1 hb=> ?_⟩
 try simp? only[true_and]
 refine zB ?_
 try simp? only[true_and]
 refine⟨i,8,a,b,rfl,hset,hb,by decide,by decide,λws a b hwl hwn hb=> ?_⟩;have hwl':ws.length=8:=by omega
 try simp? only[true_and]
 refine tS (λenv s=> ∃(ws:List Str) (v1 v2 v3:Option PV) (a b:Int),env= [some (PV.obj i),some (.int form),some (.lst (ws.map PV.str)),v1,v2,v3,none]/\ws.length=8/\ws.Nodup/\yD a b/\s=st.set i (zC a b)) (λN hN=> ?_) ?_
 ·by_cases hf:form=2
  ·subst hf
   try simp? only[beq_self_eq_true]
   refine zB ?_
   try simp? only[true_and]
   refine⟨i,24,a,b,rfl,hset,hb,by decide,by decide,λk a b k0 k1 hb=> ?_⟩;obtain⟨n,rfl⟩: ∃n:Nat,k=n:=⟨k.toNat,by omega⟩;have hn:n < 24:=by omega
   have hc:=ziO n hn
   try simp? only[true_and]
   refine⟨small_l,λl1=>⟨Nat.le_trans l1 small_l,λl2=> ?_⟩⟩;rw[hc];refine⟨rfl,?_⟩;have e3:(nL ⟨#[97+n,97+(n+1),97+(n+2)]⟩).map PV.str= [.str (sg n),.str (sg (n+1)),.str (sg (n+2))]:=rfl;rw[e3];have l1': ∀k,(sg k).length=1:=λk=>rfl;have thou: ∀{n:Nat},n<=1000->n<=sizeLine:=λh=>Nat.le_trans h (by decide)
   try simp? only[true_and]
   refine zB ?_
   try simp? only[l1',Str.length_append]
   refine⟨thou (by decide),thou (by decide),?_⟩
   try simp? only[l1',Str.length_append]
   exact⟨thou (by decide),thou (by decide),thou (by decide),thou (by decide),thou (by decide),hN _ _ ⟨zdm n,_,_,_,a,b,rfl,rfl,zjc n hn,hb,rfl⟩⟩
  ·have hf':(form==2)=false:=by simpa using hf
   try simp? only[hf']
   exact hN _ _ ⟨ws,_,_,_,a,b,rfl,hwl',hwn,hb,rfl⟩
 ·rintro env s ⟨ws,v1,v2,v3,a,b,rfl,hwl,hwn,hb,rfl⟩
  refine zB ?_
  try simp? only[true_and]
  refine⟨i,8,a,b,rfl,hset,hb,by decide,by decide,λk a b k0 k1 hb=> ?_⟩;obtain⟨n,rfl⟩: ∃n:Nat,k=n:=⟨k.toNat,by omega⟩
  try simp? only[true_and]
  refine zB ?_
  try simp? only[true_and]
  have e6:wX (ws.map PV.str) none (some 6)=(ws.take 6).map PV.str:=by rw[show((6:Int))=((6:Nat):Int)from rfl,mM,List.map_take]
  have l6:(ws.take 6).length=6:=by rw[List.length_take];omega
  have n6:(ws.take 6).Nodup:=hwn.sublist (List.take_sublist _ _);have done:(wX (ws.map PV.str) (some (n:Int)) none).length+(wX (ws.map PV.str) none (some (n:Int))).length<=sizeLine/\Q (.tup [.lst (wX (ws.map PV.str) none (some 6)),.lst (wX (ws.map PV.str) (some (n:Int)) none++wX (ws.map PV.str) none (some (n:Int))),.lst (wX (ws.map PV.str).reverse none (some 6))]) (st.set i (zC a b)):=by
   rw[e6,zcY,mM,<- List.map_drop,<- List.map_take,<- List.map_append,<- List.map_reverse,show((6:Int))=((6:Nat):Int)from rfl,mM,<- List.map_take];have hp:(ws.drop n++ws.take n).Perm ws:=List.perm_append_comm.trans (by rw[List.take_append_drop]);refine⟨?_,q _ _ _ a b l6 n6 (hp.length_eq.trans hwl) (hp.nodup_iff.mpr hwn) ?_ ?_ (((List.reverse_perm ws).nodup_iff.mpr hwn).sublist (List.take_sublist _ _)) hb⟩
   ·rw[List.length_map,List.length_map,List.length_drop,List.length_take,sizeLine_eq];omega
   ·intro z;have:=congrArg List.length z;rw[List.length_take,List.length_reverse,hwl]at this;exact absurd this (by decide)
   ·rw[List.length_take];omega
  by_cases hf:form=1∨form=2
  ·rcases hf with rfl | rfl
   ·try simp? only[beq_self_eq_true]
    exact done
   ·try simp? only[beq_self_eq_true]
    exact done
  ·have hb1:(form==1)=false:=by simp at hf⊢;exact hf.1
   have hb2:(form==2)=false:=by simp at hf⊢;exact hf.2
   try simp? only[hb1,hb2]
   refine⟨i,8,a,b,rfl,hset,hb,by decide,by decide,λns a b hnl hnn hb=> ?_⟩
   try simp? only[true_and]
   refine⟨i,6,a,b,rfl,hset,hb,by decide,by decide,λts a b htl htn hb=> ?_⟩;rw[e6]
   try simp? only[true_and]
   exact q _ ns ts a b l6 n6 (by omega) hnn (λz=>by rw[z]at htl;simp at htl) (by omega) htn hb
theorem nd7:(["_law_script","_law_at","_law_kinds","_law_calm","_law_hands","_law_box_here","_law_words_here","_law_names","_law_things","_law_shelves","_law_k","_law_manner_here","_law_many","_law_uses","_law_plan","_law_others","_law_turn","_law_number_here"]:List Str).Nodup:=by decide+kernel
theorem zlI {f:Addr}{fd:FuncData}(M:Mo K mg)(F:zV K "_law_program" "_law_program" rF f fd):zJ P w K mg base zL 22 f fd ["_law_script","_law_at","_law_kinds","_law_calm","_law_hands"] (zG K zgz):=by
 obtain⟨zaf,zak,nQ,gJ,zaG⟩:=M._law_box;have iQ:zJ P w K mg base zL 1 zaf zak ["_law_script","_law_k"] (zG K zbB):=zfj M nQ;obtain⟨xV,xW,zX,y9,yA⟩:=M._law_take;have y8:zJ P w K mg base zL 1 xV xW ["_law_box_here","_law_many"] (zG K u5):=uJ M zX;obtain⟨zjw,zjC,zcj,zir,zkS⟩:=M._law_manner;have zh6:zJ P w K mg base zL 10 zjw zjC ["_law_box_here","_law_kinds","_law_calm"] (zG K zgw):=zlH M zcj;obtain⟨zjo,zj5,zcd,zik,zkM⟩:=M._law_begin;have zhz:zJ P w K mg base zL 3 zjo zj5 ["_law_box_here","_law_manner_here","_law_things"] (zG K zgg):=zlA M zcd;obtain⟨zjr,zj8,lZ,mF,mQ⟩:=M._law_hand;have zh2:zJ P w K mg base zL 21 zjr zj8 ["_law_script","_law_at","_law_plan","_law_number_here"] (zG K (i5 8)):=zfk M lZ mF mQ 8;obtain⟨zj2,zjI,zcn,ziv,zkW⟩:=M._law_three_words;have zhA:zJ P w K mg base zL 3 zj2 zjI ["_law_box_here"] (zG K zg4):=zlM M zcn;refine x5 0 F uP (λxs st Q h=>by obtain⟨ns,hands,rfl,_⟩:=h;rfl) ⟨_,λcdv A outer s H E hr=>have hr1:zY 1 _:=hr.mono (by decide);have hr3:zY 3 _:=hr.mono (by decide);have hr10:zY 10 _:=hr.mono (by decide);have hr21:zY 21 _:=hr.mono (by decide);(zA (zT (i:=5) uP.nd rfl (Or.inl rfl) (zK iQ hr1 (by rfl) zaG nQ.kp gJ (z3 (qv 0) (z3 (qv 1) z4))))
   (zA (uO (zK zhA hr3 (by rfl) zkW zcn.kp ziv (z3 (qv 5) z4)) (t6 (n:=3) rfl (xH (yF (i:=6) uP.nd rfl (Or.inl rfl)) (xH (yF (i:=7) uP.nd rfl (Or.inl rfl)) (xH (yF (i:=8) uP.nd rfl (Or.inl rfl)) uM)))))
   (zny (zT (i:=9) uP.nd rfl (Or.inr rfl) (sQ z4)) (wM PassesOwn.never rfl (rB (by rfl) M.range (z3 (y6 xA z7 (zK y8 hr1 (by rfl) yA zX.kp y9 (z3 (qv 5) (z3 z7 z4)))) z4)) (yF (i:=10) uP.nd rfl (Or.inl rfl)) (zA (zT (i:=11) uP.nd rfl (Or.inl rfl) (zK zh6 hr10 (by rfl) zkS zcj.kp zir (z3 (qv 5) (z3 (qv 2) (z3 (qv 3) z4)))))
   (zF (wZ (wT PySem.F.plainAttrs_list PySem.F.slot_list_append PySem.F.type_list_append (by decide) uC (qv 9) (z3 (yV (z3 (zE (zN hr) (qv 6) (qv 10) (λ_ _=>rfl)) (z3 (qv 11) (z3 (zK zhz hr3 (by rfl) zkM zcd.kp zik (z3 (qv 5) (z3 (qv 11) (z3 (qv 8) z4)))) z4)))) z4))))))
   (zA (zT (i:=12) uP.nd rfl (Or.inl rfl) (y6 xA z7 (zK y8 hr1 (by rfl) yA zX.kp y9 (z3 (qv 5) (z3 (qv 4) z4)))))
   (zA (zfH (i0:=13) (own:= ["_law_number_here"]) (tK (fsc:=zO rF) (N:= ["_law_script","_law_at","_law_kinds","_law_calm","_law_hands","_law_box_here","_law_words_here","_law_names","_law_things","_law_shelves","_law_k","_law_manner_here","_law_many","_law_uses","_law_plan","_law_others","_law_turn"]) (N':= ["_law_script","_law_at","_law_kinds","_law_calm","_law_hands","_law_box_here","_law_words_here","_law_names","_law_things","_law_shelves","_law_k","_law_manner_here","_law_many","_law_uses","_law_plan","_law_others","_law_turn"]) rfl rfl (by decide+kernel)) uP.nd rfl (Or.inl rfl) rfl (rB (by rfl) M.range (z3 (qv 12) z4)) (λC s H fp pins=>(yF (i:=17) nd7 rfl (Or.inl rfl))) (λC s H fp pins=>mZ) (λC s H fp pins=>(yV (z3 (qv 9) (z3 (qv 9) z4)))))
   (znz (i:=14) uP.nd rfl (Or.inr rfl) (l0 zI (qv 7) (l0 zI (qv 8) (l0 zI (qv 13) (l0 zI (znq rfl (by rfl) M.list (by rfl) M.range (z3 z7 (z3 (qv 12) z4))) zfG)))) rfl rfl (by simp) (by decide) (zf_ (zf3 (zaX zaZ (zaX zaZ zfv))) (zf4 rfl (zbe (zbc (zbb (i:=14) rfl (by first | exact Or.inl rfl | exact Or.inr (Or.inl rfl) | exact Or.inr (Or.inr rfl))) zba (zgc hr)) (zbe (zbc (zbb (i:=14) rfl (by first | exact Or.inl rfl | exact Or.inr (Or.inl rfl) | exact Or.inr (Or.inr rfl))) zba (zgc hr)) zf5))))
   (zA (wZ (zK zh2 hr21 (by rfl) mQ lZ.kp mF (z3 (qv 0) (z3 (y6 xA (qv 1) z7) (z3 (qv 14) (z3 z7 z4))))))
   (zA (zfH (i0:=15) (own:= ["_law_number_here"]) (tK (fsc:=zO rF) (N:= ["_law_script","_law_at","_law_kinds","_law_calm","_law_hands","_law_box_here","_law_words_here","_law_names","_law_things","_law_shelves","_law_k","_law_manner_here","_law_many","_law_uses","_law_plan","_law_others","_law_turn"]) (N':= ["_law_script","_law_at","_law_kinds","_law_calm","_law_hands","_law_box_here","_law_words_here","_law_names","_law_things","_law_shelves","_law_k","_law_manner_here","_law_many","_law_uses","_law_plan","_law_others","_law_turn"]) rfl rfl (by decide+kernel)) uP.nd rfl (Or.inl rfl) rfl (znv (by rfl) M.range (z3 z7 (z3 (qv 12) z4))) (λC s H fp pins=>(yF (i:=17) nd7 rfl (Or.inl rfl))) (λC s H fp pins=>nA (y7 (mU hr) (qv 17) (zE (vX hr) (qv 14) zI (λ_ _=>rfl)) (by rfl))) (λC s H fp pins=>(zE (zN hr) (zE (vX hr) (qv 14) zI (λ_ _=>rfl)) (qv 17) (λ_ _=>rfl))))
   (zA (zT (i:=16) uP.nd rfl (Or.inl rfl) (zK y8 hr1 (by rfl) yA zX.kp y9 (z3 (qv 5) (z3 (y6 xA (xL wD (by rfl) M.len PySem.boot_len (z3 (qv 15) z4)) z7) z4))))
   (zF (yB (yV (z3 (vZ (pA rfl) (by rfl) M.tuple sC (z3 (qv 9) z4)) (z3 (y6 xA (yV (z3 (zE (zN hr) (zE (vX hr) (qv 14) zI (λ_ _=>rfl)) z7 (λ_ _=>rfl)) z4)) (vZ (pA rfl) (by rfl) M.tuple sC (z3 (y6 xA (t5 (qv 15) (uN (qv 16)) t8) (t5 (qv 15) t8 (uN (qv 16)))) z4))) z4)))))))))))))),λxs st Q h=> ?_⟩
 obtain⟨ns,hands,rfl,rfl,hl,h1,h8,q⟩:=h;refine zB ?_
 try simp? only[true_and]
 refine⟨ns,0,rfl,hl,by decide,λa b hb=> ?_⟩
 try simp? only[true_and]
 refine zB ?_
 try simp? only[true_and]
 refine⟨0,a,b,rfl,rfl,hb,λus nms ts a b hul hun hnl hnn hte htl htn hb=> ?_⟩
 try simp? only[true_and]
 have hkp:p8= .lst [.str "last",.str "sum",.str "bag",.str "row",.str "told"]:=rfl;refine zB ?_;unfold zgY;refine zB ?_
 try simp? only[true_and]
 refine⟨0,6,a,b,rfl,rfl,hb,by decide,by decide,λn a b n0 n1 hb=> ?_⟩
 try simp? only[true_and]
 refine⟨⟨by omega,by omega⟩,wH (λk env s=> ∃(sh:List Sh) (v w:Option PV) (a b:Int),env= [some (.lst (ns.map PV.int)),some (.int 0),some p8,some (.bl false),some (.int hands),some (.obj 0),some (.lst (us.map PV.str)),some (.lst (nms.map PV.str)),some (.lst (ts.map PV.str)),some (.obj 1),v,w,none,none,none,none,none]/\sh.length=k/\(∀s∈sh,kO s)/\sh.map (·.1)=us.take k/\yD a b/\s= [zC a b,.lst (sh.map yC)])
  ⟨[],none,none,a,b,rfl,rfl,by simp,rfl,hb,rfl⟩ ?_ ?_⟩
 ·rintro k x env s hx ⟨sh,v,w,a,b,rfl,hk,hsh,hnm,hb,rfl⟩
  obtain⟨hk2,rfl⟩:=sR hx;have hku:k < us.length:=by omega
  have eu:atI (us.map PV.str) (0+(k:Int))=some (.str us[k]):=by rw[Int.zero_add];exact vT (by rw[List.getElem?_map,List.getElem?_eq_getElem hku];rfl)
  try simp? only[true_and]
  refine zB ?_
  try simp? only[true_and]
  refine⟨0,a,b,rfl,rfl,hb,λkd r a b hmn hb=> ?_⟩
  try simp? only[eu]
  refine⟨0,kd,r,ts,a,b,rfl,rfl,hb,hmn,hte,by omega,htn,λh a b hh hb=> ?_⟩
  try simp? only[ze3,List.length_map]
  refine⟨Nat.lt_of_lt_of_le (m:=1000) (by omega) (by decide),sh++ [(us[k],.tup (.str kd::r),h.pv)],_,_,a,b,rfl,by simp[hk],λs hs=> ?_,?_,hb,by simp[yC]⟩
  ·rcases List.mem_append.mp hs with hs | hs
   ·exact hsh s hs
   ·rw[List.mem_singleton.mp hs];exact⟨kd,r,h,rfl,hmn,rfl,hh⟩
  ·rw[vA (List.getElem?_eq_getElem hku),List.map_append,hnm];rfl
 rintro env s ⟨sh,v,w,a,b,rfl,hk,hsh,hnm,hb,rfl⟩;rw[tQ]at hk;have hshn:(sh.map (·.1)).Nodup:=by rw[hnm];exact hun.sublist (List.take_sublist _ _)
 have hsl:1<=sh.length/\sh.length<=6:=by omega
 refine⟨[zC a b],sh.map yC,rfl,by simp,?_⟩;change u8 _ _ _ [some (.lst (ns.map PV.int)),some (.int 0),some p8,some (.bl false),some (.int hands),some (.obj 0),some (.lst (us.map PV.str)),some (.lst (nms.map PV.str)),some (.lst (ts.map PV.str)),some (.lst (sh.map yC)),qY 1 (.lst (sh.map yC)) v,qY 1 (.lst (sh.map yC)) w,none,none,none,none,none] [zC a b];generalize qY 1 (.lst (sh.map yC)) v=v;generalize qY 1 (.lst (sh.map yC)) w=w;refine zB ?_
 try simp? only[true_and]
 refine⟨0,hands,a,b,rfl,rfl,hb,by omega,by omega,λm a b m0 m1 hb=> ?_⟩;obtain⟨m,rfl⟩: ∃n:Nat,m=n:=⟨m.toNat,by omega⟩
 try simp? only[true_and]
 refine zB ?_
 try simp? only[true_and]
 refine⟨⟨by omega,by omega⟩,?_⟩;refine qV (λ_=>some (.tup [.lst (sh.map yC),.lst (sh.map yC)])) (λj x e hx he=> ?_) ?_
 ·obtain⟨y,rfl⟩:=oR he
  try simp? only[true_and]
  exact CP.yes (e':= [_]) hx rfl rfl
 have huse:(u3 0 (1+(m:Int)).toNat).filterMap (λ_=>some (PV.tup [.lst (sh.map yC),.lst (sh.map yC)]))=List.replicate (m+1) (PV.tup [.lst (sh.map yC),.lst (sh.map yC)]):=by
  rw[show(1+(m:Int)).toNat=m+1 by omega];unfold u3;generalize m+1=q;rw[List.filterMap_map]
  induction q with
  | zero=>rfl
  | succ q ih=>rw[List.range_succ,List.filterMap_append,ih,List.replicate_succ'];rfl
 try simp? only[huse]
 refine zB ?_
 try simp? only[zbV,nO]
 have esp:(List.range (1+(m:Int) - 1).toNat).map (λ(i:Nat)=>PV.int (1+(i:Int)))=(v0 m).map yE:=by
  rw[show(1+(m:Int) - 1).toNat=m by omega];unfold v0 yE;rw[List.map_map];refine List.map_congr_left λi _=> ?_;show PV.int (1+(i:Int))=PV.int (((i+1:Nat)):Int)
  congr 1;omega
 rw[esp];obtain⟨U,eU⟩: ∃U,List.replicate (m+1) (PV.tup [.lst (sh.map yC),.lst (sh.map yC)])=U:=⟨_,rfl⟩;rw[List.replicate_succ]at eU;rw[eU];refine⟨⟨by omega,by omega⟩,[(.inr "names",.lst (nms.map PV.str)),(.inr "things",.lst (ts.map PV.str)),(.inr "uses",.lst U),(.inr "spare",.obj 2)],[.lst ((v0 m).map yE)],rfl,by simp,rfl,?_,?_,?_,?_⟩
 ·intro x hx kvs z;subst z;simp at hx
 ·intro q hq z;simp at hq;rcases hq with rfl | rfl | rfl | rfl <;> cases z
 ·show([.inr "names",.inr "things",.inr "uses",.inr "spare",.inr "ends",.inr "rows"]:List z8).Nodup
  decide+kernel
 obtain⟨kv,ekv⟩: ∃kv,n4 1 "ends" "rows" [(.inr "names",.lst (nms.map PV.str)),(.inr "things",.lst (ts.map PV.str)),(.inr "uses",.lst U),(.inr "spare",.obj 2)] 2=kv:=⟨_,rfl⟩;have ekv':kv= [(.inr "names",.lst (nms.map PV.str)),(.inr "things",.lst (ts.map PV.str)),(.inr "uses",.lst U),(.inr "spare",.obj 1),(.inr "ends",.obj 2),(.inr "rows",.obj 3)]:=ekv.symm;have KV:zc3 kv nms ts sh (m+1):=by
  rw[ekv'];refine⟨?_,?_,?_,?_,?_,?_⟩
  ·exact oE
  ·rw[vR (by decide+kernel)];exact oE
  ·rw[vR (by decide+kernel),vR (by decide+kernel),List.replicate_succ,eU];exact oE
  ·rw[vR (by decide+kernel),vR (by decide+kernel),vR (by decide+kernel)];exact oE
  ·rw[vR (by decide+kernel),vR (by decide+kernel),vR (by decide+kernel),vR (by decide+kernel)];exact oE
  ·rw[vR (by decide+kernel),vR (by decide+kernel),vR (by decide+kernel),vR (by decide+kernel),vR (by decide+kernel)];exact oE
 show u8 _ _ _ _ [zC a b,.lst ((v0 m).map yE),.dct [],.dct [],.rcd (n4 1 "ends" "rows" _ 2)];rw[ekv];have eG: [zC a b,.lst ((v0 m).map yE),.dct [],.dct [],.rcd kv]=G (zC a b) kv (zP nms) (v0 m) [] [] []:=rfl;rw[eG];refine zB ?_
 try simp? only[true_and]
 refine⟨ns,_,0,zC a b,kv,nms,ts,sh,m+1,v0 m,[],[],[],rfl,rfl,⟨hl,by decide,by rw[nM];omega,KV,hnn,by omega,hnl,by omega,hsh,λz=>by rw[z]at hsl;simp at hsl,by omega,hte,by omega,zgx m,λx hx=>by have:=lN.mp hx;omega,λz=>by have:=lN.mp z;omega,by simp,by simp,by simp,by rw[nM];simp;omega,by rw[nM];simp;omega⟩,by rw[nM];omega,λsp' ks X E1 rs hd I hrl=> ?_⟩;obtain⟨Y,eY⟩: ∃Y,X++ [((0:Nat),rs)]=Y:=⟨_,rfl⟩;rw[List.nil_append,List.nil_append,eY];have kr:=KV.rows
 try simp? only[true_and]
 refine zB ?_
 try simp? only[true_and]
 refine⟨⟨by omega,by omega⟩,?_⟩;refine qV (λx=>match x with | .int k=>zU (vM (zP nms) Y) (.inl k) | _=>none) (λj x e hx he=> ?_) ?_
 ·obtain⟨hj,rfl⟩:=sR hx
  obtain⟨y,rfl⟩:=oR he;have hin: ∀{Q:K3},xY false (.int (1+(j:Int))) (.obj 3) (G (zC a b) kv (zP nms) sp' E1 Y []) Q=Q (.bl (zU (vM (zP nms) Y) (.inl (1+(j:Int)))).isSome) (G (zC a b) kv (zP nms) sp' E1 Y []):=λ{Q} =>by
   unfold xY vE vU;dsimp only;rw[wW]
   rfl
  try simp? only[wO,kr,wW,wP,hin]
  have ej:(1+(j:Int))=((1+j:Nat):Int):=by omega
  have hval:zU (vM (zP nms) Y) (.inl (1+(j:Int)))=(wK (zP nms) Y (1+j)).map yI:=by rw[ej,jD]
  cases hlk:wK (zP nms) Y (1+j)with
  | none=>
   rw[hlk]at hval;rw[hval]
   try simp? only[true_and]
   exact CP.no (e':= [_]) hx hval rfl
  | some h=>
   rw[hlk]at hval;rw[hval];show if true=true then _ else _
   rw[if_pos rfl];exact⟨rfl,CP.yes (e':= [_]) hx hval rfl⟩
 have eoth:(u3 1 (1+(m:Int) - 1).toNat).filterMap (λx=>match x with | .int k=>zU (vM (zP nms) Y) (.inl k) | _=>none)=((v0 m).filterMap (wK (zP nms) Y)).map yI:=by
  rw[show(1+(m:Int) - 1).toNat=m by omega];unfold u3 v0;rw[List.filterMap_map,List.filterMap_map,List.map_filterMap];refine j5 λi _=> ?_;show zU (vM (zP nms) Y) (.inl (1+(i:Int)))=(wK (zP nms) Y (i+1)).map yI;rw[show(1+(i:Int))=((i+1:Nat):Int) by omega,jD]
 rw[eoth];obtain⟨oth,eo⟩: ∃oth,(v0 m).filterMap (wK (zP nms) Y)=oth:=⟨_,rfl⟩;rw[eo];have ks0: ∀k∈X.map (·.1),k∈v0 m:=λk hk=>I.sub k (List.mem_append_left _ (by rw[<- I.xk];exact hk));have eo2:oth=(v0 m).filterMap (wK (zP nms) X):=by
  rw[<- eo,<- eY];exact j5 λk hk=>zkL (by have:=lN.mp hk;omega)
 have hperm:oth.Perm (X.map (qL (zP nms))):=by
  rw[eo2];exact zeN (by rw[I.xk];exact(List.nodup_append.mp I.nd).1) (zgx m) ks0
 have hXl:X.length<=7:=by
  have:=I.len;rw[nM]at this;have h2:X.length=ks.length:=by rw[<- I.xk,List.length_map]
  omega
 have hol:oth.length<=7:=by rw[hperm.length_eq,List.length_map];exact hXl
 have h0v:zU (vM (zP nms) Y) (.inl 0)=some (yI (zP nms 0,rs)):=by
  rw[show(0:Int)=((0:Nat):Int)from rfl,jD,<- eY];unfold wK;rw[List.find?_append];have hno:(X.find? λp=>p.1==0)=none:=by
   rw[List.find?_eq_none];intro p hp hz;have:=lN.mp (ks0 p.1 (List.mem_map_of_mem hp));have:p.1=0:=by simpa using hz
   omega
  rw[hno];rfl
 refine zB ?_
 try simp? only[List.length_map]
 refine⟨0,_,a,b,rfl,rfl,hb,by omega,by omega,λt a b t0 t1 hb=> ?_⟩;obtain⟨t,rfl⟩: ∃n:Nat,t=n:=⟨t.toNat,by omega⟩;have eG2: ∀{a' b':Int} {z:List Ee},(G (zC a' b') kv (zP nms) sp' z Y []).set 0 (zC a b)=G (zC a b) kv (zP nms) sp' z Y []:=λ{a' b' z} =>rfl;rw[eG2]
 try simp? only[wO,kr,wW,wP,h0v]
 rw[zcY,mM,<- List.map_drop,<- List.map_take,<- List.map_append];have hp2:(oth.drop t++oth.take t).Perm oth:=List.perm_append_comm.trans (by rw[List.take_append_drop]);have hrot:(oth.drop t++oth.take t).length<=7:=by rw[hp2.length_eq];exact hol
 refine⟨rfl,by rw[List.length_map,List.length_map,List.length_drop,List.length_take,sizeLine_eq];omega,by rw[List.length_map,sizeLine_eq];omega,?_⟩;have hsh2:sh.map yC=(sh.map shN).map yH:=by rw[List.map_map];rfl
 rw[hsh2];have hh7:=nM m;refine q (sh.map shN) (zP nms 0,rs) (oth.drop t++oth.take t) (zmK (X:=X) hnn (sp:=v0 m) (λx hx=>by have:=lN.mp hx;omega) (by omega) (by omega) I hrl (by rw[List.map_map];exact hshn) (by rw[List.length_map];omega) (λs hs=> ?_) (λs hs=>by obtain⟨s0,hs0,rfl⟩:=List.mem_map.mp hs;exact⟨_,_,rfl⟩) ?_)
 ·obtain⟨s0,hs0,rfl⟩:=List.mem_map.mp hs
  exact zoj (hsh s0 hs0)
 ·rw[List.map_append]
  refine(List.Perm.cons _ (hp2.trans hperm)).trans ?_;exact(List.perm_append_singleton _ _).symm
theorem zlL {f:Addr}{fd:FuncData}(M:Mo K mg)(F:zV K "_law_splits" "_law_splits" pT f fd):zJ P w K mg base zL 1 f fd ["_law_program_here"] (zG K zgu):=by
 refine x5 0 F lI (λxs st Q h=>by obtain⟨sh,hs,rfl,_⟩:=h;rfl) ⟨_,λcdv A outer s H E hr=>(zA (zT (i:=1) lI.nd rfl (Or.inl rfl) zbi)
   (zA (wM PassesOwn.never rfl (wU (zE (zN hr) (qv 0) z7 (λ_ _=>rfl))) (t6 (n:=2) rfl (xH (yF (i:=2) lI.nd rfl (Or.inl rfl)) (xH (yF (i:=3) lI.nd rfl (Or.inl rfl)) uM))) (zF (wM PassesOwn.never rfl (rB (by rfl) M.range (z3 (xL wD (by rfl) M.len PySem.boot_len (z3 (qv 3) z4)) z4)) (yF (i:=4) lI.nd rfl (Or.inl rfl)) (zF (yL (y7 (yT hr) (zE (zN hr) (zE (zN hr) (qv 3) (qv 4) (λ_ _=>rfl)) z7 (λ_ _=>rfl)) zI (y3 _)) (zF (uO (yV (z3 (qv 2) (z3 (qv 4) z4))) (rA hr (qv 1) (zE (zN hr) (zE (zN hr) (qv 3) (qv 4) (λ_ _=>rfl)) z7 (λ_ _=>rfl))))) yQ)))))
   (zF (yB (qv 1))))),λxs st Q h=> ?_⟩
 obtain⟨sh,hs,rfl,hn,hl,hrl,q⟩:=h;refine zB ?_
 try simp? only[true_and]
 refine zB ?_;unfold xD
 try simp? only[true_and]
 refine wH (λk env s=> ∃v1 v2 v3:Option PV,env= [some (.tup [.tup (sh.map yH),.tup (hs.map yI)]),some (.obj st.length),v1,v2,v3]/\s=st++ [.dct (xZ (yO (hs.take k)))]) ⟨none,none,none,rfl,rfl⟩ ?_ ?_
 ·rintro k x env s hx ⟨v1,v2,v3,rfl,rfl⟩
  obtain⟨h,hh,rfl⟩:=wC hx;obtain⟨L1,eL1⟩:=zc7 hh;have hl2:h.2.length<=1000:=hrl h (List.mem_iff_getElem?.mpr ⟨k,hh⟩);unfold yI yH wQ
  try simp? only[List.length_map]
  refine⟨⟨by omega,by omega⟩,wH (λj env s=> ∃v3:Option PV,env= [some (.tup [.tup (sh.map yH),.tup (hs.map yI)]),some (.obj st.length),some (.str h.1),some (.tup (h.2.map Rh.pv)),v3]/\s=st++ [.dct (xZ (yO (hs.take k)++xT h (h.2.take j)))]) ⟨_,rfl,by simp[xT,spos]⟩ ?_ ?_⟩
  ·rintro j y env s hy ⟨v3,rfl,rfl⟩
   obtain⟨hj,rfl⟩:=sR hy;obtain⟨r,hr⟩: ∃r,h.2[j]?=some r:=⟨_,List.getElem?_eq_getElem (by omega)⟩;obtain⟨L2,eL2⟩:=zc6 hr;have hx:atI (h.2.map Rh.pv) (0+(j:Int))=some r.pv:=by rw[Int.zero_add];exact vT (by rw[List.getElem?_map,hr];rfl)
   obtain⟨k1,x1,more,e1,_⟩:=jW r;have hfk:=j6 (kind:= "split") (.inl ⟨rfl,rfl⟩) r;have hfk':sW "split" r.pv=if k1== "split" then some x1 else none:=by rw[e1];rfl
   rw[hfk']at hfk;have h13:xT h (h.2.take (j+1))=xT h (h.2.take j)++(r.ps j).map λp=>(p.1,(h.1,p.2)):=by rw[vA hr,gC,iC hr]
   rw[e1]at hx
   try simp? only[hx]
   cases hb:(k1==("split" :Str))with
   | false=>
    rw[hb]at hfk;have hm:r.ps j= []:=by
     cases r with
     | split n=>cases hfk
     | _=>rfl
    try simp? only[true_and]
    exact⟨_,rfl,by rw[h13,hm];simp⟩
   | true=>
    rw[hb]at hfk;obtain⟨n,rfl,rfl⟩: ∃n,r= .split n/\x1= .str n:=by
     cases r with
     | split n=>exact⟨n,rfl,Option.some.inj hfk⟩
     | join n=>cases hfk
     | pl r=>cases hfk
    have hnew:(Sum.inr n:z8)∉(xZ (yO (hs.take k)++xT h (h.2.take j))).map (·.1):=by
     intro z;unfold xZ at z;rw[List.map_map]at z;obtain⟨p,hp,e⟩:=List.mem_map.mp z;have e':p.1=n:=Sum.inr.inj e;rw[eL1,eL2,h13]at hn;have hn2:((yO (hs.take k)++xT h (h.2.take j)).map (·.1)++([n]++(L2++L1).map (·.1))).Nodup:=by
      have:((yO (hs.take k)++(xT h (h.2.take j)++((Rh.split n).ps j).map λp=>(p.1,(h.1,p.2)))++L2++L1).map (·.1))=(yO (hs.take k)++xT h (h.2.take j)).map (·.1)++([n]++(L2++L1).map (·.1)):=by simp[Rh.ps]
      rw[<- this];simpa using hn
     exact(List.nodup_append.mp hn2).2.2 n (List.mem_map.mpr ⟨p,hp,e'⟩) n (by simp) rfl
    have hlen:(xZ (yO (hs.take k)++xT h (h.2.take j))).length<=1000:=by
     have:=congrArg List.length eL1;rw[eL2,h13]at this;simp only[List.length_append]at this;unfold xZ;rw[List.length_map,List.length_append];omega
    have hpn:=mX (v:=tR (h.1,j)) hnew
    try simp? only[hx]
    refine⟨Nat.lt_of_le_of_lt hlen (by decide),_,rfl,?_⟩;rw[Int.zero_add,show PV.tup [PV.str h.1,PV.int (j:Int)]=tR (h.1,j)from rfl,hpn,h13];simp[xZ,Rh.ps]
  ·rintro env s ⟨v3,rfl,rfl⟩
   rw[tQ,qK]
   try simp? only[true_and]
   exact⟨_,_,_,rfl,by rw[vA hh,zc8]⟩
 ·rintro env s ⟨v1,v2,v3,rfl,rfl⟩
  rw[List.length_map,qK]
  try simp? only[true_and]
  exact q
theorem zfm {f:Addr}{fd:FuncData}(M:Mo K mg)(F:zV K "_law_order" "_law_order" pQ f fd)(mG:yM K fd ["_law_program_here","_law_kh"] [])(mR:mg "_law_order" =some (.ref f)): ∀d,zJ P w K mg base zL (d+1) f fd ["_law_program_here","_law_kh"] (zG K (i7 d))
 | 0=>⟨λvs H Q E h=>(zgy h).elim,λA outer s H args us vs Q E _ _ _ _ h=>(zgy h).elim⟩
 | d+1=>by
  have IH:zJ P w K mg base zL (d+1) f fd ["_law_program_here","_law_kh"] (zG K (i7 d)):=zfm M F mG mR d;have kA:=F;refine x5 0 F nH (λxs st Q h=>by obtain⟨sh,hs,n,rk,rfl,_⟩:=h;rfl) ⟨_,λcdv A outer s H E hr=>(zA (zT (i:=2) nH.nd rfl (Or.inl rfl) (u0 (z3 (qv 1) z4)))
   (zA (wM PassesOwn.never rfl (wU (zE (zN hr) (qv 0) z7 (λ_ _=>rfl))) (t6 (n:=2) rfl (xH (yF (i:=3) nH.nd rfl (Or.inl rfl)) (xH (yF (i:=4) nH.nd rfl (Or.inl rfl)) uM))) (zF (yL (y7 (yT hr) (qv 3) (qv 1) (y3 _)) (zF (wM PassesOwn.never rfl (wU (qv 4)) (yF (i:=5) nH.nd rfl (Or.inl rfl)) (zF (yL (y7 (yT hr) (zE (zN hr) (qv 5) z7 (λ_ _=>rfl)) zI (y3 _)) (zF (zT (i:=2) nH.nd rfl (Or.inl rfl) (y6 xA (qv 2) (zK IH hr (by rfl) mR kA.kp mG (z3 (qv 0) (z3 (zE (zN hr) (qv 5) z7 (λ_ _=>rfl)) z4)))))) yQ)))) yQ)))
   (zF (yB (qv 2))))),λxs st Q h=> ?_⟩
  obtain⟨sh,hs,n,rk,rfl,hn,hl,hrl,R,hr7,hm,hd,q⟩:=h;obtain⟨h0,h0m,e0⟩:=List.mem_map.mp hm;obtain⟨g,eg⟩: ∃g,wS Rh.sp hs=g:=⟨_,rfl⟩;have eg': ∀h∈hs,g h.1=h.2.filterMap Rh.sp:=λh hh=>by rw[<- eg];exact p7 hn hh
  rw[eg]at R q;have hst:=zaW R hm (show rk n < 8 by have:=hr7 n hm;omega);have hbig:(x6 g 8 n).length<=960800:=Nat.le_trans (zaV R hm) (by rw[<- bd7];exact kR (hr7 _ hm));have big:(960800:Nat) < sizeLine:=by rw[sizeLine_eq];decide
  rw[hst,List.length_cons]at hbig;refine zB ?_
  try simp? only[true_and]
  refine zB ?_;unfold xD
  try simp? only[true_and]
  refine wH (λk env s=> ∃v1 v2 v3:Option PV,env= [some (xD sh hs),some (.str n),some (.lst ((n::uF g n (hs.take k)).map PV.str)),v1,v2,v3]/\s=st) ⟨none,none,none,rfl,rfl⟩ ?_ ?_
  ·rintro k x env s hx ⟨v1,v2,v3,rfl,rfl⟩
   obtain⟨h,hh,rfl⟩:=wC hx;have hhm:h∈hs:=List.mem_iff_getElem?.mpr ⟨k,hh⟩;unfold yI yH wQ
   try simp? only[true_and]
   cases hb:(h.1==n)with
   | false=>
    have hf:uF g n (hs.take (k+1))=uF g n (hs.take k):=by rw[vA hh];unfold uF;rw[List.filter_append,List.filter_cons,hb];simp
    try simp? only[true_and]
    rw[hf];exact⟨_,_,_,rfl⟩
   | true=>
    have hhn:h.1=n:=eq_of_beq hb;have hf0:uF g n (hs.take k)= []:=by
     unfold uF;rw[List.filter_eq_nil_iff.mpr]
     ·rfl
     ·intro h' hm' hz
      have e':h'.1=n:=eq_of_beq hz;obtain⟨i,hi⟩:=List.mem_iff_getElem?.mp hm';have hik:i < k:=by have:=(List.getElem?_eq_some_iff.mp hi).1;rw[List.length_take]at this;omega
      rw[List.getElem?_take_of_lt hik]at hi;have:=(List.getElem?_inj (i:=i) (j:=k) (l:=hs.map (·.1)) (by rw[List.length_map];exact(List.getElem?_eq_some_iff.mp hi).1) hn).mp (by rw[List.getElem?_map,List.getElem?_map,hi,hh,Option.map_some,Option.map_some,e',hhn]);omega
    have hf1:uF g n (hs.take (k+1))=(h.2.filterMap Rh.sp).flatMap (x6 g 8):=by
     have:uF g n (hs.take k++ [h])=uF g n (hs.take k)++(h.2.filterMap Rh.sp).flatMap (x6 g 8):=by
      unfold uF;rw[List.filter_append,List.filter_cons,hb];simp
     rw[vA hh,this,hf0];rfl
    have hgn:g n=h.2.filterMap Rh.sp:=by rw[<- hhn];exact eg' h hhm
    rw[hf0]
    try simp? only[true_and]
    refine wH (λj env s'=> ∃v3:Option PV,env= [some (xD sh hs),some (.str n),some (.lst ((n::((h.2.take j).filterMap Rh.sp).flatMap (x6 g 8)).map PV.str)),some (.str h.1),some (.tup (h.2.map Rh.pv)),v3]/\s'=s) ⟨v3,rfl,rfl⟩ ?_ ?_
    ·rintro j y env s hy ⟨v3,rfl,rfl⟩
     obtain⟨r,hr,rfl⟩:=wC hy;have hfk:=j6 (kind:= "split") (.inl ⟨rfl,rfl⟩) r;obtain⟨k1,x1,more,e1,_⟩:=jW r;have hfk':sW "split" r.pv=if k1== "split" then some x1 else none:=by rw[e1];rfl
     rw[hfk']at hfk;have htk:(h.2.take (j+1)).filterMap Rh.sp=(h.2.take j).filterMap Rh.sp++(Rh.sp r).toList:=by
      rw[vA hr,List.filterMap_append];cases hz:Rh.sp r <;> simp[hz]
     rw[e1]
     try simp? only[true_and]
     cases hb2:(k1==("split" :Str))with
     | false=>
      rw[hb2]at hfk;have hz:Rh.sp r=none:=by cases hz:Rh.sp r with | none=>rfl | some z=>rw[hz]at hfk;cases hfk
      rw[htk,hz]
      try simp? only[true_and]
      exact⟨some (.tup (.str k1::x1::more)),by simp⟩
     | true=>
      rw[hb2]at hfk;obtain⟨m,hz,rfl⟩: ∃m,Rh.sp r=some m/\x1= .str m:=by
       cases hz:Rh.sp r with
       | none=>rw[hz]at hfk;cases hfk
       | some z=>rw[hz]at hfk;exact⟨z,rfl,Option.some.inj hfk⟩
      have hmg:m∈g n:=by rw[hgn];exact List.mem_filterMap.mpr ⟨r,List.mem_iff_getElem?.mpr ⟨j,hr⟩,hz⟩
      have hle:(((h.2.take (j+1)).filterMap Rh.sp).flatMap (x6 g 8)).length<=((g n).flatMap (x6 g 8)).length:=by
       rw[hgn]
       conv=>rhs;rw[<- List.take_append_drop (j+1) h.2,List.filterMap_append,List.flatMap_append,List.length_append]
       omega
      rw[htk,hz]at hle;simp only[Option.toList_some,List.flatMap_append,List.length_append,List.flatMap_cons,List.flatMap_nil,List.append_nil]at hle
      try simp? only[true_and]
      refine⟨sh,hs,m,rk,rfl,hn,hl,hrl,by rw[eg];exact R,hr7,R.sub n hm m hmg,by have:=R.down n hm m hmg;omega,?_⟩;rw[eg]
      try simp? only[List.length_map]
      exact⟨by omega,some (.tup (.str k1:: .str m::more)),by rw[htk,hz];simp⟩
    ·rintro env s ⟨v3,rfl,rfl⟩
     rw[List.length_map,qK,<- hf1]
     try simp? only[true_and]
     exact⟨_,_,_,rfl⟩
  ·rintro env s ⟨v1,v2,v3,rfl,rfl⟩
   rw[List.length_map,qK];have hfin:uF g n hs=(g n).flatMap (x6 g 8):=zey hn h0m e0 (by rw[<- e0];exact eg' h0 h0m);rw[hfin,<- hst]
   try simp? only[true_and]
   exact q
theorem zlF {f:Addr}{fd:FuncData}(M:Mo K mg)(F:zV K "_law_joined" "_law_joined" pM f fd):zJ P w K mg base zL 1 f fd ["_law_program_here","_law_kh"] (zG K zgs):=by
 refine x5 0 F nG (λxs st Q h=>by obtain⟨sh,hs,H,rfl,_⟩:=h;rfl) ⟨_,λcdv A outer s H E hr=>(zA (zT (i:=2) nG.nd rfl (Or.inl rfl) (zno (l0 (qv 1) sP zfG) rfl rfl (by simp) (by decide)))
   (zA (wM PassesOwn.never rfl (wU (zE (zN hr) (qv 0) z7 (λ_ _=>rfl))) (yF (i:=3) nG.nd rfl (Or.inl rfl)) (zF (wM PassesOwn.never rfl (wU (zE (zN hr) (qv 0) z7 (λ_ _=>rfl))) (t6 (n:=2) rfl (xH (yF (i:=4) nG.nd rfl (Or.inl rfl)) (xH (yF (i:=5) nG.nd rfl (Or.inl rfl)) uM))) (zF (wM PassesOwn.never rfl (wU (qv 5)) (yF (i:=6) nG.nd rfl (Or.inl rfl)) (zF (yL (PW.pt (tB (y7 (mU hr) (qv 4) (qv 2) (by rfl)) (tD (y7 (yT hr) (zE (zN hr) (qv 6) z7 (λ_ _=>rfl)) zI (y3 _))))) (zF (uO sP (rA hr (qv 2) (zE (zN hr) (qv 6) z7 (λ_ _=>rfl))))) yQ)))))))
   (zF (yB (qv 2))))),λxs st Q h=> ?_⟩
 obtain⟨sh,hs,H,rfl,hn,hl,hH,hsub,q⟩:=h;obtain⟨g,eg⟩: ∃g,wS Rh.jn hs=g:=⟨_,rfl⟩;have eg': ∀h∈hs,g h.1=h.2.filterMap Rh.jn:=λh hh=>by rw[<- eg];exact p7 hn hh
 rw[eg]at q hsub;have big:(3000:Nat) < sizeLine:=by rw[sizeLine_eq];decide
 have hin: ∀{y:Str} {ms:List Str} {Q:K3},xY false (.str y) (.obj st.length) (st++ [.dct (yW ms)]) Q=Q (.bl (decide (y∈ms))) (st++ [.dct (yW ms)]):=λ{y ms Q} =>by
  unfold xY vE vU;dsimp only;rw[uY];show Q (.bl (zU (yW ms) (.inr y)).isSome) _=_;rw[iE]
 have rcI: ∀{x:Str},x=H∨Rc g H x->x∈hs.map (·.1):=λh=>h.elim (λe=>e▸hH) λh=>h.in_ hsub hH;refine zB ?_
 try simp? only[zgW,nO]
 refine⟨[(.inr H,.bl true)],rfl,by simp,rfl,?_⟩;have e0:jG [] [(Sum.inr H,PV.bl true)]=yW [H]:=rfl
 try simp? only[e0]
 refine zB ?_;unfold xD
 try simp? only[true_and]
 refine wH (λt env s=> ∃(ms:List Str) (v1 v2 v3 v4:Option PV),env= [some (.tup [.tup (sh.map yH),.tup (hs.map yI)]),some (.str H),some (.obj st.length),v1,v2,v3,v4]/\s=st++ [.dct (yW ms)]/\ms.Nodup/\(∀x∈ms,x=H∨Rc g H x)/\H∈ms/\((∀x∈ms,∀y∈g x,y∈ms)∨t+1<=ms.length)) ⟨[H],none,none,none,none,rfl,rfl,by simp,by simp,by simp,.inr (by simp)⟩ ?_ ?_
 ·rintro t x env s hx ⟨ms,v1,v2,v3,v4,rfl,rfl,h3,h4,h5,h6⟩
  obtain⟨ht,hht,rfl⟩:=wC hx
  try simp? only[true_and]
  refine wH (λk env s=> ∃(ex:List Str) (v2 v3 v4:Option PV),env= [some (.tup [.tup (sh.map yH),.tup (hs.map yI)]),some (.str H),some (.obj st.length),some (yI ht),v2,v3,v4]/\s=st++ [.dct (yW (ms++ex))]/\(ms++ex).Nodup/\(∀x∈ms++ex,x=H∨Rc g H x)/\(∀h∈hs.take k,h.1∈ms->∀y∈g h.1,y∈ms++ex)/\((∀x∈ms,∀y∈g x,y∈ms)->ex= [])) ⟨[],v2,v3,v4,rfl,by simp,by simpa using h3,by simpa using h4,by simp,λ_=>rfl⟩ ?_ ?_
  ·rintro k x env s hx ⟨ex,v2,v3,v4,rfl,rfl,k3,k4,k5,k6⟩
   obtain⟨h,hh,rfl⟩:=wC hx;have hhm:h∈hs:=List.mem_iff_getElem?.mpr ⟨k,hh⟩;have ehd:yI h= .tup [.str h.1,.tup (h.2.map Rh.pv)]:=rfl;rw[ehd]
   try simp? only[true_and]
   refine wH (λj env s=> ∃(ex:List Str) (v4:Option PV),env= [some (.tup [.tup (sh.map yH),.tup (hs.map yI)]),some (.str H),some (.obj st.length),some (yI ht),some (.str h.1),some (.tup (h.2.map Rh.pv)),v4]/\s=st++ [.dct (yW (ms++ex))]/\(ms++ex).Nodup/\(∀x∈ms++ex,x=H∨Rc g H x)/\(∀h∈hs.take k,h.1∈ms->∀y∈g h.1,y∈ms++ex)/\(h.1∈ms->∀y∈(h.2.take j).filterMap Rh.jn,y∈ms++ex)/\((∀x∈ms,∀y∈g x,y∈ms)->ex= [])) ⟨ex,v4,rfl,rfl,k3,k4,k5,by simp,k6⟩ ?_ ?_
   ·rintro j y env s hy ⟨ex,v4,rfl,rfl,k3,k4,k5,k7,k6⟩
    obtain⟨r,hr,rfl⟩:=wC hy;have hfk:=j6 (kind:= "join") (.inr ⟨rfl,rfl⟩) r;obtain⟨k1,x1,more,e1,_⟩:=jW r;have hfk':sW "join" r.pv=if k1== "join" then some x1 else none:=by rw[e1];rfl
    rw[hfk']at hfk;have htk:(h.2.take (j+1)).filterMap Rh.jn=(h.2.take j).filterMap Rh.jn++(Rh.jn r).toList:=by
     rw[vA hr,List.filterMap_append];cases hz:Rh.jn r <;> simp[hz]
    have hml:(ms++ex).length<=hs.length:=by
     have:=sZ k3 λx hx=>rcI (k4 x hx)
     rwa [List.length_map]at this
    have htl:(yW (ms++ex)).length=(ms++ex).length:=by unfold yW;rw[List.length_map]
    rw[e1]
    try simp? only[hin]
    by_cases hd:h.1∈ms++ex
    ·have hdd:decide (h.1∈ms++ex)=true:=decide_eq_true hd
     rw[hdd]
     try simp? only[true_and]
     cases hb2:(k1==("join" :Str))with
     | false=>
      rw[hb2]at hfk;have hz:Rh.jn r=none:=by cases hz:Rh.jn r with | none=>rfl | some z=>rw[hz]at hfk;cases hfk
      try simp? only[true_and]
      exact⟨ex,_,rfl,rfl,k3,k4,k5,λhm y hy=>k7 hm y (by rw[htk,hz]at hy;simpa using hy),k6⟩
     | true=>
      rw[hb2]at hfk;obtain⟨m,hz,rfl⟩: ∃m,Rh.jn r=some m/\x1= .str m:=by
       cases hz:Rh.jn r with
       | none=>rw[hz]at hfk;cases hfk
       | some z=>rw[hz]at hfk;exact⟨z,rfl,Option.some.inj hfk⟩
      have hmg:m∈g h.1:=by rw[eg' h hhm];exact List.mem_filterMap.mpr ⟨r,List.mem_iff_getElem?.mpr ⟨j,hr⟩,hz⟩
      have hmr:m=H∨Rc g H m:= .inr ((k4 h.1 hd).elim (λe=> .one (e▸hmg)) λhc=> .more hc hmg)
      try simp? only[htl]
      refine⟨by omega,?_⟩;by_cases hm2:m∈ms++ex
      ·rw[zoH hm2]
       refine⟨ex,_,rfl,rfl,k3,k4,k5,λhm y hy=> ?_,k6⟩;rw[htk,hz]at hy;rcases List.mem_append.mp hy with hy | hy
       ·exact k7 hm y hy
       ·rw[show y=m by simpa using hy];exact hm2
      ·rw[zgN hm2]
       refine⟨ex++ [m],_,rfl,by rw[List.append_assoc],by rw[<- List.append_assoc];exact List.nodup_append.mpr ⟨k3,by simp,λa ha b hb=>by rw[List.mem_singleton.mp hb];exact λz=>hm2 (z▸ha)⟩,λx hx=> ?_,λh' hm' hi y hy=> ?_,λhm y hy=> ?_,λhc=> ?_⟩
       ·rw[<- List.append_assoc]at hx
        rcases List.mem_append.mp hx with hx | hx
        ·exact k4 x hx
        ·rw[List.mem_singleton.mp hx];exact hmr
       ·rw[<- List.append_assoc];exact List.mem_append_left _ (k5 h' hm' hi y hy)
       ·rw[<- List.append_assoc]
        rw[htk,hz]at hy;rcases List.mem_append.mp hy with hy | hy
        ·exact List.mem_append_left _ (k7 hm y hy)
        ·exact List.mem_append_right _ (by simpa using hy)
       ·have e2:=k6 hc
        subst e2;rw[List.append_nil]at hd hm2;exact absurd (hc h.1 hd m hmg) hm2
    ·have hdd:decide (h.1∈ms++ex)=false:=decide_eq_false hd
     rw[hdd]
     try simp? only[true_and]
     exact⟨ex,_,rfl,rfl,k3,k4,k5,λhm=>absurd (List.mem_append_left _ hm) hd,k6⟩
   ·rintro env s ⟨ex,v4,rfl,rfl,k3,k4,k5,k7,k6⟩
    rw[List.length_map,qK]at k7
    try simp? only[true_and]
    refine⟨ex,_,_,_,rfl,rfl,k3,k4,λh' hm' hi=> ?_,k6⟩;rw[vA hh]at hm';rcases List.mem_append.mp hm' with hm' | hm'
    ·exact k5 h' hm' hi
    ·rw[List.mem_singleton.mp hm']at hi⊢
     rw[eg' h hhm];exact k7 hi
  ·rintro env s ⟨ex,v2,v3,v4,rfl,rfl,k3,k4,k5,k6⟩
   rw[List.length_map,qK]at k5;have hcl: ∀x∈ms,∀y∈g x,y∈ms++ex:=λx hx y hy=>by
    obtain⟨h,hm,e⟩:=List.mem_map.mp (rcI (h4 x hx));subst e;exact k5 h hm hx y hy
   try simp? only[true_and]
   refine⟨ms++ex,_,_,_,_,rfl,rfl,k3,k4,List.mem_append_left _ h5,?_⟩;cases ex with
   | nil=>rw[List.append_nil]at hcl⊢;exact .inl hcl
   | cons e ex=>
    rcases h6 with h6 | h6
    ·cases k6 h6
    ·exact .inr (by rw[List.length_append,List.length_cons];omega)
 ·rintro env s ⟨ms,v1,v2,v3,v4,rfl,rfl,h3,h4,h5,h6⟩
  rw[List.length_map]at h6;have hml:=sZ h3 λx hx=>rcI (h4 x hx);rw[List.length_map]at hml;have hcl: ∀x∈ms,∀y∈g x,y∈ms:=h6.resolve_right (by omega)
  try simp? only[true_and]
  refine q ms λn=>⟨h4 n,λh=> ?_⟩;rcases h with rfl | h
  ·exact h5
  ·induction h with
   | one h=>exact hcl H h5 _ h
   | more _ h ih=>exact hcl _ ih _ h
theorem zlC {f:Addr}{fd:FuncData}(M:Mo K mg)(F:zV K "_law_deeds" "_law_deeds" pJ f fd):zJ P w K mg base zL 1 f fd ["_law_rows","_law_ks"] (zG K zgt):=by
 refine x5 0 F lF (λxs st Q h=>by obtain⟨rs,S,rfl,_⟩:=h;rfl) ⟨_,λcdv A outer s H E hr=>(zA (zT (i:=2) lF.nd rfl (Or.inl rfl) (sQ z4))
   (zA (wM PassesOwn.never rfl (rB (by rfl) M.range (z3 (xL wD (by rfl) M.len PySem.boot_len (z3 (qv 0) z4)) z4)) (yF (i:=3) lF.nd rfl (Or.inl rfl)) (zA (zT (i:=4) lF.nd rfl (Or.inl rfl) (zE (zN hr) (qv 0) (qv 3) (λ_ _=>rfl)))
   (zA (yL (y7 (yT hr) (zE (zN hr) (qv 4) z7 (λ_ _=>rfl)) zI (y3 _)) (zF (zT (i:=4) lF.nd rfl (Or.inl rfl) (zE (zN hr) (qv 4) z7 (λ_ _=>rfl)))) yQ)
   (zF (yL (PW.pt (tB (y7 (zaP hr) (zE (zN hr) (qv 4) z7 (λ_ _=>rfl)) (yV (z3 zI (z3 zI (z3 zI z4)))) (by rfl)) (tD (y7 (yT hr) (zE (zN hr) (qv 4) z7 (λ_ _=>rfl)) (qv 1) (y3 _))))) (zF (wZ (wT PySem.F.plainAttrs_list PySem.F.slot_list_append PySem.F.type_list_append (by decide) uC (qv 2) (z3 (qv 3) z4)))) yQ)))))
   (zF (yB (qv 2))))),λxs st Q h=> ?_⟩
 obtain⟨rs,S,rfl,hl,q⟩:=h;have n1:(("split" :Str)==("when" :Str))=false:=by decide+kernel
 have n2:(("join" :Str)==("when" :Str))=false:=by decide+kernel
 refine zB ?_
 try simp? only[true_and]
 refine zB ?_
 try simp? only[List.length_map]
 refine⟨⟨by omega,by omega⟩,?_⟩;refine wH (λk env s=> ∃v1 v2:Option PV,env= [some (.tup (rs.map Rh.pv)),some (.str S),some (.obj st.length),v1,v2]/\s=st++ [.lst ((vD S (rs.take k) 0).map yE)]) ⟨none,none,rfl,rfl⟩ ?_ ?_
 ·rintro k x env s hx ⟨v1,v2,rfl,rfl⟩
  obtain⟨hk,rfl⟩:=sR hx;have hkr:k < rs.length:=by omega
  obtain⟨r,hr⟩: ∃r,rs[k]?=some r:=⟨_,List.getElem?_eq_getElem hkr⟩;have hx:atI (rs.map Rh.pv) (0+(k:Int))=some r.pv:=by rw[Int.zero_add];exact vT (by rw[List.getElem?_map,hr];rfl)
  try simp? only[true_and]
  refine zB ?_
  try simp? only[hx]
  refine tS (λenv s=> ∃w:PV,env= [some (.tup (rs.map Rh.pv)),some (.str S),some (.obj st.length),some (.int (0+(k:Int))),some w]/\((∃d:Dd,w=d.pv/\r.on S=(d.nm==some S))∨(∃n:Str,(w= .tup [.str "split",.str n]∨w= .tup [.str "join",.str n])/\r.on S=false))/\s=st++ [.lst ((vD S (rs.take k) 0).map yE)]) (λN hN=> ?_) ?_
  ·cases r with
   | split n=>
    unfold Rh.pv
    try simp? only[n1]
    exact hN _ _ ⟨_,rfl,.inr ⟨n,.inl rfl,rfl⟩,rfl⟩
   | join n=>
    unfold Rh.pv
    try simp? only[n2]
    exact hN _ _ ⟨_,rfl,.inr ⟨n,.inr rfl,rfl⟩,rfl⟩
   | pl r=>
    obtain⟨g,d⟩:=r;cases g with
    | none=>
     obtain⟨kk,more,e,k1,_⟩:=d.form2;have e2:(Rh.pl (none,d)).pv= .tup (.str kk::more):=e;rw[e2]
     try simp? only[k1]
     exact hN _ _ ⟨_,rfl,.inl ⟨d,e.symm,rfl⟩,rfl⟩
    | some x=>
     have e2:(Rh.pl (some x,d)).pv= .tup [.str "when",u6 x,d.pv]:=rfl;rw[e2]
     try simp? only[beq_self_eq_true]
     exact hN _ _ ⟨_,rfl,.inl ⟨d,rfl,rfl⟩,rfl⟩
  ·rintro env s ⟨w,rfl,hw,rfl⟩
   have hlen:(vD S (rs.take k) 0).length<=1000:=Nat.le_trans zaS (by rw[List.length_take];omega);have hno:r.on S=false->∃v1 v2:Option PV,[some (PV.tup (rs.map Rh.pv)),some (.str S),some (.obj st.length),some (.int (0+(k:Int))),some w]= [some (PV.tup (rs.map Rh.pv)),some (.str S),some (.obj st.length),v1,v2]/\st++ [PO.lst ((vD S (rs.take k) 0).map yE)]=st++ [.lst ((vD S (rs.take (k+1)) 0).map yE)]:=λho=>⟨_,_,rfl,by rw[vA hr,mV,ho];simp⟩;have hyes:r.on S=true->∃v1 v2:Option PV,[some (PV.tup (rs.map Rh.pv)),some (.str S),some (.obj st.length),some (.int (0+(k:Int))),some w]= [some (PV.tup (rs.map Rh.pv)),some (.str S),some (.obj st.length),v1,v2]/\st++ [PO.lst ((vD S (rs.take k) 0).map yE++ [.int (0+(k:Int))])]=st++ [.lst ((vD S (rs.take (k+1)) 0).map yE)]:=λho=>⟨_,_,rfl,by rw[vA hr,mV,ho,iC hr];simp⟩;have fl: [PV.str "split",PV.str "join",PV.str "tell"].all wG=true:=rfl;have inS: ∀x:Str,wI (.str x) [PV.str "split",.str "join",.str "tell"]=decide (x∈(["split","join","tell"]:List Str)):=λx=>mO (w:=x) (ws:= ["split","join","tell"]);rcases hw with⟨d,rfl,ho⟩ | ⟨n,rfl | rfl,ho⟩
   ·cases hd:d.nm with
    | none=>
     rw[hd]at ho;cases d with
     | tell x=>
      have it:wI (.str "tell") [PV.str "split",.str "join",.str "tell"]=true:=by rw[inS];decide+kernel
      unfold Dd.pv at hno⊢
      try simp? only[xY,vE,wG,it,fl]
      exact hno ho
     | bag up a b=>cases hd
     | set a x=>cases hd
     | more a x=>cases hd
     | lay a x b=>cases hd
     | drop a x=>cases hd
    | some s=>
     rw[hd]at ho;obtain⟨kk,more,e,kn,_⟩:=d.form3 hd;have it:wI (.str kk) [PV.str "split",.str "join",.str "tell"]=false:=by rw[inS];exact decide_eq_false kn
     rw[e]at hno hyes⊢
     have e3:r.on S=(s==S):=ho;cases hb:(s==S)with
     | true=>
      try simp? only[xY,vE,wG,it,fl,hb,uY,nK,List.length_map]
      exact⟨Nat.lt_of_le_of_lt hlen (by decide),hyes (e3.trans hb)⟩
     | false=>
      try simp? only[xY,vE,wG,it,fl,hb]
      exact hno (e3.trans hb)
   ·have it:wI (.str "split") [PV.str "split",.str "join",.str "tell"]=true:=by rw[inS];decide+kernel
    try simp? only[xY,vE,wG,it,fl]
    exact hno ho
   ·have it:wI (.str "join") [PV.str "split",.str "join",.str "tell"]=true:=by rw[inS];decide+kernel
    try simp? only[xY,vE,wG,it,fl]
    exact hno ho
 ·rintro env s ⟨v1,v2,rfl,rfl⟩
  rw[tQ,List.take_of_length_le (by omega)]
  try simp? only[true_and]
  exact q
theorem zfn {f:Addr}{fd:FuncData}(M:Mo K mg)(F:zV K "_law_whole" "_law_whole" pX f fd):zJ P w K mg base zL 1 f fd ["_law_found"] (zG K zbG):=by
 refine x5 0 F zoa (λxs st Q h=>by obtain⟨k,rfl,_⟩:=h;rfl) ⟨_,λcdv A outer s H E hr=>(zF (yB (pB (xL oY (by rfl) M.isinstance boot_isinstance (z3 (qv 0) (z3 (n9 (by rfl) M.int qT) z4))) (mY (znr (xL oY (by rfl) M.isinstance boot_isinstance (z3 (qv 0) (z3 (n9 (by rfl) M.bool zi3) z4)))))))),λxs st Q h=> ?_⟩;obtain⟨k,rfl,q⟩:=h
 try simp? only[true_and]
 exact q
theorem zlK {f:Addr}{fd:FuncData}(M:Mo K mg)(F:zV K "_law_split_right" "_law_split_right" pS f fd):zJ P w K mg base zL 2 f fd ["_law_found","_law_due"] (zG K zg3):=by
 obtain⟨zai,zan,nS,gL,zaI⟩:=M._law_whole;have iS:zJ P w K mg base zL 1 zai zan ["_law_found"] (zG K zbG):=zfn M nS;refine x5 0 F znZ (λxs st Q h=>by obtain⟨v,rfl,_⟩:=h;rfl) ⟨_,λcdv A outer s H E hr=>have hr1:zY 1 _:=hr.mono (by decide);(zA (yL (y7 zfe (qv 1) n5 (y3 _)) (zF (yB (uL zfe (qv 0) n5 (y3 _)))) yQ)
   (zF (yB (pB (xL oY (by rfl) M.isinstance boot_isinstance (z3 (qv 0) (z3 (n9 (by rfl) M.tuple sC) z4))) (pB (uL (yT hr) (xL wD (by rfl) M.len PySem.boot_len (z3 (qv 0) z4)) z7 (y3 _)) (pB (uL (yT hr) (qv 0) (qv 1) (y3 _)) (mY (zK iS hr1 (by rfl) zaI nS.kp gL (z3 (zE (zN hr) (qv 0) z7 (λ_ _=>rfl)) z4))))))))),λxs st Q h=> ?_⟩
 obtain⟨v,rfl,hv,q⟩:=h;rcases hv with rfl | ⟨p,rfl⟩
 ·refine zB ?_
  try simp? only[true_and]
  exact q
 ·have heq:zW (tR p) (tR p)=true:=sD _ (by unfold tR;simp[z9,dpts])
  unfold tR at heq⊢
  refine zB ?_
  try simp? only[true_and]
  rw[if_pos (by simp)];exact⟨_,rfl,j3 rfl q⟩
theorem nd8:(["_law_program_here","_law_kh","_law_rows","_law_splits_here","_law_taken","_law_due","_law_found","_law_ks","_law_manner_here","_law_begin_here","_law_turn","_law_other","_law_some"]:List Str).Nodup:=by decide+kernel
theorem nd9:(["_law_program_here","_law_kh","_law_rows","_law_splits_here","_law_taken","_law_due","_law_found","_law_ks","_law_manner_here","_law_begin_here","_law_turn","_law_n"]:List Str).Nodup:=by decide+kernel
theorem zlD {f:Addr}{fd:FuncData}(M:Mo K mg)(F:zV K "_law_hand_right" "_law_hand_right" rE f fd):zJ P w K mg base zL 4 f fd ["_law_program_here","_law_kh","_law_rows","_law_splits_here"] (zG K zgn):=by
 obtain⟨zas,zap,nV,gP,zaL⟩:=M.hand_named;have iV:zJ P w K mg base zL 2 zas zap ["program","H"] (zG K zbD):=zfp M nV;obtain⟨zkc,zjU,zcx,zi8,zlj⟩:=M.split_at;have zhN:zJ P w K mg base zL 1 zkc zjU ["program","H"] (zG K zg0):=zlX M zcx;obtain⟨zjW,zjQ,zcs,zi0,zld⟩:=M.inner_hands;have zhI:zJ P w K mg base zL 2 zjW zjQ ["program","H"] (zG K zgq):=zlS M zcs;obtain⟨zjO,zjM,zcq,ziy,zla⟩:=M.deeds_on;have zhG:zJ P w K mg base zL 3 zjO zjM ["program","H","S"] (zG K zgj):=zlQ M zcq;obtain⟨zju,zjA,zch,zio,zkQ⟩:=M._law_joined;have zh4:zJ P w K mg base zL 1 zju zjA ["_law_program_here","_law_kh"] (zG K zgs):=zlF M zch;obtain⟨zjq,zj7,zcf,zim,zkO⟩:=M._law_deeds;have zh1:zJ P w K mg base zL 1 zjq zj7 ["_law_rows","_law_ks"] (zG K zgt):=zlC M zcf;obtain⟨zai,zan,nS,gL,zaI⟩:=M._law_whole;have iS:zJ P w K mg base zL 1 zai zan ["_law_found"] (zG K zbG):=zfn M nS;obtain⟨zj0,zjG,zcl,zit,zkU⟩:=M._law_split_right;have zh9:zJ P w K mg base zL 2 zj0 zjG ["_law_found","_law_due"] (zG K zg3):=zlK M zcl;refine x5 0 F rH (λxs st Q h=>by obtain⟨sh,hs,h,rfl,_⟩:=h;rfl) ⟨_,λcdv A outer s H E hr=>have hr1:zY 1 _:=hr.mono (by decide);have hr2:zY 2 _:=hr.mono (by decide);have hr3:zY 3 _:=hr.mono (by decide);(zA (yL (PW.pt (q5 (y7 (q0 hr) (zK iV hr2 (by rfl) zaL nV.kp gP (z3 (qv 0) (z3 (qv 1) z4))) (yV (z3 (qv 1) (z3 (qv 2) z4))) (y3 _)) (nB (lA (rD (zK zh9 hr2 (by rfl) zkU zcl.kp zit (z3 (zK zhN hr1 (by rfl) zlj zcx.kp zi8 (z3 (qv 0) (z3 (qv 1) z4))) (z3 (wT PySem.F.plainAttrs_dict PySem.F.slot_dict_get PySem.F.type_dict_get (by decide) (zl1 hr) (qv 3) (z3 (qv 1) z4)) z4)))))))) (zF (yB sP)) yQ)
   (zA (zT (i:=4) rH.nd rfl (Or.inr rfl) (zK zh4 hr1 (by rfl) zkQ zch.kp zio (z3 (qv 0) (z3 (qv 1) z4))))
   (zA (zT (i:=5) rH.nd rfl (Or.inl rfl) (y6 xA (u0 (z3 (qv 1) z4)) (pC (own:= ["_law_other","_law_some"]) (tK (fsc:=zO rE) (N:= ["_law_program_here","_law_kh","_law_rows","_law_splits_here","_law_taken","_law_due","_law_found","_law_ks","_law_manner_here","_law_begin_here","_law_turn"]) (N':= ["_law_program_here","_law_kh","_law_rows","_law_splits_here","_law_taken","_law_due","_law_found","_law_ks","_law_manner_here","_law_begin_here","_law_turn"]) rfl rfl (by decide+kernel)) rfl (wU (zE (zN hr) (qv 0) z7 (λ_ _=>rfl))) (λC s H fp pins=>(t6 (n:=2) rfl (xH (yF (i:=11) nd8 rfl (Or.inl rfl)) (xH (yF (i:=12) nd8 rfl (Or.inl rfl)) uM)))) (λC s H fp pins=>nA (PW.pt (tB (y7 (mU hr) (qv 11) (qv 4) (by rfl)) (tD (y7 (q0 hr) (qv 11) (qv 1) (y3 _)))))) (λC s H fp pins=>(qv 11)))))
   (zA (zT (i:=6) rH.nd rfl (Or.inl rfl) (zK zhI hr2 (by rfl) zld zcs.kp zi0 (z3 (qv 0) (z3 (qv 1) z4))))
   (zA (yL (PW.pt (q5 (lA (rD (xL oY (by rfl) M.isinstance boot_isinstance (z3 (qv 6) (z3 (n9 (by rfl) M.tuple sC) z4))))) (nB (y7 (q0 hr) (vZ (zff rfl) (by rfl) M.list gU (z3 (qv 6) z4)) (qv 5) (y3 _))))) (zF (yB sP)) yQ)
   (zA (wM PassesOwn.never rfl (wU (zE (zN hr) (qv 0) z7 (λ_ _=>rfl))) (t6 (n:=3) rfl (xH (yF (i:=7) rH.nd rfl (Or.inl rfl)) (xH (yF (i:=8) rH.nd rfl (Or.inl rfl)) (xH (yF (i:=9) rH.nd rfl (Or.inl rfl)) uM)))) (zF (wM PassesOwn.never rfl (rB (by rfl) M.range (z3 z7 z4)) (yF (i:=10) rH.nd rfl (Or.inl rfl)) (zA (zT (i:=6) rH.nd rfl (Or.inl rfl) (zK zhG hr3 (by rfl) zla zcq.kp ziy (z3 (qv 0) (z3 (qv 1) (z3 (qv 7) z4)))))
   (zA (yL (PW.pt (q5 (lA (rD (xL zl2 (by rfl) M.isinstance boot_isinstance (z3 (qv 6) (z3 (n9 (by rfl) M.list gU) z4))))) (q5 (y7 (zl4 hr) (qv 6) (zK zh1 hr1 (by rfl) zkO zcf.kp zim (z3 (qv 2) (z3 (qv 7) z4))) (y3 _)) (nB (lA (rD (xL (zl0 rfl) (by rfl) M.all PyProof.Rows.boot_all (z3 (pC (own:= ["_law_n"]) (tK (fsc:=zO rE) (N:= ["_law_program_here","_law_kh","_law_rows","_law_splits_here","_law_taken","_law_due","_law_found","_law_ks","_law_manner_here","_law_begin_here","_law_turn"]) (N':= ["_law_program_here","_law_kh","_law_rows","_law_splits_here","_law_taken","_law_due","_law_found","_law_ks","_law_manner_here","_law_begin_here","_law_turn"]) rfl rfl (by decide+kernel)) rfl (wU (qv 6)) (λC s H fp pins=>(yF (i:=11) nd9 rfl (Or.inl rfl))) (λC s H fp pins=>mZ) (λC s H fp pins=>(zK iS hr1 (by rfl) zaI nS.kp gL (z3 (qv 11) z4)))) z4)))))))) (zF (yB sP)) yQ)
   (zF (wZ (wT PySem.F.plainAttrs_list PySem.F.slot_list_append PySem.F.type_list_append (by decide) uC (qv 6) (z3 z7 z4)))))))))
   (zF (yB sP)))))))),λxs st Q h=> ?_⟩
 obtain⟨sh,hs,h,rfl,P',hh,q⟩:=h;have hhn:h.1∈hs.map (·.1):=List.mem_map_of_mem hh;have h8:=P'.hl;have hrl:=P'.rl h hh;have hdd:=zkj P' hh;have heq:zW (yI h) (yI h)=true:=sD _ (by omega);refine zB ?_
 try simp? only[true_and]
 refine⟨sh,hs,h,rfl,P'.hn,hh,?_⟩
 try simp? only[true_and]
 have ehd:PV.tup [PV.str h.1,PV.tup (h.2.map Rh.pv)]=yI h:=rfl;rw[ehd,if_neg (by rw[heq];decide)];have hdd2:dpts (h.2.map Rh.pv)+1+1 < 1000:=by
  have:=rT (f:=Rh.pv) (m:=40) h.2 λr hr=>P'.rd h hh r hr;omega
 refine⟨⟨by omega,hdd2⟩,sh,hs,h.1,rfl,P'.rd,?_⟩;refine⟨rG (yO hs) h.1,rfl,znY _ _,?_⟩
 try simp? only[true_and]
 refine zB ?_
 try simp? only[true_and]
 refine⟨sh,hs,h.1,rfl,P'.hn,by omega,hhn,P'.jn,λms hms=> ?_⟩
 try simp? only[true_and]
 refine zB ?_;unfold xD
 try simp? only[true_and]
 have hin: ∀{n:Str} {Q:K3} {st:z6},xY false (.str n) (.dct (yW ms)) st Q=Q (.bl (decide (n∈ms))) st:=λ{n Q st} =>by
  unfold xY vE vU;dsimp only;show Q (.bl (zU (yW ms) (.inr n)).isSome) _=_;rw[iE]
 refine qV (oO ms h.1) (λj y e hy he=> ?_) ?_
 ·obtain⟨h',hh',rfl⟩:=wC hy
  obtain⟨y1,y2,rfl⟩: ∃y1 y2,e= [y1,y2]:=by
   match e,he with
   | [p,q'],_=>exact⟨p,q',rfl⟩
  have ehd':yI h'= .tup [.str h'.1,.tup (h'.2.map Rh.pv)]:=rfl;have hf:oO ms h.1 (yI h')=if decide (h'.1∈ms)&& !(h'.1==h.1)then some (.str h'.1)else none:=rfl
  rw[ehd']at hf⊢
  try simp? only[hin]
  cases h1:decide (h'.1∈ms)with
  | false=>
   rw[h1]at hf;rw[if_neg (by decide)];exact CP.no (e':= [_,_]) hy hf rfl
  | true=>
   rw[h1]at hf;rw[if_pos rfl];cases h2:(h'.1==h.1)with
   | false=>
    rw[h2]at hf;rw[if_pos (by decide)];exact CP.yes (e':= [_,_]) hy hf rfl
   | true=>
    rw[h2]at hf;rw[if_neg (by decide)];exact CP.no (e':= [_,_]) hy hf rfl
 rw[jB hs];obtain⟨p,ep⟩: ∃p:Str->Bool,(λn=>decide (n∈ms)&& !(n==h.1))=p:=⟨_,rfl⟩;have hp: ∀n,p n=true↔Rc (wS Rh.jn hs) h.1 n/\n≠h.1:=λn=>by
  rw[<- ep];simp only[Bool.and_eq_true,decide_eq_true_eq,Bool.not_eq_true',beq_eq_false_iff_ne,hms n];constructor
  ·rintro⟨h1 | h1,h2⟩
   ·exact absurd h1 h2
   ·exact⟨h1,h2⟩
  ·rintro⟨h1,h2⟩;exact⟨.inr h1,h2⟩
 rw[ep];obtain⟨W,eW⟩: ∃W,((hs.map (·.1)).filter p).map PV.str=W:=⟨_,rfl⟩;have hWl:W.length<=8:=by
  rw[<- eW,List.length_map];have:=List.length_filter_le p (hs.map (·.1));rw[List.length_map]at this;omega
 have hWd:dpts W<=0:=by
  rw[<- eW];exact rT (f:=PV.str) (m:=0) _ λx _=>by simp[z9]
 rw[eW]
 try simp? only[true_and]
 refine⟨by rw[sizeLine_eq];omega,?_⟩;refine zB ?_
 try simp? only[true_and]
 refine⟨sh,hs,h.1,rfl,P'.hn,by omega,hhn,P'.jn,λp2 hp2=> ?_⟩;have ep2:p2=p:=funext λn=>by rw[Bool.eq_iff_iff,hp2 n,hp n]
 rw[ep2,eW];have heW:zW (.lst (.str h.1::W)) (.lst (.str h.1::W))=true:=sD _ (by simp only[z9,dpts];omega);have heW':eqPs W W=true:=by
  have:=sD (.tup W) (by simp only[z9];omega);rw[show zW (.tup W) (.tup W)=eqPs W W by unfold zW;rfl]at this;exact this
 refine zB ?_
 try simp? only[true_and]
 refine⟨⟨by omega,by omega⟩,?_⟩;rw[if_neg (by rw[heW'];simp)];refine tS (λenv s=> ∃(g:z6) (v6 v7 v8 v9 v10:Option PV),env= [some (PV.tup [PV.tup (sh.map yH),PV.tup (hs.map yI)]),some (.str h.1),some (.tup (h.2.map Rh.pv)),some (.dct (xZ (yO hs))),some (.dct (yW ms)),some (.lst (.str h.1::W)),v6,v7,v8,v9,v10]/\s=st++g) (λN hN=> ?_) ?_
 ·try simp? only[true_and]
  refine wH (λk env s=> ∃(g:z6) (v6 v7 v8 v9 v10:Option PV),env= [some (PV.tup [PV.tup (sh.map yH),PV.tup (hs.map yI)]),some (.str h.1),some (.tup (h.2.map Rh.pv)),some (.dct (xZ (yO hs))),some (.dct (yW ms)),some (.lst (.str h.1::W)),v6,v7,v8,v9,v10]/\s=st++g) ⟨[],_,_,_,_,_,rfl,by simp⟩ ?_ ?_
  ·rintro k x env s hx ⟨g,v6,v7,v8,v9,v10,rfl,rfl⟩
   obtain⟨s0,hs0,rfl⟩:=wC hx;obtain⟨mm,bb,e2⟩:=P'.s2 s0 (List.mem_iff_getElem?.mpr ⟨k,hs0⟩);have en:yH s0= .tup [.str s0.1,mm,bb]:=by unfold yH;rw[e2]
   rw[en]
   try simp? only[true_and]
   refine wH (λj env s=> ∃(g:z6) (v6 v10:Option PV),env= [some (PV.tup [PV.tup (sh.map yH),PV.tup (hs.map yI)]),some (.str h.1),some (.tup (h.2.map Rh.pv)),some (.dct (xZ (yO hs))),some (.dct (yW ms)),some (.lst (.str h.1::W)),v6,some (.str s0.1),some mm,some bb,v10]/\s=st++g) ⟨g,_,_,rfl,rfl⟩ ?_ ?_
   ·rintro j x env s hx ⟨g,v6,v10,rfl,rfl⟩
    obtain⟨hj,rfl⟩:=sR hx
    try simp? only[true_and]
    refine zB ?_
    try simp? only[true_and]
    refine⟨sh,hs,h,s0.1,rfl,P'.hn,hh,by omega,?_⟩;obtain⟨S,eS⟩: ∃S,st++g=S:=⟨_,rfl⟩;obtain⟨l,el⟩: ∃l,(vD s0.1 h.2 0).map yE=l:=⟨_,rfl⟩;have hll:l.length<=30:=by rw[<- el,List.length_map];exact Nat.le_trans zaS hrl
    have hld:dpts l<=0:=by rw[<- el];exact rT (f:=yE) (m:=0) _ λx _=>by simp[z9,yE]
    have hle:zW (.lst l) (.lst l)=true:=sD _ (by simp only[z9];omega);rw[eS,el];have hisi: ∀{Q:K3},jQ [.obj S.length,.ty "list"] (S++ [.lst l]) Q=Q (.bl true) (S++ [.lst l]):=λ{Q} =>by
     unfold jQ wV;dsimp only;rw[uY];simp[yJ,xX,rY]
    have hneq: ∀{Q:K3},Q (.bl false) (S++ [.lst l])->zbm true (.obj S.length) (.lst l) (S++ [.lst l]) Q:=λ{Q} hQ=>by
     unfold zbm wV;dsimp only;rw[uY];refine⟨rfl,rfl,⟨by simp only[z9];omega,by simp only[z9];omega⟩,?_⟩;dsimp only;rw[hle];exact hQ
    try simp? only[true_and]
    refine zB ?_
    try simp? only[hisi]
    refine⟨h.2,s0.1,rfl,by omega,?_⟩;rw[el];refine hneq ?_
    try simp? only[uY]
    refine⟨λi ys env s=> ∃v:Option PV,ys=List.replicate i (.bl true)/\env= [some (PV.tup [PV.tup (sh.map yH),PV.tup (hs.map yI)]),some (.str h.1),some (.tup (h.2.map Rh.pv)),some (.dct (xZ (yO hs))),some (.dct (yW ms)),some (.lst (.str h.1::W)),some (.obj S.length),some (.str s0.1),some mm,some bb,some (.int (0+(j:Int))),v]/\s=S++ [.lst l],⟨none,rfl,rfl,rfl⟩,?_,?_⟩
    ·rintro i x ys env s hx ⟨v,rfl,rfl,rfl⟩
     rw[<- el]at hx;obtain⟨k',_,rfl⟩:=wC hx
     try simp? only[uY]
     refine⟨_,rfl,?_⟩
     try simp? only[true_and]
     exact⟨_,(List.replicate_succ' (n:=i) (a:=PV.bl true)).symm,rfl⟩
    ·rintro ys env s ⟨v,rfl,rfl,rfl⟩
     try simp? only[uY]
     refine⟨List.replicate l.length true,by rw[List.map_replicate];rfl,?_⟩;have e2:(List.replicate l.length true).all id=true:=by simp
     try simp? only[e2,uY,nK]
     exact⟨by rw[sizeLine_eq];omega,g++ [.lst (l++ [.int 0])],_,_,rfl,by rw[<- eS,List.append_assoc]⟩
   ·rintro env s ⟨g,v6,v10,rfl,rfl⟩
    try simp? only[true_and]
    exact⟨g,_,_,_,_,_,rfl,rfl⟩
  ·rintro env s ⟨g,v6,v7,v8,v9,v10,rfl,rfl⟩
   try simp? only[true_and]
   exact hN _ _ ⟨g,_,_,_,_,_,rfl,rfl⟩
 ·rintro env s ⟨g,v6,v7,v8,v9,v10,rfl,rfl⟩
  try simp? only[true_and]
  rw[List.take_append_of_le_length (Nat.le_refl _),List.take_length];exact q
theorem zlU {f:Addr}{fd:FuncData}(M:Mo K mg)(F:zV K "law" "law" rK f fd):zJ P w K mg base zL 23 f fd ["_law_script"] (zG K lM):=by
 obtain⟨zka,zjS,zcv,zi6,zlh⟩:=M.shelf_named;have zhL:zJ P w K mg base zL 2 zka zjS ["program","S"] (zG K zg1):=zlV M zcv;obtain⟨zjV,zjP,zcr,ziz,zlc⟩:=M.in_split_order;have zhH:zJ P w K mg base zL 2 zjV zjP ["program"] (zG K zgr):=zlR M zcr;obtain⟨zjy,zjE,zck,zis,zkT⟩:=M._law_program;have zh8:zJ P w K mg base zL 22 zjy zjE ["_law_script","_law_at","_law_kinds","_law_calm","_law_hands"] (zG K zgz):=zlI M zck;obtain⟨zj1,zjH,zcm,ziu,zkV⟩:=M._law_splits;have zh_:zJ P w K mg base zL 1 zj1 zjH ["_law_program_here"] (zG K zgu):=zlL M zcm;obtain⟨zjx,zjD,kA,mG,mR⟩:=M._law_order;have zh7:zJ P w K mg base zL 9 zjx zjD ["_law_program_here","_law_kh"] (zG K (i7 8)):=zfm M kA mG mR 8;obtain⟨zjs,zj9,zcg,zin,zkP⟩:=M._law_hand_right;have zh3:zJ P w K mg base zL 4 zjs zj9 ["_law_program_here","_law_kh","_law_rows","_law_splits_here"] (zG K zgn):=zlD M zcg;refine x5 0 F o3 (λxs st Q h=>by obtain⟨ns,rfl,_⟩:=h;rfl) ⟨_,λcdv A outer s H E hr=>have hr1:zY 1 _:=hr.mono (by decide);have hr2:zY 2 _:=hr.mono (by decide);have hr4:zY 4 _:=hr.mono (by decide);have hr9:zY 9 _:=hr.mono (by decide);have hr22:zY 22 _:=hr.mono (by decide);(zA (zT (i:=1) o3.nd rfl (Or.inl rfl) (zK zh8 hr22 (by rfl) zkT zck.kp zis (z3 (qv 0) (z3 z7 (z3 (u0 (z3 zI (z3 zI (z3 zI (z3 zI (z3 zI z4)))))) (z3 sP (z3 z7 z4)))))))
   (zA (zT (i:=2) o3.nd rfl (Or.inl rfl) (zK zh_ hr1 (by rfl) zkV zcm.kp ziu (z3 (qv 1) z4)))
   (zA (wM PassesOwn.never rfl (wU (zE (zN hr) (qv 1) z7 (λ_ _=>rfl))) (yF (i:=3) o3.nd rfl (Or.inl rfl)) (zF (yL (y7 (q0 hr) (zK zhL hr2 (by rfl) zlh zcv.kp zi6 (z3 (qv 1) (z3 (zE (zN hr) (qv 3) z7 (λ_ _=>rfl)) z4))) (qv 3) (y3 _)) (zF (yB sP)) yQ)))
   (zA (wM PassesOwn.never rfl (wU (zE (zN hr) (qv 1) z7 (λ_ _=>rfl))) (t6 (n:=2) rfl (xH (yF (i:=4) o3.nd rfl (Or.inl rfl)) (xH (yF (i:=5) o3.nd rfl (Or.inl rfl)) uM))) (zF (yL (lA (rD (zK zh3 hr4 (by rfl) zkP zcg.kp zin (z3 (qv 1) (z3 (qv 4) (z3 (qv 5) (z3 (qv 2) z4))))))) (zF (yB sP)) yQ)))
   (zA (zT (i:=6) o3.nd rfl (Or.inl rfl) (zK zhH hr2 (by rfl) zlc zcr.kp ziz (z3 (qv 1) z4)))
   (zF (yB (pB (xL oY (by rfl) M.isinstance boot_isinstance (z3 (qv 6) (z3 (n9 (by rfl) M.tuple sC) z4))) (mY (uL (yT hr) (vZ (zff rfl) (by rfl) M.list gU (z3 (qv 6) z4)) (zK zh7 hr9 (by rfl) mR kA.kp mG (z3 (qv 1) (z3 (zE (zN hr) (zE (zN hr) (zE (zN hr) (qv 1) z7 (λ_ _=>rfl)) z7 (λ_ _=>rfl)) z7 (λ_ _=>rfl)) z4))) (y3 _))))))))))),λxs st Q h=> ?_⟩
 obtain⟨ns,rfl,rfl,hl,q⟩:=h;have ek:p8= .lst [.str "last",.str "sum",.str "bag",.str "row",.str "told"]:=rfl;refine zB ?_
 try simp? only[true_and]
 refine⟨ns,8,rfl,rfl,hl,by decide,by decide,λsh h0 hs P'=> ?_⟩;obtain⟨all,eall⟩: ∃all,h0::hs=all:=⟨_,rfl⟩;have h0m:h0∈all:=by rw[<- eall];exact List.mem_cons_self ..
 rw[eall]at P'⊢
 have h8:=P'.hl
 try simp? only[true_and]
 refine zB ?_
 try simp? only[true_and]
 refine⟨sh,all,rfl,P'.sn,P'.sl,λh hh=>Nat.le_trans (P'.rl h hh) (by decide),?_⟩
 try simp? only[true_and]
 refine tS (λenv s=> ∃v3:Option PV,env= [some (.lst (ns.map PV.int)),some (xD sh all),some (.dct (xZ (yO all))),v3,none,none,none]/\s= []) (λN hN=> ?_) ?_
 ·unfold xD
  try simp? only[true_and]
  refine wH (λk env s=> ∃v3:Option PV,env= [some (.lst (ns.map PV.int)),some (xD sh all),some (.dct (xZ (yO all))),v3,none,none,none]/\s= []) ⟨none,rfl,rfl⟩ ?_ ?_
  ·rintro k x env s hx ⟨v3,rfl,rfl⟩
   obtain⟨s0,hs0,rfl⟩:=wC hx;have hm:s0∈sh:=List.mem_iff_getElem?.mpr ⟨k,hs0⟩;have hd:=P'.sd s0 hm;have heq:zW (yH s0) (yH s0)=true:=sD _ (by omega);have en:yH s0= .tup (.str s0.1::s0.2):=rfl
   try simp? only[true_and]
   rw[en]
   try simp? only[true_and]
   refine⟨sh,all,s0.1,s0,rfl,P'.shn,hm,rfl,?_⟩;have hd2:dpts s0.2+1 < 1000:=by
    rw[en]at hd;simp only[z9,dpts]at hd;omega
   rw[<- en];show(z9 (yH s0)<=50/\_)/\if(!zW (yH s0) (yH s0))=true then _ else _
   rw[if_neg (by rw[heq];decide)];exact⟨⟨by omega,hd2⟩,_,rfl,rfl⟩
  ·rintro env s ⟨v3,rfl,rfl⟩
   try simp? only[true_and]
   exact hN _ _ ⟨_,rfl,rfl⟩
 ·rintro env s ⟨v3,rfl,rfl⟩
  refine tS (λenv s=> ∃v3 v4 v5:Option PV,env= [some (.lst (ns.map PV.int)),some (xD sh all),some (.dct (xZ (yO all))),v3,v4,v5,none]/\s= []) (λN hN=> ?_) ?_
  ·unfold xD
   try simp? only[true_and]
   refine wH (λk env s=> ∃v4 v5:Option PV,env= [some (.lst (ns.map PV.int)),some (xD sh all),some (.dct (xZ (yO all))),v3,v4,v5,none]/\s= []) ⟨none,none,rfl,rfl⟩ ?_ ?_
   ·rintro k x env s hx ⟨v4,v5,rfl,rfl⟩
    obtain⟨h,hh,rfl⟩:=wC hx;have ehd:yI h= .tup [.str h.1,.tup (h.2.map Rh.pv)]:=rfl;rw[ehd]
    try simp? only[true_and]
    refine⟨sh,all,h,rfl,P',List.mem_iff_getElem?.mpr ⟨k,hh⟩,?_⟩
    try simp? only[true_and]
    exact⟨_,_,rfl⟩
   ·rintro env s ⟨v4,v5,rfl,rfl⟩
    try simp? only[true_and]
    exact hN _ _ ⟨_,_,_,rfl,rfl⟩
  ·rintro env s ⟨v3,v4,v5,rfl,rfl⟩
   obtain⟨rk,R,hr7⟩:=P'.rk;have hn0:h0.1∈all.map (·.1):=List.mem_map_of_mem h0m;refine zB ?_
   try simp? only[true_and]
   refine⟨sh,h0,hs,rk,by rw[eall],by rw[eall];exact P'.hn,by rw[<- eall,List.length_cons]at h8;omega,by rw[eall];exact R,by rw[eall];exact hr7,?_⟩;rw[eall];obtain⟨W,eW⟩: ∃W,(x6 (wS Rh.sp all) 8 h0.1).map PV.str=W:=⟨_,rfl⟩;have hWd:dpts W<=0:=by
    rw[<- eW];exact rT (f:=PV.str) (m:=0) _ λx _=>by simp[z9]
   have heW:zW (.lst W) (.lst W)=true:=sD _ (by simp only[z9];omega);have e00:atI (all.map yI) 0=some (yI h0):=by rw[<- eall];exact vT (j:=0) (xs:=(h0::hs).map yI) rfl
   have ehd:yI h0= .tup [.str h0.1,.tup (h0.2.map Rh.pv)]:=rfl;rw[eW];unfold xD
   try simp? only[e00]
   rw[ehd]
   try simp? only[true_and]
   refine⟨sh,all,h0.1,rk,rfl,P'.hn,by omega,λh hh=>Nat.le_trans (P'.rl h hh) (by decide),R,hr7,hn0,by have:=hr7 _ hn0;omega,?_⟩;rw[eW];show(dpts W<=49/\z9 (.lst W) < 1000)/\Q (.bl (zW (.lst W) (.lst W))) [];rw[heW];exact⟨⟨by omega,by simp only[z9];omega⟩,q _⟩
end
theorem qS {us:List Value}(h:us.length=1): ∃x0,us= [x0]:=by
 rcases us with _ | ⟨x0,_ | ⟨y,us⟩⟩ <;> first | exact⟨x0,rfl⟩ | (simp at h;done)
theorem vN {us:List Value}(h:us.length=2): ∃x0 x1,us= [x0,x1]:=by
 rcases us with _ | ⟨x0,_ | ⟨x1,_ | ⟨y,us⟩⟩⟩ <;> first | exact⟨x0,x1,rfl⟩ | (simp at h;done)
theorem mH {us:List Value}(h:us.length=3): ∃x0 x1 x2,us= [x0,x1,x2]:=by
 rcases us with _ | ⟨x0,_ | ⟨x1,_ | ⟨x2,_ | ⟨y,us⟩⟩⟩⟩ <;> first | exact⟨x0,x1,x2,rfl⟩ | (simp at h;done)
theorem mI {us:List Value}(h:us.length=4): ∃x0 x1 x2 x3,us= [x0,x1,x2,x3]:=by
 rcases us with _ | ⟨x0,_ | ⟨x1,_ | ⟨x2,_ | ⟨x3,_ | ⟨y,us⟩⟩⟩⟩⟩ <;> first | exact⟨x0,x1,x2,x3,rfl⟩ | (simp at h;done)
theorem zi2 {us:List Value}(h:us.length=5): ∃x0 x1 x2 x3 x4,us= [x0,x1,x2,x3,x4]:=by
 rcases us with _ | ⟨x0,_ | ⟨x1,_ | ⟨x2,_ | ⟨x3,_ | ⟨x4,_ | ⟨y,us⟩⟩⟩⟩⟩⟩ <;> first | exact⟨x0,x1,x2,x3,x4,rfl⟩ | (simp at h;done)
theorem all_mk {l:PySem.W.OpenLaw}{w:World}{K:Frag}{h:Heap}{mg:Str->Option Value}{fa f1 f2 f3 f4 f5 f6 f7 f8 f9 f10 f11 f12 f13 f14 f15 f16 f17 f18 f19 f20 f21 f22 f23 f24 f25 f26 f27 f28 f29 f30 f31 f32 f33 f34 f35:Addr}(X:K.In h)(G:h.Ns mainGlobals mg)(hfa:mg "law" =some (.ref fa))
  {od1 an1 od2 an2 od3 an3 od4 an4 od5 an5 od6 an6 od7 an7 od8 an8 od9 an9 od10 an10 od11 an11 od12 an12 od13 an13 od14 an14 od15 an15 od16 an16 od17 an17 od18 an18 od19 an19 od20 an20 od21 an21 od22 an22 od23 an23 od24 an24 od25 an25 od26 an26 od27 an27 od28 an28 od29 an29 od30 an30 od31 an31 od32 an32 od33 an33 od34 an34 od35 an35:Option Addr} {sl1 sl2 sl3 sl4 sl5 sl6 sl7 sl8 sl9 sl10 sl11 sl12 sl13 sl14 sl15 sl16 sl17 sl18 sl19 sl20 sl21 sl22 sl23 sl24 sl25 sl26 sl27 sl28 sl29 sl30 sl31 sl32 sl33 sl34 sl35:Array (Option Value)} {oc1 kV1 dc1 pm1 cd1 ct1 oc2 kV2 dc2 pm2 cd2 ct2 oc3 kV3 dc3 pm3 cd3 ct3 oc4 kV4 dc4 pm4 cd4 ct4 oc5 kV5 dc5 pm5 cd5 ct5 oc6 kV6 dc6 pm6 cd6 ct6 oc7 kV7 dc7 pm7 cd7 ct7 oc8 kV8 dc8 pm8 cd8 ct8 oc9 kV9 dc9 pm9 cd9 ct9 oc10 kV10 dc10 pm10 cd10 ct10 oc11 kV11 dc11 pm11 cd11 ct11 oc12 kV12 dc12 pm12 cd12 ct12 oc13 kV13 dc13 pm13 cd13 ct13 oc14 kV14 dc14 pm14 cd14 ct14 oc15 kV15 dc15 pm15 cd15 ct15 oc16 kV16 dc16 pm16 cd16 ct16 oc17 kV17 dc17 pm17 cd17 ct17 oc18 kV18 dc18 pm18 cd18 ct18 oc19 kV19 dc19 pm19 cd19 ct19 oc20 kV20 dc20 pm20 cd20 ct20 oc21 kV21 dc21 pm21 cd21 ct21 oc22 kV22 dc22 pm22 cd22 ct22 oc23 kV23 dc23 pm23 cd23 ct23 oc24 kV24 dc24 pm24 cd24 ct24 oc25 kV25 dc25 pm25 cd25 ct25 oc26 kV26 dc26 pm26 cd26 ct26 oc27 kV27 dc27 pm27 cd27 ct27 oc28 kV28 dc28 pm28 cd28 ct28 oc29 kV29 dc29 pm29 cd29 ct29 oc30 kV30 dc30 pm30 cd30 ct30 oc31 kV31 dc31 pm31 cd31 ct31 oc32 kV32 dc32 pm32 cd32 ct32 oc33 kV33 dc33 pm33 cd33 ct33 oc34 kV34 dc34 pm34 cd34 ct34 oc35 kV35 dc35 pm35 cd35 ct35:Value}
  (a1:nsIn K mainGlobals "deed_of" =some (some (.ref f1))) (l1:K.lookup f1=some ⟨oc1,od1,.func (fnOf "deed_of" "deed_of" (yP o5) (yN o5) (zO o5) .none kV1 dc1 pm1 an1 cd1 ct1),sl1⟩) (c1:codeIn K cd1 "deed_of" =true) (k1:keepIn K (.ref f1)=true)
  (a2:nsIn K mainGlobals "shelf_of" =some (some (.ref f2))) (l2:K.lookup f2=some ⟨oc2,od2,.func (fnOf "shelf_of" "shelf_of" (yP o9) (yN o9) (zO o9) .none kV2 dc2 pm2 an2 cd2 ct2),sl2⟩) (c2:codeIn K cd2 "shelf_of" =true) (k2:keepIn K (.ref f2)=true)
  (a3:nsIn K mainGlobals "first_called" =some (some (.ref f3))) (l3:K.lookup f3=some ⟨oc3,od3,.func (fnOf "first_called" "first_called" (yP qE) (yN qE) (zO qE) .none kV3 dc3 pm3 an3 cd3 ct3),sl3⟩) (c3:codeIn K cd3 "first_called" =true) (k3:keepIn K (.ref f3)=true)
  (a4:nsIn K mainGlobals "shelf_named" =some (some (.ref f4))) (l4:K.lookup f4=some ⟨oc4,od4,.func (fnOf "shelf_named" "shelf_named" (yP o8) (yN o8) (zO o8) .none kV4 dc4 pm4 an4 cd4 ct4),sl4⟩) (c4:codeIn K cd4 "shelf_named" =true) (k4:keepIn K (.ref f4)=true)
  (a5:nsIn K mainGlobals "hand_named" =some (some (.ref f5))) (l5:K.lookup f5=some ⟨oc5,od5,.func (fnOf "hand_named" "hand_named" (yP o6) (yN o6) (zO o6) .none kV5 dc5 pm5 an5 cd5 ct5),sl5⟩) (c5:codeIn K cd5 "hand_named" =true) (k5:keepIn K (.ref f5)=true)
  (a6:nsIn K mainGlobals "split_at" =some (some (.ref f6))) (l6:K.lookup f6=some ⟨oc6,od6,.func (fnOf "split_at" "split_at" (yP oA) (yN oA) (zO oA) .none kV6 dc6 pm6 an6 cd6 ct6),sl6⟩) (c6:codeIn K cd6 "split_at" =true) (k6:keepIn K (.ref f6)=true)
  (a7:nsIn K mainGlobals "named_by_hands" =some (some (.ref f7))) (l7:K.lookup f7=some ⟨oc7,od7,.func (fnOf "named_by_hands" "named_by_hands" (yP qI) (yN qI) (zO qI) .none kV7 dc7 pm7 an7 cd7 ct7),sl7⟩) (c7:codeIn K cd7 "named_by_hands" =true) (k7:keepIn K (.ref f7)=true)
  (a8:nsIn K mainGlobals "in_split_order" =some (some (.ref f8))) (l8:K.lookup f8=some ⟨oc8,od8,.func (fnOf "in_split_order" "in_split_order" (yP qG) (yN qG) (zO qG) .none kV8 dc8 pm8 an8 cd8 ct8),sl8⟩) (c8:codeIn K cd8 "in_split_order" =true) (k8:keepIn K (.ref f8)=true)
  (a9:nsIn K mainGlobals "come_to" =some (some (.ref f9))) (l9:K.lookup f9=some ⟨oc9,od9,.func (fnOf "come_to" "come_to" (yP o4) (yN o4) (zO o4) .none kV9 dc9 pm9 an9 cd9 ct9),sl9⟩) (c9:codeIn K cd9 "come_to" =true) (k9:keepIn K (.ref f9)=true)
  (a10:nsIn K mainGlobals "inner_hands" =some (some (.ref f10))) (l10:K.lookup f10=some ⟨oc10,od10,.func (fnOf "inner_hands" "inner_hands" (yP qH) (yN qH) (zO qH) .none kV10 dc10 pm10 an10 cd10 ct10),sl10⟩) (c10:codeIn K cd10 "inner_hands" =true) (k10:keepIn K (.ref f10)=true)
  (a11:nsIn K mainGlobals "deeds_on" =some (some (.ref f11))) (l11:K.lookup f11=some ⟨oc11,od11,.func (fnOf "deeds_on" "deeds_on" (yP qC) (yN qC) (zO qC) .none kV11 dc11 pm11 an11 cd11 ct11),sl11⟩) (c11:codeIn K cd11 "deeds_on" =true) (k11:keepIn K (.ref f11)=true)
  (a12:nsIn K mainGlobals "is_deed_on" =some (some (.ref f12))) (l12:K.lookup f12=some ⟨oc12,od12,.func (fnOf "is_deed_on" "is_deed_on" (yP o7) (yN o7) (zO o7) .none kV12 dc12 pm12 an12 cd12 ct12),sl12⟩) (c12:codeIn K cd12 "is_deed_on" =true) (k12:keepIn K (.ref f12)=true)
  (a13:nsIn K mainGlobals "_law_box" =some (some (.ref f13))) (l13:K.lookup f13=some ⟨oc13,od13,.func (fnOf "_law_box" "_law_box" (yP pH) (yN pH) (zO pH) .none kV13 dc13 pm13 an13 cd13 ct13),sl13⟩) (c13:codeIn K cd13 "_law_box" =true) (k13:keepIn K (.ref f13)=true)
  (a14:nsIn K mainGlobals "_law_take" =some (some (.ref f14))) (l14:K.lookup f14=some ⟨oc14,od14,.func (fnOf "_law_take" "_law_take" (yP pU) (yN pU) (zO pU) .none kV14 dc14 pm14 an14 cd14 ct14),sl14⟩) (c14:codeIn K cd14 "_law_take" =true) (k14:keepIn K (.ref f14)=true)
  (a15:nsIn K mainGlobals "_law_words" =some (some (.ref f15))) (l15:K.lookup f15=some ⟨oc15,od15,.func (fnOf "_law_words" "_law_words" (yP qB) (yN qB) (zO qB) .none kV15 dc15 pm15 an15 cd15 ct15),sl15⟩) (c15:codeIn K cd15 "_law_words" =true) (k15:keepIn K (.ref f15)=true)
  (a16:nsIn K mainGlobals "_law_number" =some (some (.ref f16))) (l16:K.lookup f16=some ⟨oc16,od16,.func (fnOf "_law_number" "_law_number" (yP pP) (yN pP) (zO pP) .none kV16 dc16 pm16 an16 cd16 ct16),sl16⟩) (c16:codeIn K cd16 "_law_number" =true) (k16:keepIn K (.ref f16)=true)
  (a17:nsIn K mainGlobals "_law_term" =some (some (.ref f17))) (l17:K.lookup f17=some ⟨oc17,od17,.func (fnOf "_law_term" "_law_term" (yP pV) (yN pV) (zO pV) .none kV17 dc17 pm17 an17 cd17 ct17),sl17⟩) (c17:codeIn K cd17 "_law_term" =true) (k17:keepIn K (.ref f17)=true)
  (a18:nsIn K mainGlobals "_law_any_term" =some (some (.ref f18))) (l18:K.lookup f18=some ⟨oc18,od18,.func (fnOf "_law_any_term" "_law_any_term" (yP pG) (yN pG) (zO pG) .none kV18 dc18 pm18 an18 cd18 ct18),sl18⟩) (c18:codeIn K cd18 "_law_any_term" =true) (k18:keepIn K (.ref f18)=true)
  (a19:nsIn K mainGlobals "_law_manner" =some (some (.ref f19))) (l19:K.lookup f19=some ⟨oc19,od19,.func (fnOf "_law_manner" "_law_manner" (yP pO) (yN pO) (zO pO) .none kV19 dc19 pm19 an19 cd19 ct19),sl19⟩) (c19:codeIn K cd19 "_law_manner" =true) (k19:keepIn K (.ref f19)=true)
  (a20:nsIn K mainGlobals "_law_begin" =some (some (.ref f20))) (l20:K.lookup f20=some ⟨oc20,od20,.func (fnOf "_law_begin" "_law_begin" (yP qA) (yN qA) (zO qA) .none kV20 dc20 pm20 an20 cd20 ct20),sl20⟩) (c20:codeIn K cd20 "_law_begin" =true) (k20:keepIn K (.ref f20)=true)
  (a21:nsIn K mainGlobals "_law_leaves" =some (some (.ref f21))) (l21:K.lookup f21=some ⟨oc21,od21,.func (fnOf "_law_leaves" "_law_leaves" (yP pN) (yN pN) (zO pN) .none kV21 dc21 pm21 an21 cd21 ct21),sl21⟩) (c21:codeIn K cd21 "_law_leaves" =true) (k21:keepIn K (.ref f21)=true)
  (a22:nsIn K mainGlobals "_law_deed" =some (some (.ref f22))) (l22:K.lookup f22=some ⟨oc22,od22,.func (fnOf "_law_deed" "_law_deed" (yP pI) (yN pI) (zO pI) .none kV22 dc22 pm22 an22 cd22 ct22),sl22⟩) (c22:codeIn K cd22 "_law_deed" =true) (k22:keepIn K (.ref f22)=true)
  (a23:nsIn K mainGlobals "_law_row" =some (some (.ref f23))) (l23:K.lookup f23=some ⟨oc23,od23,.func (fnOf "_law_row" "_law_row" (yP pR) (yN pR) (zO pR) .none kV23 dc23 pm23 an23 cd23 ct23),sl23⟩) (c23:codeIn K cd23 "_law_row" =true) (k23:keepIn K (.ref f23)=true)
  (a24:nsIn K mainGlobals "_law_join" =some (some (.ref f24))) (l24:K.lookup f24=some ⟨oc24,od24,.func (fnOf "_law_join" "_law_join" (yP pL) (yN pL) (zO pL) .none kV24 dc24 pm24 an24 cd24 ct24),sl24⟩) (c24:codeIn K cd24 "_law_join" =true) (k24:keepIn K (.ref f24)=true)
  (a25:nsIn K mainGlobals "_law_hand" =some (some (.ref f25))) (l25:K.lookup f25=some ⟨oc25,od25,.func (fnOf "_law_hand" "_law_hand" (yP pK) (yN pK) (zO pK) .none kV25 dc25 pm25 an25 cd25 ct25),sl25⟩) (c25:codeIn K cd25 "_law_hand" =true) (k25:keepIn K (.ref f25)=true)
  (a26:nsIn K mainGlobals "_law_three_words" =some (some (.ref f26))) (l26:K.lookup f26=some ⟨oc26,od26,.func (fnOf "_law_three_words" "_law_three_words" (yP pW) (yN pW) (zO pW) .none kV26 dc26 pm26 an26 cd26 ct26),sl26⟩) (c26:codeIn K cd26 "_law_three_words" =true) (k26:keepIn K (.ref f26)=true)
  (a27:nsIn K mainGlobals "_law_program" =some (some (.ref f27))) (l27:K.lookup f27=some ⟨oc27,od27,.func (fnOf "_law_program" "_law_program" (yP rF) (yN rF) (zO rF) .none kV27 dc27 pm27 an27 cd27 ct27),sl27⟩) (c27:codeIn K cd27 "_law_program" =true) (k27:keepIn K (.ref f27)=true)
  (a28:nsIn K mainGlobals "_law_splits" =some (some (.ref f28))) (l28:K.lookup f28=some ⟨oc28,od28,.func (fnOf "_law_splits" "_law_splits" (yP pT) (yN pT) (zO pT) .none kV28 dc28 pm28 an28 cd28 ct28),sl28⟩) (c28:codeIn K cd28 "_law_splits" =true) (k28:keepIn K (.ref f28)=true)
  (a29:nsIn K mainGlobals "_law_order" =some (some (.ref f29))) (l29:K.lookup f29=some ⟨oc29,od29,.func (fnOf "_law_order" "_law_order" (yP pQ) (yN pQ) (zO pQ) .none kV29 dc29 pm29 an29 cd29 ct29),sl29⟩) (c29:codeIn K cd29 "_law_order" =true) (k29:keepIn K (.ref f29)=true)
  (a30:nsIn K mainGlobals "_law_joined" =some (some (.ref f30))) (l30:K.lookup f30=some ⟨oc30,od30,.func (fnOf "_law_joined" "_law_joined" (yP pM) (yN pM) (zO pM) .none kV30 dc30 pm30 an30 cd30 ct30),sl30⟩) (c30:codeIn K cd30 "_law_joined" =true) (k30:keepIn K (.ref f30)=true)
  (a31:nsIn K mainGlobals "_law_deeds" =some (some (.ref f31))) (l31:K.lookup f31=some ⟨oc31,od31,.func (fnOf "_law_deeds" "_law_deeds" (yP pJ) (yN pJ) (zO pJ) .none kV31 dc31 pm31 an31 cd31 ct31),sl31⟩) (c31:codeIn K cd31 "_law_deeds" =true) (k31:keepIn K (.ref f31)=true)
  (a32:nsIn K mainGlobals "_law_whole" =some (some (.ref f32))) (l32:K.lookup f32=some ⟨oc32,od32,.func (fnOf "_law_whole" "_law_whole" (yP pX) (yN pX) (zO pX) .none kV32 dc32 pm32 an32 cd32 ct32),sl32⟩) (c32:codeIn K cd32 "_law_whole" =true) (k32:keepIn K (.ref f32)=true)
  (a33:nsIn K mainGlobals "_law_split_right" =some (some (.ref f33))) (l33:K.lookup f33=some ⟨oc33,od33,.func (fnOf "_law_split_right" "_law_split_right" (yP pS) (yN pS) (zO pS) .none kV33 dc33 pm33 an33 cd33 ct33),sl33⟩) (c33:codeIn K cd33 "_law_split_right" =true) (k33:keepIn K (.ref f33)=true)
  (a34:nsIn K mainGlobals "_law_hand_right" =some (some (.ref f34))) (l34:K.lookup f34=some ⟨oc34,od34,.func (fnOf "_law_hand_right" "_law_hand_right" (yP rE) (yN rE) (zO rE) .none kV34 dc34 pm34 an34 cd34 ct34),sl34⟩) (c34:codeIn K cd34 "_law_hand_right" =true) (k34:keepIn K (.ref f34)=true)
  (a35:nsIn K mainGlobals "law" =some (some (.ref f35))) (l35:K.lookup f35=some ⟨oc35,od35,.func (fnOf "law" "law" (yP rK) (yN rK) (zO rK) .none kV35 dc35 pm35 an35 cd35 ct35),sl35⟩) (c35:codeIn K cd35 "law" =true) (k35:keepIn K (.ref f35)=true)
  (zn0:nsIn K mainGlobals "len" =some none)
  (zn1:nsIn K mainGlobals "int" =some none)
  (zn2:nsIn K mainGlobals "range" =some none)
  (zn3:nsIn K mainGlobals "tuple" =some none)
  (zn4:nsIn K mainGlobals "isinstance" =some none)
  (zn5:nsIn K mainGlobals "bool" =some none)
  (zn6:nsIn K mainGlobals "str" =some none)
  (zn7:nsIn K mainGlobals "dict" =some none)
  (zn8:nsIn K mainGlobals "list" =some none)
  (zn9:nsIn K mainGlobals "sorted" =some none)
  (zn10:nsIn K mainGlobals "min" =some none)
  (zn11:nsIn K mainGlobals "max" =some none)
  (zn12:nsIn K mainGlobals "all" =some none)
  (zn13:nsIn K mainGlobals "set" =some none)
  (zn14:nsIn K mainGlobals "enumerate" =some none)
  (zn15:nsIn K mainGlobals "reversed" =some none):
  ∃fd:FuncData,(∀(s:Shared) (v:Value),BindsTo s fd ⟨[v],[]⟩ [("_law_script",v)])/\∀base:Heap,K.In base->base.Ns mainGlobals mg->zJ l.prog w K mg base zL 23 fa fd ["_law_script"] (zG K lM):=by
 have e:=hfa.symm.trans (mg_of X G a35);cases e;have F1:=yZ (st:=o5) l1 c1 k1;have F2:=yZ (st:=o9) l2 c2 k2;have F3:=yZ (st:=qE) l3 c3 k3;have F4:=yZ (st:=o8) l4 c4 k4;have F5:=yZ (st:=o6) l5 c5 k5;have F6:=yZ (st:=oA) l6 c6 k6;have F7:=yZ (st:=qI) l7 c7 k7;have F8:=yZ (st:=qG) l8 c8 k8;have F9:=yZ (st:=o4) l9 c9 k9;have F10:=yZ (st:=qH) l10 c10 k10;have F11:=yZ (st:=qC) l11 c11 k11;have F12:=yZ (st:=o7) l12 c12 k12;have F13:=yZ (st:=pH) l13 c13 k13;have F14:=yZ (st:=pU) l14 c14 k14;have F15:=yZ (st:=qB) l15 c15 k15;have F16:=yZ (st:=pP) l16 c16 k16;have F17:=yZ (st:=pV) l17 c17 k17;have F18:=yZ (st:=pG) l18 c18 k18;have F19:=yZ (st:=pO) l19 c19 k19;have F20:=yZ (st:=qA) l20 c20 k20;have F21:=yZ (st:=pN) l21 c21 k21;have F22:=yZ (st:=pI) l22 c22 k22;have F23:=yZ (st:=pR) l23 c23 k23;have F24:=yZ (st:=pL) l24 c24 k24;have F25:=yZ (st:=pK) l25 c25 k25;have F26:=yZ (st:=pW) l26 c26 k26;have F27:=yZ (st:=rF) l27 c27 k27;have F28:=yZ (st:=pT) l28 c28 k28;have F29:=yZ (st:=pQ) l29 c29 k29;have F30:=yZ (st:=pM) l30 c30 k30;have F31:=yZ (st:=pJ) l31 c31 k31;have F32:=yZ (st:=pX) l32 c32 k32;have F33:=yZ (st:=pS) l33 c33 k33;have F34:=yZ (st:=rE) l34 c34 k34;have F35:=yZ (st:=rK) l35 c35 k35;have b1:=F1.binds (ps:= ["row"]) λ_ _ _ _ _ _ us hl=>by obtain⟨x0,rfl⟩:=qS hl;rfl
 have m1:=mg_of X G a1;have b2:=F2.binds (ps:= ["deed"]) λ_ _ _ _ _ _ us hl=>by obtain⟨x0,rfl⟩:=qS hl;rfl
 have m2:=mg_of X G a2;have b3:=F3.binds (ps:= ["tuples","word"]) λ_ _ _ _ _ _ us hl=>by obtain⟨x0,x1,rfl⟩:=vN hl;rfl
 have m3:=mg_of X G a3;have b4:=F4.binds (ps:= ["program","S"]) λ_ _ _ _ _ _ us hl=>by obtain⟨x0,x1,rfl⟩:=vN hl;rfl
 have m4:=mg_of X G a4;have b5:=F5.binds (ps:= ["program","H"]) λ_ _ _ _ _ _ us hl=>by obtain⟨x0,x1,rfl⟩:=vN hl;rfl
 have m5:=mg_of X G a5;have b6:=F6.binds (ps:= ["program","H"]) λ_ _ _ _ _ _ us hl=>by obtain⟨x0,x1,rfl⟩:=vN hl;rfl
 have m6:=mg_of X G a6;have b7:=F7.binds (ps:= ["program","kind"]) λ_ _ _ _ _ _ us hl=>by obtain⟨x0,x1,rfl⟩:=vN hl;rfl
 have m7:=mg_of X G a7;have b8:=F8.binds (ps:= ["program"]) λ_ _ _ _ _ _ us hl=>by obtain⟨x0,rfl⟩:=qS hl;rfl
 have m8:=mg_of X G a8;have b9:=F9.binds (ps:= ["links","one"]) λ_ _ _ _ _ _ us hl=>by obtain⟨x0,x1,rfl⟩:=vN hl;rfl
 have m9:=mg_of X G a9;have b10:=F10.binds (ps:= ["program","H"]) λ_ _ _ _ _ _ us hl=>by obtain⟨x0,x1,rfl⟩:=vN hl;rfl
 have m10:=mg_of X G a10;have b11:=F11.binds (ps:= ["program","H","S"]) λ_ _ _ _ _ _ us hl=>by obtain⟨x0,x1,x2,rfl⟩:=mH hl;rfl
 have m11:=mg_of X G a11;have b12:=F12.binds (ps:= ["row","S"]) λ_ _ _ _ _ _ us hl=>by obtain⟨x0,x1,rfl⟩:=vN hl;rfl
 have m12:=mg_of X G a12;have b13:=F13.binds (ps:= ["_law_script","_law_k"]) λ_ _ _ _ _ _ us hl=>by obtain⟨x0,x1,rfl⟩:=vN hl;rfl
 have m13:=mg_of X G a13;have b14:=F14.binds (ps:= ["_law_box_here","_law_many"]) λ_ _ _ _ _ _ us hl=>by obtain⟨x0,x1,rfl⟩:=vN hl;rfl
 have m14:=mg_of X G a14;have b15:=F15.binds (ps:= ["_law_box_here","_law_many"]) λ_ _ _ _ _ _ us hl=>by obtain⟨x0,x1,rfl⟩:=vN hl;rfl
 have m15:=mg_of X G a15;have b16:=F16.binds (ps:= ["_law_box_here"]) λ_ _ _ _ _ _ us hl=>by obtain⟨x0,rfl⟩:=qS hl;rfl
 have m16:=mg_of X G a16;have b17:=F17.binds (ps:= ["_law_box_here","_law_leaves_here","_law_room","_law_deep"]) λ_ _ _ _ _ _ us hl=>by obtain⟨x0,x1,x2,x3,rfl⟩:=mI hl;rfl
 have m17:=mg_of X G a17;have b18:=F18.binds (ps:= ["_law_box_here","_law_leaves_here"]) λ_ _ _ _ _ _ us hl=>by obtain⟨x0,x1,rfl⟩:=vN hl;rfl
 have m18:=mg_of X G a18;have b19:=F19.binds (ps:= ["_law_box_here","_law_kinds","_law_calm"]) λ_ _ _ _ _ _ us hl=>by obtain⟨x0,x1,x2,rfl⟩:=mH hl;rfl
 have m19:=mg_of X G a19;have b20:=F20.binds (ps:= ["_law_box_here","_law_manner_here","_law_things"]) λ_ _ _ _ _ _ us hl=>by obtain⟨x0,x1,x2,rfl⟩:=mH hl;rfl
 have m20:=mg_of X G a20;have b21:=F21.binds (ps:= ["_law_box_here","_law_shelves","_law_things"]) λ_ _ _ _ _ _ us hl=>by obtain⟨x0,x1,x2,rfl⟩:=mH hl;rfl
 have m21:=mg_of X G a21;have b22:=F22.binds (ps:= ["_law_box_here","_law_shelf","_law_leaves_here","_law_things"]) λ_ _ _ _ _ _ us hl=>by obtain⟨x0,x1,x2,x3,rfl⟩:=mI hl;rfl
 have m22:=mg_of X G a22;have b23:=F23.binds (ps:= ["_law_box_here","_law_uses","_law_things"]) λ_ _ _ _ _ _ us hl=>by obtain⟨x0,x1,x2,rfl⟩:=mH hl;rfl
 have m23:=mg_of X G a23;have b24:=F24.binds (ps:= ["_law_box_here","_law_plan","_law_rows","_law_held"]) λ_ _ _ _ _ _ us hl=>by obtain⟨x0,x1,x2,x3,rfl⟩:=mI hl;rfl
 have m24:=mg_of X G a24;have b25:=F25.binds (ps:= ["_law_script","_law_at","_law_plan","_law_number_here"]) λ_ _ _ _ _ _ us hl=>by obtain⟨x0,x1,x2,x3,rfl⟩:=mI hl;rfl
 have m25:=mg_of X G a25;have b26:=F26.binds (ps:= ["_law_box_here"]) λ_ _ _ _ _ _ us hl=>by obtain⟨x0,rfl⟩:=qS hl;rfl
 have m26:=mg_of X G a26;have b27:=F27.binds (ps:= ["_law_script","_law_at","_law_kinds","_law_calm","_law_hands"]) λ_ _ _ _ _ _ us hl=>by obtain⟨x0,x1,x2,x3,x4,rfl⟩:=zi2 hl;rfl
 have m27:=mg_of X G a27;have b28:=F28.binds (ps:= ["_law_program_here"]) λ_ _ _ _ _ _ us hl=>by obtain⟨x0,rfl⟩:=qS hl;rfl
 have m28:=mg_of X G a28;have b29:=F29.binds (ps:= ["_law_program_here","_law_kh"]) λ_ _ _ _ _ _ us hl=>by obtain⟨x0,x1,rfl⟩:=vN hl;rfl
 have m29:=mg_of X G a29;have b30:=F30.binds (ps:= ["_law_program_here","_law_kh"]) λ_ _ _ _ _ _ us hl=>by obtain⟨x0,x1,rfl⟩:=vN hl;rfl
 have m30:=mg_of X G a30;have b31:=F31.binds (ps:= ["_law_rows","_law_ks"]) λ_ _ _ _ _ _ us hl=>by obtain⟨x0,x1,rfl⟩:=vN hl;rfl
 have m31:=mg_of X G a31;have b32:=F32.binds (ps:= ["_law_found"]) λ_ _ _ _ _ _ us hl=>by obtain⟨x0,rfl⟩:=qS hl;rfl
 have m32:=mg_of X G a32;have b33:=F33.binds (ps:= ["_law_found","_law_due"]) λ_ _ _ _ _ _ us hl=>by obtain⟨x0,x1,rfl⟩:=vN hl;rfl
 have m33:=mg_of X G a33;have b34:=F34.binds (ps:= ["_law_program_here","_law_kh","_law_rows","_law_splits_here"]) λ_ _ _ _ _ _ us hl=>by obtain⟨x0,x1,x2,x3,rfl⟩:=mI hl;rfl
 have m34:=mg_of X G a34;have M:Mo K mg:=⟨mg_none_of X G zn0,mg_none_of X G zn1,mg_none_of X G zn2,mg_none_of X G zn3,mg_none_of X G zn4,mg_none_of X G zn5,mg_none_of X G zn6,mg_none_of X G zn7,mg_none_of X G zn8,mg_none_of X G zn9,mg_none_of X G zn10,mg_none_of X G zn11,mg_none_of X G zn12,mg_none_of X G zn13,mg_none_of X G zn14,mg_none_of X G zn15,⟨_,_,F1,b1,m1⟩,⟨_,_,F2,b2,m2⟩,⟨_,_,F3,b3,m3⟩,⟨_,_,F4,b4,m4⟩,⟨_,_,F5,b5,m5⟩,⟨_,_,F6,b6,m6⟩,⟨_,_,F7,b7,m7⟩,⟨_,_,F8,b8,m8⟩,⟨_,_,F9,b9,m9⟩,⟨_,_,F10,b10,m10⟩,⟨_,_,F11,b11,m11⟩,⟨_,_,F12,b12,m12⟩,⟨_,_,F13,b13,m13⟩,⟨_,_,F14,b14,m14⟩,⟨_,_,F15,b15,m15⟩,⟨_,_,F16,b16,m16⟩,⟨_,_,F17,b17,m17⟩,⟨_,_,F18,b18,m18⟩,⟨_,_,F19,b19,m19⟩,⟨_,_,F20,b20,m20⟩,⟨_,_,F21,b21,m21⟩,⟨_,_,F22,b22,m22⟩,⟨_,_,F23,b23,m23⟩,⟨_,_,F24,b24,m24⟩,⟨_,_,F25,b25,m25⟩,⟨_,_,F26,b26,m26⟩,⟨_,_,F27,b27,m27⟩,⟨_,_,F28,b28,m28⟩,⟨_,_,F29,b29,m29⟩,⟨_,_,F30,b30,m30⟩,⟨_,_,F31,b31,m31⟩,⟨_,_,F32,b32,m32⟩,⟨_,_,F33,b33,m33⟩,⟨_,_,F34,b34,m34⟩⟩;exact⟨fnOf "law" "law" (yP rK) (yN rK) (zO rK) .none kV35 dc35 pm35 an35 cd35 ct35,λs v=> .of_eq rfl,λbase _ _=>zlU M F35⟩
theorem zkE {K:Frag}{H:Hp}{a:Addr}{ns:List Int}(hl:ns.length<=63)(hS:yX K H a (ns.map V.int)){E:XK} :zG K lM [.ref a] H (λv _=>v= .bl true) E:=by
 refine⟨[],[],[.lst (ns.map PV.int)],λr _=>r= .bl true,⟨by simp,rfl,λi a o h=>by cases h⟩,.cons (.val (.lst (hS.imp (λh=>⟨h,by simp⟩) id) ?_ (ze8 ns))) .nil,⟨ns,rfl,rfl,hl,λ_=>rfl⟩,λA' H' st' r v g s e q=> ?_⟩
 ·rw[List.length_map];exact Nat.le_trans hl (by decide)
 ·subst q;exact zcH e
theorem walk {l:PySem.W.OpenLaw}{q:Program}{loose:List Str}{XP:(Str->Option Value)->Heap->Prop}{YP:World->Heap->Prop}{d:DefRec}{K:Params->Frag}(hn:l.most=some 63)(hdf:d.params.defaults= [])
  (hY: ∀(w:World) (h:Heap),YP w h->(K w.params).In h)
  (F: ∀(w:World) (mg:Str->Option Value) (fa:Addr) (h:Heap),(K w.params).In h->h.Ns mainGlobals mg->mg d.name=some (.ref fa)->
   ∃fd:FuncData,(∀(s:Shared) (u:Value),BindsTo s fd ⟨[u],[]⟩ [("_law_script",u)])/\∀base:Heap,(K w.params).In base->base.Ns mainGlobals mg->zJ l.prog w (K w.params) mg base zL 23 fa fd ["_law_script"] (zG (K w.params) lM)):
  PySem.W.WalkO q loose XP YP l.row.toRowW d [] (λf vs=>PySem.call f vs):=
 L2.walk_of (n:=63) (k:=23) (x:= "_law_script") (CX:=λ_=>zL) (sp:=λw=>zG (K w.params) lM) hn (by decide) hdf ⟨rfl,by decide,by decide⟩ hY F (λ_ _ a ns hl _ hS=>zkE hl hS) λ_ _ _ _ _ z=>z
end N16
set_option maxHeartbeats 0
namespace Hd
noncomputable section
open PySem PySem.W L2
abbrev pg:Program:=PySem.Challenge.pw_copiedhouse_k16_lists
def tp (i:Nat):Stmt:=pg.main.body.getD i (.Pass ⟨0,0,0,0⟩)
def en (P:Params)(x:Str)(t:Nat)(v:Value):DictEntry:=⟨PyData.keyHash P x,.str x t,v⟩
def tu (l:List Value):Obj:=⟨.type "tuple",none,.seq l.toArray 0,#[]⟩
def fl (l:List Value):Obj:=⟨.none,none,.fields l.toArray,#[]⟩
def co (l:List Value):Obj:=⟨.type "code",none,.fields l.toArray,#[]⟩
def fn (n q:Str)(s:Stmt)(g:Nat)(cl:List (Str×Addr))(d k dc pm:Value)(an:Option Addr)(cd ct:Value)(b:Nat):FuncData:= {name:=n,qualname:=q,params:=yP s,body:= .stmts (yN s),scope:=zO s,globals:=g,closure:=cl,defaults:=d,kwdefaults:=k,doc:=dc,pyModule:=pm,annotations:=an,code:=cd,closureTuple:=ct,builtins:=b}
def fu (f:FuncData):Obj:=⟨.type "function",none,.func f,#[]⟩
def fp (f:FuncData):Obj:=⟨.none,none,.func f,#[]⟩
def li:Life:= {}
abbrev an:Option Value:=some (.ref 6)
def ev:Env:= {scope:=pg.main.scope,locals:=mainNs,globals:=mainNs,cells:= [],code:= .ref 13,frame:=some 14}
abbrev cE:Code:= .body (behindTheImports pg) ev
abbrev B:List Frame:= [topFrame ⟨0,0,0,0⟩]
abbrev gs:Array GenState:=Array.mk []
def f3 (P:Params):Obj:=⟨.type "dict",none,.dict #[en P "__name__" 165 (.str "law_copiedhouse_k16_lists" 283),en P "__doc__" 166 (.none),en P "__package__" 167 (.none),en P "__loader__" 168 (.builtin "__main__.__loader__#opaque"),en P "__spec__" 169 (.none),en P "__annotations__" 170 (.ref 6),en P "__builtins__" 171 (.ref 4),en P "__file__" 173 (.str "/claim/cut.py" 172),en P "__cached__" 174 (.none),en P "deed_of" 195 (.ref 21),en P "shelf_of" 202 (.ref 28),en P "first_called" 210 (.ref 33),en P "shelf_named" 218 (.ref 40),en P "hand_named" 226 (.ref 47),en P "split_at" 237 (.ref 54),en P "named_by_hands" 243 (.ref 59),en P "in_split_order" 249 (.ref 64),en P "come_to" 261 (.ref 71),en P "inner_hands" 267 (.ref 76),en P "deeds_on" 273 (.ref 81),en P "is_deed_on" 282 (.ref 88),en P "_law_box" 294 (.ref 95),en P "_law_take" 304 (.ref 102),en P "_law_words" 310 (.ref 107),en P "_law_number" 318 (.ref 114),en P "_law_term" 333 (.ref 121),en P "_law_any_term" 342 (.ref 128),en P "_law_manner" 354 (.ref 135),en P "_law_begin" 360 (.ref 140),en P "_law_leaves" 373 (.ref 147),en P "_law_deed" 388 (.ref 154),en P "_law_row" 401 (.ref 161),en P "_law_join" 412 (.ref 168),en P "_law_hand" 429 (.ref 175),en P "_law_three_words" 442 (.ref 182),en P "_law_program" 448 (.ref 187),en P "_law_splits" 459 (.ref 194),en P "_law_order" 471 (.ref 201),en P "_law_joined" 484 (.ref 208),en P "_law_deeds" 495 (.ref 215),en P "_law_whole" 502 (.ref 222),en P "_law_split_right" 510 (.ref 229),en P "_law_hand_right" 516 (.ref 234),en P "law" 529 (.ref 241)] 44,#[]⟩
def f11 (P:Params):Obj:=tu []
def f12 (P:Params):Obj:=fl [.int 2 0,.int 0 0,.ref 20,.int 8 0,.int 0 0,.ref 27,.int 13 0,.int 0 0,.ref 32,.int 15 0,.int 0 0,.ref 39,.int 17 0,.int 0 0,.ref 46,.int 19 0,.int 0 0,.ref 53,.int 25 0,.int 0 0,.ref 58,.int 30 0,.int 0 0,.ref 63,.int 39 0,.int 0 0,.ref 70,.int 49 0,.int 0 0,.ref 75,.int 52 0,.int 0 0,.ref 80,.int 55 0,.int 0 0,.ref 87,.int 59 0,.int 0 0,.ref 94,.int 67 0,.int 0 0,.ref 101,.int 75 0,.int 0 0,.ref 106,.int 92 0,.int 0 0,.ref 113,.int 99 0,.int 0 0,.ref 120,.int 113 0,.int 0 0,.ref 127,.int 116 0,.int 0 0,.ref 134,.int 125 0,.int 0 0,.ref 139,.int 139 0,.int 0 0,.ref 146,.int 147 0,.int 0 0,.ref 153,.int 162 0,.int 0 0,.ref 160,.int 171 0,.int 0 0,.ref 167,.int 175 0,.int 0 0,.ref 174,.int 196 0,.int 0 0,.ref 181,.int 207 0,.int 0 0,.ref 186,.int 222 0,.int 0 0,.ref 193,.int 229 0,.int 0 0,.ref 200,.int 237 0,.int 0 0,.ref 207,.int 245 0,.int 0 0,.ref 214,.int 254 0,.int 0 0,.ref 221,.int 256 0,.int 0 0,.ref 228,.int 260 0,.int 0 0,.ref 233,.int 275 0,.int 0 0,.ref 240]
def f13 (P:Params):Obj:=co [.str "<module>" 182,.str "<module>" 183,.str "/claim/cut.py" 184,.int 1 0,.int 0 0,.int 0 0,.int 0 0,.int 0 0,.ref 11,.bool false,.int 181 0,.ref 12,.none,.none,.none,.none,.int 185 0,.int 1 0,.str "/claim/cut.py" 186]
def f14 (P:Params):Obj:=⟨.type "frame",none,.plain,#[some (.ref 13),some (.ref 3),some (.ref 3),none,some (.str "__main__" 164),none,some (.ref 0)]⟩
def f15 (P:Params):Obj:=tu []
def f16 (P:Params):Obj:=fl []
def f17 (P:Params):Obj:=tu [.str "row" 192]
def f18 (P:Params):Obj:=tu []
def f19 (P:Params):Obj:=fp (fn "deed_of" "deed_of" (tp 1) 0 [] (.none) (.none) (.none) (.none) (none) (.none) (.none) 0)
def f20 (P:Params):Obj:=co [.str "deed_of" 189,.str "deed_of" 190,.str "/claim/cut.py" 191,.int 2 0,.int 1 0,.int 0 0,.int 0 0,.int 3 0,.ref 15,.bool true,.int 181 0,.ref 16,.none,.ref 17,.ref 18,.ref 19,.int 193 0,.int 2 0,.str "/claim/cut.py" 194]
def f21 (P:Params):Obj:=fu (fn "deed_of" "deed_of" (tp 1) 3 [] (.none) (.none) (.none) (.str "copiedhouse.forms" 187) (none) (.ref 20) (.none) 0)
def f22 (P:Params):Obj:=tu []
def f23 (P:Params):Obj:=fl []
def f24 (P:Params):Obj:=tu [.str "deed" 199]
def f25 (P:Params):Obj:=tu []
def f26 (P:Params):Obj:=fp (fn "shelf_of" "shelf_of" (tp 2) 0 [] (.none) (.none) (.none) (.none) (none) (.none) (.none) 0)
def f27 (P:Params):Obj:=co [.str "shelf_of" 196,.str "shelf_of" 197,.str "/claim/cut.py" 198,.int 8 0,.int 1 0,.int 0 0,.int 0 0,.int 3 0,.ref 22,.bool true,.int 181 0,.ref 23,.none,.ref 24,.ref 25,.ref 26,.int 200 0,.int 8 0,.str "/claim/cut.py" 201]
def f28 (P:Params):Obj:=fu (fn "shelf_of" "shelf_of" (tp 2) 3 [] (.none) (.none) (.none) (.str "copiedhouse.forms" 187) (none) (.ref 27) (.none) 0)
def f29 (P:Params):Obj:=tu []
def f30 (P:Params):Obj:=fl []
def f31 (P:Params):Obj:=fp (fn "first_called" "first_called" (tp 4) 0 [] (.none) (.none) (.none) (.none) (none) (.none) (.none) 0)
def f32 (P:Params):Obj:=co [.str "first_called" 205,.str "first_called" 206,.str "/claim/cut.py" 207,.int 13 0,.int 2 0,.int 0 0,.int 0 0,.int 3 0,.ref 29,.bool true,.int 181 0,.ref 30,.none,.none,.none,.ref 31,.int 208 0,.int 13 0,.str "/claim/cut.py" 209]
def f33 (P:Params):Obj:=fu (fn "first_called" "first_called" (tp 4) 3 [] (.none) (.none) (.none) (.str "copiedhouse.lists" 203) (none) (.ref 32) (.none) 0)
def f34 (P:Params):Obj:=tu []
def f35 (P:Params):Obj:=fl []
def bM (P:Params):Obj:=tu [.str "program" 214,.str "S" 215]
def bN (P:Params):Obj:=tu []
def f38 (P:Params):Obj:=fp (fn "shelf_named" "shelf_named" (tp 5) 0 [] (.none) (.none) (.none) (.none) (none) (.none) (.none) 0)
def bO (P:Params):Obj:=co [.str "shelf_named" 211,.str "shelf_named" 212,.str "/claim/cut.py" 213,.int 15 0,.int 2 0,.int 0 0,.int 0 0,.int 3 0,.ref 34,.bool true,.int 181 0,.ref 35,.none,.ref 36,.ref 37,.ref 38,.int 216 0,.int 15 0,.str "/claim/cut.py" 217]
def bP (P:Params):Obj:=fu (fn "shelf_named" "shelf_named" (tp 5) 3 [] (.none) (.none) (.none) (.str "copiedhouse.lists" 203) (none) (.ref 39) (.none) 0)
def bQ (P:Params):Obj:=tu []
def f42 (P:Params):Obj:=fl []
def bR (P:Params):Obj:=tu [.str "program" 222,.str "H" 223]
def bS (P:Params):Obj:=tu []
def f45 (P:Params):Obj:=fp (fn "hand_named" "hand_named" (tp 6) 0 [] (.none) (.none) (.none) (.none) (none) (.none) (.none) 0)
def bT (P:Params):Obj:=co [.str "hand_named" 219,.str "hand_named" 220,.str "/claim/cut.py" 221,.int 17 0,.int 2 0,.int 0 0,.int 0 0,.int 3 0,.ref 41,.bool true,.int 181 0,.ref 42,.none,.ref 43,.ref 44,.ref 45,.int 224 0,.int 17 0,.str "/claim/cut.py" 225]
def bU (P:Params):Obj:=fu (fn "hand_named" "hand_named" (tp 6) 3 [] (.none) (.none) (.none) (.str "copiedhouse.lists" 203) (none) (.ref 46) (.none) 0)
def bV (P:Params):Obj:=tu []
def f49 (P:Params):Obj:=fl []
def bW (P:Params):Obj:=tu [.str "program" 230,.str "H" 231,.str "hand" 232,.str "number" 233,.str "row" 234]
def bX (P:Params):Obj:=tu []
def f52 (P:Params):Obj:=fp (fn "split_at" "split_at" (tp 7) 0 [] (.none) (.none) (.none) (.none) (none) (.none) (.none) 0)
def bY (P:Params):Obj:=co [.str "split_at" 227,.str "split_at" 228,.str "/claim/cut.py" 229,.int 19 0,.int 2 0,.int 0 0,.int 0 0,.int 3 0,.ref 48,.bool true,.int 181 0,.ref 49,.none,.ref 50,.ref 51,.ref 52,.int 235 0,.int 19 0,.str "/claim/cut.py" 236]
def bZ (P:Params):Obj:=fu (fn "split_at" "split_at" (tp 7) 3 [] (.none) (.none) (.none) (.str "copiedhouse.lists" 203) (none) (.ref 53) (.none) 0)
def aA (P:Params):Obj:=tu []
def f56 (P:Params):Obj:=fl []
def f57 (P:Params):Obj:=fp (fn "named_by_hands" "named_by_hands" (tp 8) 0 [] (.none) (.none) (.none) (.none) (none) (.none) (.none) 0)
def aB (P:Params):Obj:=co [.str "named_by_hands" 238,.str "named_by_hands" 239,.str "/claim/cut.py" 240,.int 25 0,.int 2 0,.int 0 0,.int 0 0,.int 3 0,.ref 55,.bool true,.int 181 0,.ref 56,.none,.none,.none,.ref 57,.int 241 0,.int 25 0,.str "/claim/cut.py" 242]
def aC (P:Params):Obj:=fu (fn "named_by_hands" "named_by_hands" (tp 8) 3 [] (.none) (.none) (.none) (.str "copiedhouse.lists" 203) (none) (.ref 58) (.none) 0)
def aD (P:Params):Obj:=tu []
def f61 (P:Params):Obj:=fl []
def f62 (P:Params):Obj:=fp (fn "in_split_order" "in_split_order" (tp 9) 0 [] (.none) (.none) (.none) (.none) (none) (.none) (.none) 0)
def aE (P:Params):Obj:=co [.str "in_split_order" 244,.str "in_split_order" 245,.str "/claim/cut.py" 246,.int 30 0,.int 1 0,.int 0 0,.int 0 0,.int 3 0,.ref 60,.bool true,.int 181 0,.ref 61,.none,.none,.none,.ref 62,.int 247 0,.int 30 0,.str "/claim/cut.py" 248]
def aF (P:Params):Obj:=fu (fn "in_split_order" "in_split_order" (tp 9) 3 [] (.none) (.none) (.none) (.str "copiedhouse.lists" 203) (none) (.ref 63) (.none) 0)
def aG (P:Params):Obj:=tu []
def f66 (P:Params):Obj:=fl []
def aH (P:Params):Obj:=tu [.str "links" 253,.str "one" 254,.str "met" 255,.str "waiting" 256,.str "last" 257,.str "other" 258]
def aI (P:Params):Obj:=tu []
def f69 (P:Params):Obj:=fp (fn "come_to" "come_to" (tp 10) 0 [] (.none) (.none) (.none) (.none) (none) (.none) (.none) 0)
def aJ (P:Params):Obj:=co [.str "come_to" 250,.str "come_to" 251,.str "/claim/cut.py" 252,.int 39 0,.int 2 0,.int 0 0,.int 0 0,.int 3 0,.ref 65,.bool true,.int 181 0,.ref 66,.none,.ref 67,.ref 68,.ref 69,.int 259 0,.int 39 0,.str "/claim/cut.py" 260]
def aK (P:Params):Obj:=fu (fn "come_to" "come_to" (tp 10) 3 [] (.none) (.none) (.none) (.str "copiedhouse.lists" 203) (none) (.ref 70) (.none) 0)
def aL (P:Params):Obj:=tu []
def f73 (P:Params):Obj:=fl []
def f74 (P:Params):Obj:=fp (fn "inner_hands" "inner_hands" (tp 11) 0 [] (.none) (.none) (.none) (.none) (none) (.none) (.none) 0)
def aM (P:Params):Obj:=co [.str "inner_hands" 262,.str "inner_hands" 263,.str "/claim/cut.py" 264,.int 49 0,.int 2 0,.int 0 0,.int 0 0,.int 3 0,.ref 72,.bool true,.int 181 0,.ref 73,.none,.none,.none,.ref 74,.int 265 0,.int 49 0,.str "/claim/cut.py" 266]
def aN (P:Params):Obj:=fu (fn "inner_hands" "inner_hands" (tp 11) 3 [] (.none) (.none) (.none) (.str "copiedhouse.lists" 203) (none) (.ref 75) (.none) 0)
def aO (P:Params):Obj:=tu []
def f78 (P:Params):Obj:=fl []
def f79 (P:Params):Obj:=fp (fn "deeds_on" "deeds_on" (tp 12) 0 [] (.none) (.none) (.none) (.none) (none) (.none) (.none) 0)
def aP (P:Params):Obj:=co [.str "deeds_on" 268,.str "deeds_on" 269,.str "/claim/cut.py" 270,.int 52 0,.int 3 0,.int 0 0,.int 0 0,.int 3 0,.ref 77,.bool true,.int 181 0,.ref 78,.none,.none,.none,.ref 79,.int 271 0,.int 52 0,.str "/claim/cut.py" 272]
def aQ (P:Params):Obj:=fu (fn "deeds_on" "deeds_on" (tp 12) 3 [] (.none) (.none) (.none) (.str "copiedhouse.lists" 203) (none) (.ref 80) (.none) 0)
def aR (P:Params):Obj:=tu []
def f83 (P:Params):Obj:=fl []
def aS (P:Params):Obj:=tu [.str "row" 277,.str "S" 278,.str "deed" 279]
def aT (P:Params):Obj:=tu []
def f86 (P:Params):Obj:=fp (fn "is_deed_on" "is_deed_on" (tp 13) 0 [] (.none) (.none) (.none) (.none) (none) (.none) (.none) 0)
def aU (P:Params):Obj:=co [.str "is_deed_on" 274,.str "is_deed_on" 275,.str "/claim/cut.py" 276,.int 55 0,.int 2 0,.int 0 0,.int 0 0,.int 3 0,.ref 82,.bool true,.int 181 0,.ref 83,.none,.ref 84,.ref 85,.ref 86,.int 280 0,.int 55 0,.str "/claim/cut.py" 281]
def aV (P:Params):Obj:=fu (fn "is_deed_on" "is_deed_on" (tp 13) 3 [] (.none) (.none) (.none) (.str "copiedhouse.lists" 203) (none) (.ref 87) (.none) 0)
def aW (P:Params):Obj:=tu []
def f90 (P:Params):Obj:=fl []
def aX (P:Params):Obj:=tu [.str "_law_script" 288,.str "_law_k" 289,.str "_law_cell" 290,.str "_law_seed" 291]
def aY (P:Params):Obj:=tu []
def f93 (P:Params):Obj:=fp (fn "_law_box" "_law_box" (tp 15) 0 [] (.none) (.none) (.none) (.none) (none) (.none) (.none) 0)
def aZ (P:Params):Obj:=co [.str "_law_box" 285,.str "_law_box" 286,.str "/claim/cut.py" 287,.int 59 0,.int 2 0,.int 0 0,.int 0 0,.int 3 0,.ref 89,.bool true,.int 181 0,.ref 90,.none,.ref 91,.ref 92,.ref 93,.int 292 0,.int 59 0,.str "/claim/cut.py" 293]
def f95 (P:Params):Obj:=fu (fn "_law_box" "_law_box" (tp 15) 3 [] (.none) (.none) (.none) (.str "law_copiedhouse_k16_lists" 283) (none) (.ref 94) (.none) 0)
def f96 (P:Params):Obj:=tu []
def f97 (P:Params):Obj:=fl []
def f98 (P:Params):Obj:=tu [.str "_law_box_here" 298,.str "_law_many" 299,.str "_law_digit" 300,.str "_law_one" 301]
def f99 (P:Params):Obj:=tu []
def zdt (P:Params):Obj:=fp (fn "_law_take" "_law_take" (tp 16) 0 [] (.none) (.none) (.none) (.none) (none) (.none) (.none) 0)
def fI (P:Params):Obj:=co [.str "_law_take" 295,.str "_law_take" 296,.str "/claim/cut.py" 297,.int 67 0,.int 2 0,.int 0 0,.int 0 0,.int 3 0,.ref 96,.bool true,.int 181 0,.ref 97,.none,.ref 98,.ref 99,.ref 100,.int 302 0,.int 67 0,.str "/claim/cut.py" 303]
def fJ (P:Params):Obj:=fu (fn "_law_take" "_law_take" (tp 16) 3 [] (.none) (.none) (.none) (.str "law_copiedhouse_k16_lists" 283) (none) (.ref 101) (.none) 0)
def fK (P:Params):Obj:=tu []
def zdu (P:Params):Obj:=fl []
def zdv (P:Params):Obj:=fp (fn "_law_words" "_law_words" (tp 17) 0 [] (.none) (.none) (.none) (.none) (none) (.none) (.none) 0)
def fL (P:Params):Obj:=co [.str "_law_words" 305,.str "_law_words" 306,.str "/claim/cut.py" 307,.int 75 0,.int 2 0,.int 0 0,.int 0 0,.int 3 0,.ref 103,.bool true,.int 181 0,.ref 104,.none,.none,.none,.ref 105,.int 308 0,.int 75 0,.str "/claim/cut.py" 309]
def fM (P:Params):Obj:=fu (fn "_law_words" "_law_words" (tp 17) 3 [] (.none) (.none) (.none) (.str "law_copiedhouse_k16_lists" 283) (none) (.ref 106) (.none) 0)
def fN (P:Params):Obj:=tu []
def zdw (P:Params):Obj:=fl []
def fO (P:Params):Obj:=tu [.str "_law_box_here" 314,.str "_law_form" 315]
def fP (P:Params):Obj:=tu []
def zdx (P:Params):Obj:=fp (fn "_law_number" "_law_number" (tp 18) 0 [] (.none) (.none) (.none) (.none) (none) (.none) (.none) 0)
def fQ (P:Params):Obj:=co [.str "_law_number" 311,.str "_law_number" 312,.str "/claim/cut.py" 313,.int 92 0,.int 1 0,.int 0 0,.int 0 0,.int 3 0,.ref 108,.bool true,.int 181 0,.ref 109,.none,.ref 110,.ref 111,.ref 112,.int 316 0,.int 92 0,.str "/claim/cut.py" 317]
def fR (P:Params):Obj:=fu (fn "_law_number" "_law_number" (tp 18) 3 [] (.none) (.none) (.none) (.str "law_copiedhouse_k16_lists" 283) (none) (.ref 113) (.none) 0)
def fS (P:Params):Obj:=tu []
def zdy (P:Params):Obj:=fl []
def fT (P:Params):Obj:=tu [.str "_law_box_here" 322,.str "_law_leaves_here" 323,.str "_law_room" 324,.str "_law_deep" 325,.str "_law_form" 326,.str "_law_third" 327,.str "_law_one" 328,.str "_law_other" 329,.str "_law_half" 330]
def fU (P:Params):Obj:=tu []
def zdz (P:Params):Obj:=fp (fn "_law_term" "_law_term" (tp 19) 0 [] (.none) (.none) (.none) (.none) (none) (.none) (.none) 0)
def fV (P:Params):Obj:=co [.str "_law_term" 319,.str "_law_term" 320,.str "/claim/cut.py" 321,.int 99 0,.int 4 0,.int 0 0,.int 0 0,.int 3 0,.ref 115,.bool true,.int 181 0,.ref 116,.none,.ref 117,.ref 118,.ref 119,.int 331 0,.int 99 0,.str "/claim/cut.py" 332]
def fW (P:Params):Obj:=fu (fn "_law_term" "_law_term" (tp 19) 3 [] (.none) (.none) (.none) (.str "law_copiedhouse_k16_lists" 283) (none) (.ref 120) (.none) 0)
def fX (P:Params):Obj:=tu []
def zd0 (P:Params):Obj:=fl []
def fY (P:Params):Obj:=tu [.str "_law_box_here" 337,.str "_law_leaves_here" 338,.str "_law_room" 339]
def fZ (P:Params):Obj:=tu []
def zd1 (P:Params):Obj:=fp (fn "_law_any_term" "_law_any_term" (tp 20) 0 [] (.none) (.none) (.none) (.none) (none) (.none) (.none) 0)
def e7 (P:Params):Obj:=co [.str "_law_any_term" 334,.str "_law_any_term" 335,.str "/claim/cut.py" 336,.int 113 0,.int 2 0,.int 0 0,.int 0 0,.int 3 0,.ref 122,.bool true,.int 181 0,.ref 123,.none,.ref 124,.ref 125,.ref 126,.int 340 0,.int 113 0,.str "/claim/cut.py" 341]
def eE (P:Params):Obj:=fu (fn "_law_any_term" "_law_any_term" (tp 20) 3 [] (.none) (.none) (.none) (.str "law_copiedhouse_k16_lists" 283) (none) (.ref 127) (.none) 0)
def eF (P:Params):Obj:=tu []
def zd2 (P:Params):Obj:=fl []
def eI (P:Params):Obj:=tu [.str "_law_box_here" 346,.str "_law_kinds" 347,.str "_law_calm" 348,.str "_law_word" 349,.str "_law_three" 350,.str "_law_term_here" 351]
def eJ (P:Params):Obj:=tu []
def zd3 (P:Params):Obj:=fp (fn "_law_manner" "_law_manner" (tp 21) 0 [] (.none) (.none) (.none) (.none) (none) (.none) (.none) 0)
def eK (P:Params):Obj:=co [.str "_law_manner" 343,.str "_law_manner" 344,.str "/claim/cut.py" 345,.int 116 0,.int 3 0,.int 0 0,.int 0 0,.int 3 0,.ref 129,.bool true,.int 181 0,.ref 130,.none,.ref 131,.ref 132,.ref 133,.int 352 0,.int 116 0,.str "/claim/cut.py" 353]
def eL (P:Params):Obj:=fu (fn "_law_manner" "_law_manner" (tp 21) 3 [] (.none) (.none) (.none) (.str "law_copiedhouse_k16_lists" 283) (none) (.ref 134) (.none) 0)
def eM (P:Params):Obj:=tu []
def zd4 (P:Params):Obj:=fl []
def zd5 (P:Params):Obj:=fp (fn "_law_begin" "_law_begin" (tp 22) 0 [] (.none) (.none) (.none) (.none) (none) (.none) (.none) 0)
def eN (P:Params):Obj:=co [.str "_law_begin" 355,.str "_law_begin" 356,.str "/claim/cut.py" 357,.int 125 0,.int 3 0,.int 0 0,.int 0 0,.int 3 0,.ref 136,.bool true,.int 181 0,.ref 137,.none,.none,.none,.ref 138,.int 358 0,.int 125 0,.str "/claim/cut.py" 359]
def eO (P:Params):Obj:=fu (fn "_law_begin" "_law_begin" (tp 22) 3 [] (.none) (.none) (.none) (.str "law_copiedhouse_k16_lists" 283) (none) (.ref 139) (.none) 0)
def eP (P:Params):Obj:=tu []
def zd6 (P:Params):Obj:=fl []
def eQ (P:Params):Obj:=tu [.str "_law_box_here" 364,.str "_law_shelves" 365,.str "_law_things" 366,.str "_law_found" 367,.str "_law_ks" 368,.str "_law_manner_here" 369,.str "_law_begin_here" 370]
def eR (P:Params):Obj:=tu []
def zd7 (P:Params):Obj:=fp (fn "_law_leaves" "_law_leaves" (tp 23) 0 [] (.none) (.none) (.none) (.none) (none) (.none) (.none) 0)
def eV (P:Params):Obj:=co [.str "_law_leaves" 361,.str "_law_leaves" 362,.str "/claim/cut.py" 363,.int 139 0,.int 3 0,.int 0 0,.int 0 0,.int 3 0,.ref 141,.bool true,.int 181 0,.ref 142,.none,.ref 143,.ref 144,.ref 145,.int 371 0,.int 139 0,.str "/claim/cut.py" 372]
def eZ (P:Params):Obj:=fu (fn "_law_leaves" "_law_leaves" (tp 23) 3 [] (.none) (.none) (.none) (.str "law_copiedhouse_k16_lists" 283) (none) (.ref 146) (.none) 0)
def d4 (P:Params):Obj:=tu []
def zd8 (P:Params):Obj:=fl []
def d5 (P:Params):Obj:=tu [.str "_law_box_here" 377,.str "_law_shelf" 378,.str "_law_leaves_here" 379,.str "_law_things" 380,.str "_law_ks" 381,.str "_law_manner_here" 382,.str "_law_begin_here" 383,.str "_law_word" 384,.str "_law_term_here" 385]
def d6 (P:Params):Obj:=tu []
def zd9 (P:Params):Obj:=fp (fn "_law_deed" "_law_deed" (tp 24) 0 [] (.none) (.none) (.none) (.none) (none) (.none) (.none) 0)
def d7 (P:Params):Obj:=co [.str "_law_deed" 374,.str "_law_deed" 375,.str "/claim/cut.py" 376,.int 147 0,.int 4 0,.int 0 0,.int 0 0,.int 3 0,.ref 148,.bool true,.int 181 0,.ref 149,.none,.ref 150,.ref 151,.ref 152,.int 386 0,.int 147 0,.str "/claim/cut.py" 387]
def d8 (P:Params):Obj:=fu (fn "_law_deed" "_law_deed" (tp 24) 3 [] (.none) (.none) (.none) (.str "law_copiedhouse_k16_lists" 283) (none) (.ref 153) (.none) 0)
def d9 (P:Params):Obj:=tu []
def zd_ (P:Params):Obj:=fl []
def dA (P:Params):Obj:=tu [.str "_law_box_here" 392,.str "_law_uses" 393,.str "_law_things" 394,.str "_law_own" 395,.str "_law_asked" 396,.str "_law_leaves_here" 397,.str "_law_row_here" 398]
def dB (P:Params):Obj:=tu []
def zdA (P:Params):Obj:=fp (fn "_law_row" "_law_row" (tp 25) 0 [] (.none) (.none) (.none) (.none) (none) (.none) (.none) 0)
def dC (P:Params):Obj:=co [.str "_law_row" 389,.str "_law_row" 390,.str "/claim/cut.py" 391,.int 162 0,.int 3 0,.int 0 0,.int 0 0,.int 3 0,.ref 155,.bool true,.int 181 0,.ref 156,.none,.ref 157,.ref 158,.ref 159,.int 399 0,.int 162 0,.str "/claim/cut.py" 400]
def dD (P:Params):Obj:=fu (fn "_law_row" "_law_row" (tp 25) 3 [] (.none) (.none) (.none) (.str "law_copiedhouse_k16_lists" 283) (none) (.ref 160) (.none) 0)
def dE (P:Params):Obj:=tu []
def zdB (P:Params):Obj:=fl []
def dF (P:Params):Obj:=tu [.str "_law_box_here" 405,.str "_law_plan" 406,.str "_law_rows" 407,.str "_law_held" 408,.str "_law_other" 409]
def dG (P:Params):Obj:=tu []
def zdC (P:Params):Obj:=fp (fn "_law_join" "_law_join" (tp 26) 0 [] (.none) (.none) (.none) (.none) (none) (.none) (.none) 0)
def dH (P:Params):Obj:=co [.str "_law_join" 402,.str "_law_join" 403,.str "/claim/cut.py" 404,.int 171 0,.int 4 0,.int 0 0,.int 0 0,.int 3 0,.ref 162,.bool true,.int 181 0,.ref 163,.none,.ref 164,.ref 165,.ref 166,.int 410 0,.int 171 0,.str "/claim/cut.py" 411]
def dI (P:Params):Obj:=fu (fn "_law_join" "_law_join" (tp 26) 3 [] (.none) (.none) (.none) (.str "law_copiedhouse_k16_lists" 283) (none) (.ref 167) (.none) 0)
def dJ (P:Params):Obj:=tu []
def zdD (P:Params):Obj:=fl []
def dL (P:Params):Obj:=tu [.str "_law_script" 416,.str "_law_at" 417,.str "_law_plan" 418,.str "_law_number_here" 419,.str "_law_box_here" 420,.str "_law_uses" 421,.str "_law_rows" 422,.str "_law_held" 423,.str "_law_k" 424,.str "_law_kind" 425,.str "_law_other" 426]
def dM (P:Params):Obj:=tu []
def zdE (P:Params):Obj:=fp (fn "_law_hand" "_law_hand" (tp 27) 0 [] (.none) (.none) (.none) (.none) (none) (.none) (.none) 0)
def dN (P:Params):Obj:=co [.str "_law_hand" 413,.str "_law_hand" 414,.str "/claim/cut.py" 415,.int 175 0,.int 4 0,.int 0 0,.int 0 0,.int 3 0,.ref 169,.bool true,.int 181 0,.ref 170,.none,.ref 171,.ref 172,.ref 173,.int 427 0,.int 175 0,.str "/claim/cut.py" 428]
def dO (P:Params):Obj:=fu (fn "_law_hand" "_law_hand" (tp 27) 3 [] (.none) (.none) (.none) (.str "law_copiedhouse_k16_lists" 283) (none) (.ref 174) (.none) 0)
def dP (P:Params):Obj:=tu []
def zdF (P:Params):Obj:=fl []
def dQ (P:Params):Obj:=tu [.str "_law_box_here" 433,.str "_law_form" 434,.str "_law_some" 435,.str "_law_x" 436,.str "_law_y" 437,.str "_law_z" 438,.str "_law_at" 439]
def dR (P:Params):Obj:=tu []
def zdG (P:Params):Obj:=fp (fn "_law_three_words" "_law_three_words" (tp 28) 0 [] (.none) (.none) (.none) (.none) (none) (.none) (.none) 0)
def dS (P:Params):Obj:=co [.str "_law_three_words" 430,.str "_law_three_words" 431,.str "/claim/cut.py" 432,.int 196 0,.int 1 0,.int 0 0,.int 0 0,.int 3 0,.ref 176,.bool true,.int 181 0,.ref 177,.none,.ref 178,.ref 179,.ref 180,.int 440 0,.int 196 0,.str "/claim/cut.py" 441]
def dU (P:Params):Obj:=fu (fn "_law_three_words" "_law_three_words" (tp 28) 3 [] (.none) (.none) (.none) (.str "law_copiedhouse_k16_lists" 283) (none) (.ref 181) (.none) 0)
def dW (P:Params):Obj:=tu []
def zdH (P:Params):Obj:=fl []
def zdI (P:Params):Obj:=fp (fn "_law_program" "_law_program" (tp 29) 0 [] (.none) (.none) (.none) (.none) (none) (.none) (.none) 0)
def dX (P:Params):Obj:=co [.str "_law_program" 443,.str "_law_program" 444,.str "/claim/cut.py" 445,.int 207 0,.int 5 0,.int 0 0,.int 0 0,.int 3 0,.ref 183,.bool true,.int 181 0,.ref 184,.none,.none,.none,.ref 185,.int 446 0,.int 207 0,.str "/claim/cut.py" 447]
def dY (P:Params):Obj:=fu (fn "_law_program" "_law_program" (tp 29) 3 [] (.none) (.none) (.none) (.str "law_copiedhouse_k16_lists" 283) (none) (.ref 186) (.none) 0)
def dZ (P:Params):Obj:=tu []
def zdJ (P:Params):Obj:=fl []
def c0 (P:Params):Obj:=tu [.str "_law_program_here" 452,.str "_law_found" 453,.str "_law_kh" 454,.str "_law_rows" 455,.str "_law_n" 456]
def cA (P:Params):Obj:=tu []
def zdK (P:Params):Obj:=fp (fn "_law_splits" "_law_splits" (tp 30) 0 [] (.none) (.none) (.none) (.none) (none) (.none) (.none) 0)
def cC (P:Params):Obj:=co [.str "_law_splits" 449,.str "_law_splits" 450,.str "/claim/cut.py" 451,.int 222 0,.int 1 0,.int 0 0,.int 0 0,.int 3 0,.ref 188,.bool true,.int 181 0,.ref 189,.none,.ref 190,.ref 191,.ref 192,.int 457 0,.int 222 0,.str "/claim/cut.py" 458]
def cF (P:Params):Obj:=fu (fn "_law_splits" "_law_splits" (tp 30) 3 [] (.none) (.none) (.none) (.str "law_copiedhouse_k16_lists" 283) (none) (.ref 193) (.none) 0)
def cG (P:Params):Obj:=tu []
def zdL (P:Params):Obj:=fl []
def cH (P:Params):Obj:=tu [.str "_law_program_here" 463,.str "_law_kh" 464,.str "_law_found" 465,.str "_law_other" 466,.str "_law_rows" 467,.str "_law_row_here" 468]
def cI (P:Params):Obj:=tu []
def zdM (P:Params):Obj:=fp (fn "_law_order" "_law_order" (tp 31) 0 [] (.none) (.none) (.none) (.none) (none) (.none) (.none) 0)
def cJ (P:Params):Obj:=co [.str "_law_order" 460,.str "_law_order" 461,.str "/claim/cut.py" 462,.int 229 0,.int 2 0,.int 0 0,.int 0 0,.int 3 0,.ref 195,.bool true,.int 181 0,.ref 196,.none,.ref 197,.ref 198,.ref 199,.int 469 0,.int 229 0,.str "/claim/cut.py" 470]
def cK (P:Params):Obj:=fu (fn "_law_order" "_law_order" (tp 31) 3 [] (.none) (.none) (.none) (.str "law_copiedhouse_k16_lists" 283) (none) (.ref 200) (.none) 0)
def cL (P:Params):Obj:=tu []
def zdN (P:Params):Obj:=fl []
def cM (P:Params):Obj:=tu [.str "_law_program_here" 475,.str "_law_kh" 476,.str "_law_found" 477,.str "_law_turn" 478,.str "_law_other" 479,.str "_law_rows" 480,.str "_law_row_here" 481]
def cN (P:Params):Obj:=tu []
def zdO (P:Params):Obj:=fp (fn "_law_joined" "_law_joined" (tp 32) 0 [] (.none) (.none) (.none) (.none) (none) (.none) (.none) 0)
def cO (P:Params):Obj:=co [.str "_law_joined" 472,.str "_law_joined" 473,.str "/claim/cut.py" 474,.int 237 0,.int 2 0,.int 0 0,.int 0 0,.int 3 0,.ref 202,.bool true,.int 181 0,.ref 203,.none,.ref 204,.ref 205,.ref 206,.int 482 0,.int 237 0,.str "/claim/cut.py" 483]
def cP (P:Params):Obj:=fu (fn "_law_joined" "_law_joined" (tp 32) 3 [] (.none) (.none) (.none) (.str "law_copiedhouse_k16_lists" 283) (none) (.ref 207) (.none) 0)
def cQ (P:Params):Obj:=tu []
def zdP (P:Params):Obj:=fl []
def cR (P:Params):Obj:=tu [.str "_law_rows" 488,.str "_law_ks" 489,.str "_law_found" 490,.str "_law_n" 491,.str "_law_row_here" 492]
def cS (P:Params):Obj:=tu []
def zdQ (P:Params):Obj:=fp (fn "_law_deeds" "_law_deeds" (tp 33) 0 [] (.none) (.none) (.none) (.none) (none) (.none) (.none) 0)
def cT (P:Params):Obj:=co [.str "_law_deeds" 485,.str "_law_deeds" 486,.str "/claim/cut.py" 487,.int 245 0,.int 2 0,.int 0 0,.int 0 0,.int 3 0,.ref 209,.bool true,.int 181 0,.ref 210,.none,.ref 211,.ref 212,.ref 213,.int 493 0,.int 245 0,.str "/claim/cut.py" 494]
def cU (P:Params):Obj:=fu (fn "_law_deeds" "_law_deeds" (tp 33) 3 [] (.none) (.none) (.none) (.str "law_copiedhouse_k16_lists" 283) (none) (.ref 214) (.none) 0)
def cV (P:Params):Obj:=tu []
def zdR (P:Params):Obj:=fl []
def cW (P:Params):Obj:=tu [.str "_law_found" 499]
def cX (P:Params):Obj:=tu []
def zdS (P:Params):Obj:=fp (fn "_law_whole" "_law_whole" (tp 34) 0 [] (.none) (.none) (.none) (.none) (none) (.none) (.none) 0)
def cY (P:Params):Obj:=co [.str "_law_whole" 496,.str "_law_whole" 497,.str "/claim/cut.py" 498,.int 254 0,.int 1 0,.int 0 0,.int 0 0,.int 3 0,.ref 216,.bool true,.int 181 0,.ref 217,.none,.ref 218,.ref 219,.ref 220,.int 500 0,.int 254 0,.str "/claim/cut.py" 501]
def cZ (P:Params):Obj:=fu (fn "_law_whole" "_law_whole" (tp 34) 3 [] (.none) (.none) (.none) (.str "law_copiedhouse_k16_lists" 283) (none) (.ref 221) (.none) 0)
def b0 (P:Params):Obj:=tu []
def zdT (P:Params):Obj:=fl []
def bA (P:Params):Obj:=tu [.str "_law_found" 506,.str "_law_due" 507]
def bB (P:Params):Obj:=tu []
def zdU (P:Params):Obj:=fp (fn "_law_split_right" "_law_split_right" (tp 35) 0 [] (.none) (.none) (.none) (.none) (none) (.none) (.none) 0)
def bC (P:Params):Obj:=co [.str "_law_split_right" 503,.str "_law_split_right" 504,.str "/claim/cut.py" 505,.int 256 0,.int 2 0,.int 0 0,.int 0 0,.int 3 0,.ref 223,.bool true,.int 181 0,.ref 224,.none,.ref 225,.ref 226,.ref 227,.int 508 0,.int 256 0,.str "/claim/cut.py" 509]
def bD (P:Params):Obj:=fu (fn "_law_split_right" "_law_split_right" (tp 35) 3 [] (.none) (.none) (.none) (.str "law_copiedhouse_k16_lists" 283) (none) (.ref 228) (.none) 0)
def bE (P:Params):Obj:=tu []
def zdV (P:Params):Obj:=fl []
def zdW (P:Params):Obj:=fp (fn "_law_hand_right" "_law_hand_right" (tp 36) 0 [] (.none) (.none) (.none) (.none) (none) (.none) (.none) 0)
def bF (P:Params):Obj:=co [.str "_law_hand_right" 511,.str "_law_hand_right" 512,.str "/claim/cut.py" 513,.int 260 0,.int 4 0,.int 0 0,.int 0 0,.int 3 0,.ref 230,.bool true,.int 181 0,.ref 231,.none,.none,.none,.ref 232,.int 514 0,.int 260 0,.str "/claim/cut.py" 515]
def bG (P:Params):Obj:=fu (fn "_law_hand_right" "_law_hand_right" (tp 36) 3 [] (.none) (.none) (.none) (.str "law_copiedhouse_k16_lists" 283) (none) (.ref 233) (.none) 0)
def bH (P:Params):Obj:=tu []
def zdX (P:Params):Obj:=fl []
def bI (P:Params):Obj:=tu [.str "_law_script" 520,.str "_law_program_here" 521,.str "_law_splits_here" 522,.str "_law_shelf" 523,.str "_law_kh" 524,.str "_law_rows" 525,.str "_law_found" 526]
def bJ (P:Params):Obj:=tu []
def zdY (P:Params):Obj:=fp (fn "law" "law" (tp 37) 0 [] (.none) (.none) (.none) (.none) (none) (.none) (.none) 0)
def bK (P:Params):Obj:=co [.str "law" 517,.str "law" 518,.str "/claim/cut.py" 519,.int 275 0,.int 1 0,.int 0 0,.int 0 0,.int 3 0,.ref 235,.bool true,.int 181 0,.ref 236,.none,.ref 237,.ref 238,.ref 239,.int 527 0,.int 275 0,.str "/claim/cut.py" 528]
def bL (P:Params):Obj:=fu (fn "law" "law" (tp 37) 3 [] (.none) (.none) (.none) (.str "law_copiedhouse_k16_lists" 283) (none) (.ref 240) (.none) 0)
def a12 (P:Params):Obj:=fl []
def Ta (P:Params):BT:=(.node (boot_o_0 P) (.node (boot_o_1 P) (.node (boot_o_3 P) (.node (boot_o_7 P) .nil .nil) (.node (f11 P) .nil .nil)) (.node (boot_o_5 P) (.node (boot_o_9 P) .nil .nil) (.node (f13 P) .nil .nil))) (.node (boot_o_2 P) (.node (boot_o_4 P) (.node (boot_o_8 P) .nil .nil) (.node (a12 P) .nil .nil)) (.node (boot_o_6 P) (.node (boot_o_10 P) .nil .nil) (.node (f14 P) .nil .nil))))
def Tz (P:Params):BT:=(.node (boot_o_0 P) (.node (boot_o_1 P) (.node (f3 P) (.node (boot_o_7 P) (.node (f15 P) (.node (f31 P) (.node (aE P) (.node (e7 P) .nil .nil) (.node (cA P) .nil .nil)) (.node (f95 P) (.node (zdA P) .nil .nil) (.node (b0 P) .nil .nil))) (.node (bU P) (.node (f79 P) (.node (eQ P) .nil .nil) (.node (cO P) .nil .nil)) (.node (fP P) (.node (dO P) .nil .nil) (.node (zdY P) .nil .nil)))) (.node (f23 P) (.node (bO P) (.node (aK P) (.node (eL P) .nil .nil) (.node (zdM P) .nil .nil)) (.node (fK P) (.node (dH P) .nil .nil) (.node (zdV P) .nil .nil))) (.node (aA P) (.node (aU P) (.node (d6 P) .nil .nil) (.node (cU P) .nil .nil)) (.node (zdz P) (.node (dW P) .nil .nil) .nil)))) (.node (f11 P) (.node (f19 P) (.node (f35 P) (.node (aH P) (.node (eI P) .nil .nil) (.node (cG P) .nil .nil)) (.node (f99 P) (.node (zdB P) .nil .nil) (.node (zdU P) .nil .nil))) (.node (bX P) (.node (f83 P) (.node (eZ P) .nil .nil) (.node (cR P) .nil .nil)) (.node (fS P) (.node (dR P) .nil .nil) .nil))) (.node (f27 P) (.node (bR P) (.node (aM P) (.node (eN P) .nil .nil) (.node (zdN P) .nil .nil)) (.node (fM P) (.node (dL P) .nil .nil) (.node (bH P) .nil .nil))) (.node (aC P) (.node (aX P) (.node (d9 P) .nil .nil) (.node (cX P) .nil .nil)) (.node (zd0 P) (.node (dY P) .nil .nil) .nil))))) (.node (boot_o_5 P) (.node (boot_o_9 P) (.node (f17 P) (.node (f33 P) (.node (aG P) (.node (eF P) .nil .nil) (.node (cC P) .nil .nil)) (.node (f97 P) (.node (dD P) .nil .nil) (.node (bA P) .nil .nil))) (.node (f49 P) (.node (aQ P) (.node (zd7 P) .nil .nil) (.node (cQ P) .nil .nil)) (.node (fQ P) (.node (zdF P) .nil .nil) (.node (bL P) .nil .nil)))) (.node (f25 P) (.node (bQ P) (.node (f73 P) (.node (zd4 P) .nil .nil) (.node (cK P) .nil .nil)) (.node (zdv P) (.node (dJ P) .nil .nil) (.node (bF P) .nil .nil))) (.node (f57 P) (.node (aW P) (.node (d7 P) .nil .nil) (.node (zdR P) .nil .nil)) (.node (fW P) (.node (zdI P) .nil .nil) .nil)))) (.node (f13 P) (.node (f21 P) (.node (bN P) (.node (f69 P) (.node (zd3 P) .nil .nil) (.node (cH P) .nil .nil)) (.node (fI P) (.node (dG P) .nil .nil) (.node (bD P) .nil .nil))) (.node (bY P) (.node (aT P) (.node (zd8 P) .nil .nil) (.node (zdQ P) .nil .nil)) (.node (fT P) (.node (dS P) .nil .nil) .nil))) (.node (f29 P) (.node (f45 P) (.node (aO P) (.node (eP P) .nil .nil) (.node (cN P) .nil .nil)) (.node (zdw P) (.node (zdE P) .nil .nil) (.node (bI P) .nil .nil))) (.node (f61 P) (.node (f93 P) (.node (dA P) .nil .nil) (.node (cY P) .nil .nil)) (.node (fZ P) (.node (zdJ P) .nil .nil) .nil)))))) (.node (boot_o_2 P) (.node (boot_o_4 P) (.node (boot_o_8 P) (.node (f16 P) (.node (f32 P) (.node (aF P) (.node (eE P) .nil .nil) (.node (zdK P) .nil .nil)) (.node (f96 P) (.node (dC P) .nil .nil) (.node (zdT P) .nil .nil))) (.node (bV P) (.node (aP P) (.node (eR P) .nil .nil) (.node (cP P) .nil .nil)) (.node (zdx P) (.node (dP P) .nil .nil) (.node (bK P) .nil .nil)))) (.node (f24 P) (.node (bP P) (.node (aL P) (.node (eM P) .nil .nil) (.node (cJ P) .nil .nil)) (.node (zdu P) (.node (dI P) .nil .nil) (.node (zdW P) .nil .nil))) (.node (f56 P) (.node (aV P) (.node (zd9 P) .nil .nil) (.node (cV P) .nil .nil)) (.node (fV P) (.node (zdH P) .nil .nil) .nil)))) (.node (f12 P) (.node (f20 P) (.node (bM P) (.node (aI P) (.node (eJ P) .nil .nil) (.node (zdL P) .nil .nil)) (.node (zdt P) (.node (dF P) .nil .nil) (.node (bC P) .nil .nil))) (.node (f52 P) (.node (aS P) (.node (d4 P) .nil .nil) (.node (cS P) .nil .nil)) (.node (zdy P) (.node (zdG P) .nil .nil) .nil))) (.node (f28 P) (.node (bS P) (.node (aN P) (.node (eO P) .nil .nil) (.node (cM P) .nil .nil)) (.node (fN P) (.node (dM P) .nil .nil) (.node (zdX P) .nil .nil))) (.node (aD P) (.node (aY P) (.node (zd_ P) .nil .nil) (.node (zdS P) .nil .nil)) (.node (fY P) (.node (dZ P) .nil .nil) .nil))))) (.node (boot_o_6 P) (.node (boot_o_10 P) (.node (f18 P) (.node (f34 P) (.node (f66 P) (.node (zd2 P) .nil .nil) (.node (cF P) .nil .nil)) (.node (f98 P) (.node (dE P) .nil .nil) (.node (bB P) .nil .nil))) (.node (bW P) (.node (aR P) (.node (eV P) .nil .nil) (.node (zdP P) .nil .nil)) (.node (fR P) (.node (dQ P) .nil .nil) .nil))) (.node (f26 P) (.node (f42 P) (.node (f74 P) (.node (zd5 P) .nil .nil) (.node (cL P) .nil .nil)) (.node (fL P) (.node (zdD P) .nil .nil) (.node (bG P) .nil .nil))) (.node (aB P) (.node (f90 P) (.node (d8 P) .nil .nil) (.node (cW P) .nil .nil)) (.node (fX P) (.node (dX P) .nil .nil) .nil)))) (.node (f14 P) (.node (f22 P) (.node (f38 P) (.node (aJ P) (.node (eK P) .nil .nil) (.node (cI P) .nil .nil)) (.node (fJ P) (.node (zdC P) .nil .nil) (.node (bE P) .nil .nil))) (.node (bZ P) (.node (f86 P) (.node (d5 P) .nil .nil) (.node (cT P) .nil .nil)) (.node (fU P) (.node (dU P) .nil .nil) .nil))) (.node (f30 P) (.node (bT P) (.node (f78 P) (.node (zd6 P) .nil .nil) (.node (zdO P) .nil .nil)) (.node (fO P) (.node (dN P) .nil .nil) (.node (bJ P) .nil .nil))) (.node (f62 P) (.node (aZ P) (.node (dB P) .nil .nil) (.node (cZ P) .nil .nil)) (.node (zd1 P) (.node (c0 P) .nil .nil) .nil)))))))
def Ha (P:Params):Heap:=⟨⟨[boot_o_0 P,boot_o_1 P,boot_o_2 P,boot_o_3 P,boot_o_4 P,boot_o_5 P,boot_o_6 P,boot_o_7 P,boot_o_8 P,boot_o_9 P,boot_o_10 P,f11 P,a12 P,f13 P,f14 P]⟩,li⟩
def Hf (P:Params):Heap:=⟨⟨[boot_o_0 P,boot_o_1 P,boot_o_2 P,f3 P,boot_o_4 P,boot_o_5 P,boot_o_6 P,boot_o_7 P,boot_o_8 P,boot_o_9 P,boot_o_10 P,f11 P,f12 P,f13 P,f14 P,f15 P,f16 P,f17 P,f18 P,f19 P,f20 P,f21 P,f22 P,f23 P,f24 P,f25 P,f26 P,f27 P,f28 P,f29 P,f30 P,f31 P,f32 P,f33 P,f34 P,f35 P,bM P,bN P,f38 P,bO P,bP P,bQ P,f42 P,bR P,bS P,f45 P,bT P,bU P,bV P,f49 P,bW P,bX P,f52 P,bY P,bZ P,aA P,f56 P,f57 P,aB P,aC P,aD P,f61 P,f62 P,aE P,aF P,aG P,f66 P,aH P,aI P,f69 P,aJ P,aK P,aL P,f73 P,f74 P,aM P,aN P,aO P,f78 P,f79 P,aP P,aQ P,aR P,f83 P,aS P,aT P,f86 P,aU P,aV P,aW P,f90 P,aX P,aY P,f93 P,aZ P,f95 P,f96 P,f97 P,f98 P,f99 P,zdt P,fI P,fJ P,fK P,zdu P,zdv P,fL P,fM P,fN P,zdw P,fO P,fP P,zdx P,fQ P,fR P,fS P,zdy P,fT P,fU P,zdz P,fV P,fW P,fX P,zd0 P,fY P,fZ P,zd1 P,e7 P,eE P,eF P,zd2 P,eI P,eJ P,zd3 P,eK P,eL P,eM P,zd4 P,zd5 P,eN P,eO P,eP P,zd6 P,eQ P,eR P,zd7 P,eV P,eZ P,d4 P,zd8 P,d5 P,d6 P,zd9 P,d7 P,d8 P,d9 P,zd_ P,dA P,dB P,zdA P,dC P,dD P,dE P,zdB P,dF P,dG P,zdC P,dH P,dI P,dJ P,zdD P,dL P,dM P,zdE P,dN P,dO P,dP P,zdF P,dQ P,dR P,zdG P,dS P,dU P,dW P,zdH P,zdI P,dX P,dY P,dZ P,zdJ P,c0 P,cA P,zdK P,cC P,cF P,cG P,zdL P,cH P,cI P,zdM P,cJ P,cK P,cL P,zdN P,cM P,cN P,zdO P,cO P,cP P,cQ P,zdP P,cR P,cS P,zdQ P,cT P,cU P,cV P,zdR P,cW P,cX P,zdS P,cY P,cZ P,b0 P,zdT P,bA P,bB P,zdU P,bC P,bD P,bE P,zdV P,zdW P,bF P,bG P,bH P,zdX P,bI P,bJ P,zdY P,bK P,bL P]⟩,li⟩
theorem pre (w:World)(os:OsState):topGo treeTable pg w 11 an 12 ⟨boot_heap w.params,gs,boot_drawn,boot_toks,os⟩ (topStub pg)=some (⟨Ha w.params,gs,boot_drawn,187,os⟩,⟨denote treeTable cE,cE,⟨0,0,0,0⟩,B⟩):=by
 rw[PySem.W.Fast.te15667345088766844465,PySem.W.Fast.te14364793385576792824,PySem.W.Fast.te11892475500146522536];kernel_rfl
theorem block (w:World)(os:OsState):segRun treeTable pg w 11 an 1 1 ⟨Ha w.params,gs,boot_drawn,187,os⟩ (blockOf (behindTheImports pg) ev cE ⟨0,0,0,0⟩ B)=some (.next,(SharedT.abs ⟨Ta w.params,15,li,gs,boot_drawn,187,os⟩),cE,⟨0,0,0,0⟩):=by
 rw[PySem.W.Fast.te14374325043358763698,PySem.W.Fast.te14364793385576792824];kernel_rfl
def zgB:List Stmt:= [tp 0,tp 1,tp 2,tp 3,tp 4,tp 5,tp 6,tp 7,tp 8,tp 9,tp 10,tp 11,tp 12,tp 13,tp 14,tp 15,tp 16,tp 17,tp 18,tp 19,tp 20,tp 21,tp 22,tp 23,tp 24,tp 25,tp 26,tp 27,tp 28,tp 29,tp 30,tp 31,tp 32,tp 33,tp 34,tp 35,tp 36,tp 37]
theorem zmv (w:World)(os:OsState):segRunT treeTable pg w 11 an 1 1117 ⟨Ta w.params,15,li,gs,boot_drawn,187,os⟩ (piecesOf zgB ev cE ⟨0,0,0,0⟩ B)=some (.next,⟨Tz w.params,242,li,gs,boot_drawn,530,os⟩,cE,⟨275,0,285,122⟩):=by
 rw[PySem.W.Fast.te10110043849684766642,PySem.W.Fast.te14364793385576792824];kernel_rfl
theorem fin (w:World)(os:OsState):topRun treeTable pg w 11 an 2 (SharedT.abs ⟨Tz w.params,242,li,gs,boot_drawn,530,os⟩) ⟨doneF .next,cE,⟨275,0,285,122⟩,B⟩=some ⟨Hf w.params,gs,boot_drawn,530,os⟩:=by
 rw[PySem.W.Fast.te14082659384304107361,PySem.W.Fast.te14364793385576792824];kernel_rfl
theorem run (w:World)(os:OsState):topRun treeTable pg w 11 an (12+(1+(1117+(2)))) ⟨boot_heap w.params,gs,boot_drawn,boot_toks,os⟩ (topStub pg)=some ⟨Hf w.params,gs,boot_drawn,530,os⟩:=
 go_top (pre w os) (piece_block (env:=ev) (b:=behindTheImports pg) (block w os) (piece_app (env:=ev) (l:=zgB) (segRun_of (zmv w os)) (piece_nil (env:=ev) (fin w os))))
def K (P:Params):Frag:=(nat_lit 2,boot_o_2 P)::(nat_lit 3,f3 P)::(nat_lit 15,f15 P)::(nat_lit 17,f17 P)::(nat_lit 18,f18 P)::(nat_lit 20,f20 P)::(nat_lit 21,f21 P)::(nat_lit 22,f22 P)::(nat_lit 24,f24 P)::(nat_lit 25,f25 P)::(nat_lit 27,f27 P)::(nat_lit 28,f28 P)::(nat_lit 29,f29 P)::(nat_lit 32,f32 P)::(nat_lit 33,f33 P)::(nat_lit 34,f34 P)::(nat_lit 36,bM P)::(nat_lit 37,bN P)::(nat_lit 39,bO P)::(nat_lit 40,bP P)::(nat_lit 41,bQ P)::(nat_lit 43,bR P)::(nat_lit 44,bS P)::(nat_lit 46,bT P)::(nat_lit 47,bU P)::(nat_lit 48,bV P)::(nat_lit 50,bW P)::(nat_lit 51,bX P)::(nat_lit 53,bY P)::(nat_lit 54,bZ P)::(nat_lit 55,aA P)::(nat_lit 58,aB P)::(nat_lit 59,aC P)::(nat_lit 60,aD P)::(nat_lit 63,aE P)::(nat_lit 64,aF P)::(nat_lit 65,aG P)::(nat_lit 67,aH P)::(nat_lit 68,aI P)::(nat_lit 70,aJ P)::(nat_lit 71,aK P)::(nat_lit 72,aL P)::(nat_lit 75,aM P)::(nat_lit 76,aN P)::(nat_lit 77,aO P)::(nat_lit 80,aP P)::(nat_lit 81,aQ P)::(nat_lit 82,aR P)::(nat_lit 84,aS P)::(nat_lit 85,aT P)::(nat_lit 87,aU P)::(nat_lit 88,aV P)::(nat_lit 89,aW P)::(nat_lit 91,aX P)::(nat_lit 92,aY P)::(nat_lit 94,aZ P)::(nat_lit 95,f95 P)::(nat_lit 96,f96 P)::(nat_lit 98,f98 P)::(nat_lit 99,f99 P)::(nat_lit 101,fI P)::(nat_lit 102,fJ P)::(nat_lit 103,fK P)::(nat_lit 106,fL P)::(nat_lit 107,fM P)::(nat_lit 108,fN P)::(nat_lit 110,fO P)::(nat_lit 111,fP P)::(nat_lit 113,fQ P)::(nat_lit 114,fR P)::(nat_lit 115,fS P)::(nat_lit 117,fT P)::(nat_lit 118,fU P)::(nat_lit 120,fV P)::(nat_lit 121,fW P)::(nat_lit 122,fX P)::(nat_lit 124,fY P)::(nat_lit 125,fZ P)::(nat_lit 127,e7 P)::(nat_lit 128,eE P)::(nat_lit 129,eF P)::(nat_lit 131,eI P)::(nat_lit 132,eJ P)::(nat_lit 134,eK P)::(nat_lit 135,eL P)::(nat_lit 136,eM P)::(nat_lit 139,eN P)::(nat_lit 140,eO P)::(nat_lit 141,eP P)::(nat_lit 143,eQ P)::(nat_lit 144,eR P)::(nat_lit 146,eV P)::(nat_lit 147,eZ P)::(nat_lit 148,d4 P)::(nat_lit 150,d5 P)::(nat_lit 151,d6 P)::(nat_lit 153,d7 P)::(nat_lit 154,d8 P)::(nat_lit 155,d9 P)::(nat_lit 157,dA P)::(nat_lit 158,dB P)::(nat_lit 160,dC P)::(nat_lit 161,dD P)::(nat_lit 162,dE P)::(nat_lit 164,dF P)::(nat_lit 165,dG P)::(nat_lit 167,dH P)::(nat_lit 168,dI P)::(nat_lit 169,dJ P)::(nat_lit 171,dL P)::(nat_lit 172,dM P)::(nat_lit 174,dN P)::(nat_lit 175,dO P)::(nat_lit 176,dP P)::(nat_lit 178,dQ P)::(nat_lit 179,dR P)::(nat_lit 181,dS P)::(nat_lit 182,dU P)::(nat_lit 183,dW P)::(nat_lit 186,dX P)::(nat_lit 187,dY P)::(nat_lit 188,dZ P)::(nat_lit 190,c0 P)::(nat_lit 191,cA P)::(nat_lit 193,cC P)::(nat_lit 194,cF P)::(nat_lit 195,cG P)::(nat_lit 197,cH P)::(nat_lit 198,cI P)::(nat_lit 200,cJ P)::(nat_lit 201,cK P)::(nat_lit 202,cL P)::(nat_lit 204,cM P)::(nat_lit 205,cN P)::(nat_lit 207,cO P)::(nat_lit 208,cP P)::(nat_lit 209,cQ P)::(nat_lit 211,cR P)::(nat_lit 212,cS P)::(nat_lit 214,cT P)::(nat_lit 215,cU P)::(nat_lit 216,cV P)::(nat_lit 218,cW P)::(nat_lit 219,cX P)::(nat_lit 221,cY P)::(nat_lit 222,cZ P)::(nat_lit 223,b0 P)::(nat_lit 225,bA P)::(nat_lit 226,bB P)::(nat_lit 228,bC P)::(nat_lit 229,bD P)::(nat_lit 230,bE P)::(nat_lit 233,bF P)::(nat_lit 234,bG P)::(nat_lit 235,bH P)::(nat_lit 237,bI P)::(nat_lit 238,bJ P)::(nat_lit 240,bK P)::(nat_lit 241,bL P):: []
abbrev hk:Hook:=kmHook K [2,3,15,17,18,20,21,22,24,25,27,28,29,32,33,34,36,37,39,40,41,43,44,46,47,48,50,51,53,54,55,58,59,60,63,64,65,67,68,70,71,72,75,76,77,80,81,82,84,85,87,88,89,91,92,94,95,96,98,99,101,102,103,106,107,108,110,111,113,114,115,117,118,120,121,122,124,125,127,128,129,131,132,134,135,136,139,140,141,143,144,146,147,148,150,151,153,154,155,157,158,160,161,162,164,165,167,168,169,171,172,174,175,176,178,179,181,182,183,186,187,188,190,191,193,194,195,197,198,200,201,202,204,205,207,208,209,211,212,214,215,216,218,219,221,222,223,225,226,228,229,230,233,234,235,237,238,240,241] (λ_=>by kernel_rfl) []
def q:Program:= {pg with main:= {pg.main with body:= [tp 1,tp 2,tp 4,tp 5,tp 6,tp 7,tp 8,tp 9,tp 10,tp 11,tp 12,tp 13,tp 15,tp 16,tp 17,tp 18,tp 19,tp 20,tp 21,tp 22,tp 23,tp 24,tp 25,tp 26,tp 27,tp 28,tp 29,tp 30,tp 31,tp 32,tp 33,tp 34,tp 35,tp 36,tp 37]}}
abbrev Xt (s:Shared):Bool:=xlAt q [] s&&recOk (RowW.records (OpenRow.toRowW (PySem.Challenge.rw_copiedhouse_k16_lists).row)) s
theorem sz (w:World):((boot_heap w.params).isNs mainGlobals&&gs.size==0,(boot_heap w.params).objs.size,(boot_heap w.params).nsMap mainGlobals "__annotations__")=(true,11,an):=by
 rw[PySem.W.Fast.te8920871248978507458];kernel_rfl
theorem lk1 (w:World)(os:OsState):(staticsOk (importedModules pg.main.body) (boot_heap w.params) (Hf w.params)&&namesBound pg (Hf w.params)&&gensDone ⟨Hf w.params,gs,boot_drawn,530,os⟩&&laidKept (boot_heap w.params) (Hf w.params))=true:=by
 rw[PySem.W.Fast.te5923862056798008813];kernel_rfl
theorem lk2 (w:World)(os:OsState):openSeen q [] (importedModules pg.main.body) Xt true ⟨Hf w.params,gs,boot_drawn,530,os⟩=openGood q []:=by
 rw[PySem.W.Fast.te4187177175401517315,PySem.W.Fast.te5923862056798008813];kernel_rfl
theorem lk3 (w:World)(os:OsState):Hook.obs hk ⟨Hf w.params,gs,boot_drawn,530,os⟩=Hook.val hk w:=by kernel_rfl
theorem left:LeftO pg q [] Xt (Hook.obs hk) (Hook.val hk) 2358:=LeftO.of_pieces (H₀:=boot_heap) (H₁:=Hf) (M:=12+(1+(1117+(2)))) (boot_open rfl rfl λ_=>rfl) sz run (by decide) λw=>funext λos=>looks_pair (lk1 w os) (looks_pair (lk2 w os) (lk3 w os))
theorem ws:(PySem.Challenge.rw_copiedhouse_k16_lists).wellSaid=true:=by kernel_rfl
end
end Hd
open PySem PySem.W PyProof.Rows
set_option maxRecDepth 100000 in
set_option maxHeartbeats 0 in
theorem PySem.Challenge.cw_copiedhouse_k16_lists_holds : PySem.Challenge.rw_copiedhouse_k16_lists.Holds := by
 w_on
 refine holds_law Hd.ws λsaid=> ?_;refine holds_open (q:=Hd.q) (loose:= []) (Xt:=Hd.Xt) (XP:=XL Hd.q []) (Yf:=Hook.obs Hd.hk) (Ya:=Hook.val Hd.hk) (YP:=Hook.says Hd.hk) (N:=2358) Hd.left (Hook.of Hd.hk) (Hook.keeps Hd.hk) (λs e=>xl_of s (Bool.and_eq_true_iff.mp e).1) XL.keeps (by rfl) (by rfl) (by rfl) (λs e=>recFacts_of (Bool.and_eq_true_iff.mp e).2) (by rfl) said (by decide+kernel) ⟨rfl,rfl,rfl,rfl,rfl,by decide+kernel⟩ ?hw ?hc
 (case hw=>w_witness2)
 unfold Hd.hk
 k_fill
 refine N16.walk (l:=PySem.Challenge.rw_copiedhouse_k16_lists) rfl rfl (λw h Y=>PySem.W.km_in_of Y) ?F
 case F=>
  intro w mg fa h KX G hmg
  refine' N16.all_mk KX G hmg ?a1_ ?l1_ ?c1_ ?k1_ ?a2_ ?l2_ ?c2_ ?k2_ ?a3_ ?l3_ ?c3_ ?k3_ ?a4_ ?l4_ ?c4_ ?k4_ ?a5_ ?l5_ ?c5_ ?k5_ ?a6_ ?l6_ ?c6_ ?k6_ ?a7_ ?l7_ ?c7_ ?k7_ ?a8_ ?l8_ ?c8_ ?k8_ ?a9_ ?l9_ ?c9_ ?k9_ ?a10_ ?l10_ ?c10_ ?k10_ ?a11_ ?l11_ ?c11_ ?k11_ ?a12_ ?l12_ ?c12_ ?k12_ ?a13_ ?l13_ ?c13_ ?k13_ ?a14_ ?l14_ ?c14_ ?k14_ ?a15_ ?l15_ ?c15_ ?k15_ ?a16_ ?l16_ ?c16_ ?k16_ ?a17_ ?l17_ ?c17_ ?k17_ ?a18_ ?l18_ ?c18_ ?k18_ ?a19_ ?l19_ ?c19_ ?k19_ ?a20_ ?l20_ ?c20_ ?k20_ ?a21_ ?l21_ ?c21_ ?k21_ ?a22_ ?l22_ ?c22_ ?k22_ ?a23_ ?l23_ ?c23_ ?k23_ ?a24_ ?l24_ ?c24_ ?k24_ ?a25_ ?l25_ ?c25_ ?k25_ ?a26_ ?l26_ ?c26_ ?k26_ ?a27_ ?l27_ ?c27_ ?k27_ ?a28_ ?l28_ ?c28_ ?k28_ ?a29_ ?l29_ ?c29_ ?k29_ ?a30_ ?l30_ ?c30_ ?k30_ ?a31_ ?l31_ ?c31_ ?k31_ ?a32_ ?l32_ ?c32_ ?k32_ ?a33_ ?l33_ ?c33_ ?k33_ ?a34_ ?l34_ ?c34_ ?k34_ ?a35_ ?l35_ ?c35_ ?k35_ ?zn0_ ?zn1_ ?zn2_ ?zn3_ ?zn4_ ?zn5_ ?zn6_ ?zn7_ ?zn8_ ?zn9_ ?zn10_ ?zn11_ ?zn12_ ?zn13_ ?zn14_ ?zn15_
  (case a1_=>k_is)
  (case l1_=>k_is)
  (case c1_=>k_is)
  (case k1_=>k_is)
  (case a2_=>k_is)
  (case l2_=>k_is)
  (case c2_=>k_is)
  (case k2_=>k_is)
  (case a3_=>k_is)
  (case l3_=>k_is)
  (case c3_=>k_is)
  (case k3_=>k_is)
  (case a4_=>k_is)
  (case l4_=>k_is)
  (case c4_=>k_is)
  (case k4_=>k_is)
  (case a5_=>k_is)
  (case l5_=>k_is)
  (case c5_=>k_is)
  (case k5_=>k_is)
  (case a6_=>k_is)
  (case l6_=>k_is)
  (case c6_=>k_is)
  (case k6_=>k_is)
  (case a7_=>k_is)
  (case l7_=>k_is)
  (case c7_=>k_is)
  (case k7_=>k_is)
  (case a8_=>k_is)
  (case l8_=>k_is)
  (case c8_=>k_is)
  (case k8_=>k_is)
  (case a9_=>k_is)
  (case l9_=>k_is)
  (case c9_=>k_is)
  (case k9_=>k_is)
  (case a10_=>k_is)
  (case l10_=>k_is)
  (case c10_=>k_is)
  (case k10_=>k_is)
  (case a11_=>k_is)
  (case l11_=>k_is)
  (case c11_=>k_is)
  (case k11_=>k_is)
  (case a12_=>k_is)
  (case l12_=>k_is)
  (case c12_=>k_is)
  (case k12_=>k_is)
  (case a13_=>k_is)
  (case l13_=>k_is)
  (case c13_=>k_is)
  (case k13_=>k_is)
  (case a14_=>k_is)
  (case l14_=>k_is)
  (case c14_=>k_is)
  (case k14_=>k_is)
  (case a15_=>k_is)
  (case l15_=>k_is)
  (case c15_=>k_is)
  (case k15_=>k_is)
  (case a16_=>k_is)
  (case l16_=>k_is)
  (case c16_=>k_is)
  (case k16_=>k_is)
  (case a17_=>k_is)
  (case l17_=>k_is)
  (case c17_=>k_is)
  (case k17_=>k_is)
  (case a18_=>k_is)
  (case l18_=>k_is)
  (case c18_=>k_is)
  (case k18_=>k_is)
  (case a19_=>k_is)
  (case l19_=>k_is)
  (case c19_=>k_is)
  (case k19_=>k_is)
  (case a20_=>k_is)
  (case l20_=>k_is)
  (case c20_=>k_is)
  (case k20_=>k_is)
  (case a21_=>k_is)
  (case l21_=>k_is)
  (case c21_=>k_is)
  (case k21_=>k_is)
  (case a22_=>k_is)
  (case l22_=>k_is)
  (case c22_=>k_is)
  (case k22_=>k_is)
  (case a23_=>k_is)
  (case l23_=>k_is)
  (case c23_=>k_is)
  (case k23_=>k_is)
  (case a24_=>k_is)
  (case l24_=>k_is)
  (case c24_=>k_is)
  (case k24_=>k_is)
  (case a25_=>k_is)
  (case l25_=>k_is)
  (case c25_=>k_is)
  (case k25_=>k_is)
  (case a26_=>k_is)
  (case l26_=>k_is)
  (case c26_=>k_is)
  (case k26_=>k_is)
  (case a27_=>k_is)
  (case l27_=>k_is)
  (case c27_=>k_is)
  (case k27_=>k_is)
  (case a28_=>k_is)
  (case l28_=>k_is)
  (case c28_=>k_is)
  (case k28_=>k_is)
  (case a29_=>k_is)
  (case l29_=>k_is)
  (case c29_=>k_is)
  (case k29_=>k_is)
  (case a30_=>k_is)
  (case l30_=>k_is)
  (case c30_=>k_is)
  (case k30_=>k_is)
  (case a31_=>k_is)
  (case l31_=>k_is)
  (case c31_=>k_is)
  (case k31_=>k_is)
  (case a32_=>k_is)
  (case l32_=>k_is)
  (case c32_=>k_is)
  (case k32_=>k_is)
  (case a33_=>k_is)
  (case l33_=>k_is)
  (case c33_=>k_is)
  (case k33_=>k_is)
  (case a34_=>k_is)
  (case l34_=>k_is)
  (case c34_=>k_is)
  (case k34_=>k_is)
  (case a35_=>k_is)
  (case l35_=>k_is)
  (case c35_=>k_is)
  (case k35_=>k_is)
  (case zn0_=>k_is)
  (case zn1_=>k_is)
  (case zn2_=>k_is)
  (case zn3_=>k_is)
  (case zn4_=>k_is)
  (case zn5_=>k_is)
  (case zn6_=>k_is)
  (case zn7_=>k_is)
  (case zn8_=>k_is)
  (case zn9_=>k_is)
  (case zn10_=>k_is)
  (case zn11_=>k_is)
  (case zn12_=>k_is)
  (case zn13_=>k_is)
  (case zn14_=>k_is)
  (case zn15_=>k_is)
