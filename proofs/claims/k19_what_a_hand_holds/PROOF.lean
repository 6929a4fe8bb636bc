import PyProof.Rows.All
import Wide.All
import OpenK.AllK
import Wide.FinOn
import Lean
import PyProof.EqAt
import PyProof.EqKinds
import PyProof.TupleCall
import KE.KSortTup
import KE.KItemsList
import KE.KDictList
import PyProof.AttrMissHeap
import KE.KDictOf
import PyProof.NeKinds
import PyProof.IsiHeapPairs
import PyProof.IsiSeqPairs
import PyProof.SetKind
import PyProof.Rows.SetFrom
import PyProof.DictIter
import PyProof.CollectWalk
import PyProof.DictWalks
import PyProof.FactsAll.subtypes_5
import PyProof.IsiTupleOf
import PyProof.IsiPairs
import PyProof.Draws
import PyProof.EnumMake
import PyProof.WalksMore
import KE.KRevIter
import PyProof.ListRange
import PyProof.StrWalks
import PyProof.DictUpdate
import PySem.Challenge.RW_copiedhouse_k19_what_a_hand_holds
open PySem.W (Frag codeIn fnOf keepIn methodObj mg_none_of mg_of nsIn)
open PyProof.Rows (callWith_type1)
set_option Elab.async false
set_option linter.all false
set_option maxRecDepth 100000
namespace L2
open PySem PySem.Spec PyProof.Rows
abbrev z7:=Sum Int Str
def oS:z7->Value->Bool
 | .inl k,v=>Value.isInt k v
 | .inr x,v=>Value.isStrOf x v
def zjY (w:World):z7->Int
 | .inl k=>hashInt k
 | .inr x=>hashStr w x
theorem tW: ∀{k:z7} {v:Value},oS k v=true->(∃i t,k=Sum.inl i/\v=Value.int i t)∨(∃x t,k=Sum.inr x/\v=Value.str x t)
 | .inl i,v,h=>by
  obtain⟨t,e⟩:=Value.isInt_shape (k:=i) (v:=v) h;exact .inl ⟨i,t,rfl,e⟩
 | .inr x,v,h=>by
  obtain⟨t,e⟩:=Value.isStrOf_shape (x:=x) (v:=v) h;exact .inr ⟨x,t,rfl,e⟩
theorem zjZ (i:Int)(t:Tok):oS (.inl i) (.int i t)=true:=by simp[oS,Value.isInt]
theorem zka (x:Str)(t:Tok):oS (.inr x) (.str x t)=true:=by simp[oS,Value.isStrOf]
theorem zkd (a b:Int):decide ((Sum.inl a:z7)=Sum.inl b)=(a==b):=by
 by_cases e:a=b
 ·subst e;simp
 ·have h: ¬ (Sum.inl a:z7)=Sum.inl b:=λq=>e (Sum.inl.inj q)
  rw[decide_eq_false h];exact(beq_eq_false_iff_ne.mpr e).symm
theorem zkg (a b:Str):decide ((Sum.inr a:z7)=Sum.inr b)=decide (a=b):=by
 by_cases e:a=b
 ·subst e;simp
 ·have h: ¬ (Sum.inr a:z7)=Sum.inr b:=λq=>e (Sum.inr.inj q)
  rw[decide_eq_false h,decide_eq_false e]
theorem zke (a:Int)(b:Str):decide ((Sum.inl a:z7)=Sum.inr b)=false:=decide_eq_false (λq=>nomatch q)
theorem zkf (a:Str)(b:Int):decide ((Sum.inr a:z7)=Sum.inl b)=false:=decide_eq_false (λq=>nomatch q)
def x6 (prog:Program)(w:World):PySem.KeyKind prog w z7 where
 is:=oS
 hash:=zjY w
 inj:=λv a b ha hb=>by
  rcases tW ha with⟨i,t,rfl,rfl⟩ | ⟨x,t,rfl,rfl⟩
  ·rcases tW hb with⟨j,u,rfl,e⟩ | ⟨y,u,rfl,e⟩
   ·injection e with e1 _;rw[e1]
   ·exact nomatch e
  ·rcases tW hb with⟨j,u,rfl,e⟩ | ⟨y,u,rfl,e⟩
   ·exact nomatch e
   ·injection e with e1 _;rw[e1]
 byValue:=λk v h=>by
  rcases tW h with⟨i,t,rfl,rfl⟩ | ⟨x,t,rfl,rfl⟩ <;> rfl
 pyHash:=λhv h=>by
  rcases tW hv with⟨i,t,rfl,rfl⟩ | ⟨x,t,rfl,rfl⟩
  ·exact wpAny_pyHash_int h
  ·exact wpAny_pyHash_str h
 eqBool:=λhu hv h=>by
  rcases tW hu with⟨i,t,rfl,rfl⟩ | ⟨x,t,rfl,rfl⟩
  ·rcases tW hv with⟨j,u,rfl,rfl⟩ | ⟨y,u,rfl,rfl⟩
   ·rw[zkd]at h;exact wpAny_eqBool_int h
   ·rw[zke]at h;exact SeqAt.EqAt.int_str i t y u _ _ _ _ h
  ·rcases tW hv with⟨j,u,rfl,rfl⟩ | ⟨y,u,rfl,rfl⟩
   ·rw[zkf]at h;exact SeqAt.EqAt.str_int x t j u _ _ _ _ h
   ·rw[zkg]at h;exact wpAny_eqBool_str h
 «strs»:=λk x t v h=>by
  rcases tW h with⟨i,u,rfl,e⟩ | ⟨y,u,rfl,e⟩
  ·exact nomatch e
  ·injection e with e1 _
   subst e1;cases v <;> rfl
theorem zk7 (prog:Program)(w:World)(i:Int)(t:Tok):(x6 prog w).is (.inl i) (.int i t)=true:=zjZ i t
theorem zk8 (prog:Program)(w:World)(x:Str)(t:Tok):(x6 prog w).is (.inr x) (.str x t)=true:=zka x t
end L2
namespace L2
open PySem PySem.Spec PyProof.Rows
inductive V where
 | non | bl (b:Bool) | int (i:Int) | str (x:Str) | byt (b:Array UInt8) | flt (b:UInt64) | ref (a:Addr) | ty (n:String)
 deriving DecidableEq
def zT:V->Value->Prop
 | .non,u=>u=Value.none
 | .bl b,u=>u=Value.bool b
 | .int i,u=> ∃t,u=Value.int i t
 | .str x,u=> ∃t,u=Value.str x t
 | .byt b,u=> ∃t,u=Value.bytes b t
 | .flt b,u=> ∃t,u=Value.float b t
 | .ref a,u=>u=Value.ref a
 | .ty n,u=>u=Value.type n
abbrev zH:List V->List Value->Prop:=Paired zT
theorem zH.length {xs:List V}{us:List Value}(r:zH xs us):xs.length=us.length:=Paired.length r
theorem zH.get: ∀{xs:List V} {us:List Value} {i:Nat} {x:V},zH xs us->xs[i]?=some x->∃u,us[i]?=some u/\zT x u
 | _,_,_,_,.nil,e=>by simp at e
 | _,_,0,_,.cons r _,e=>by simp at e;subst e;exact⟨_,rfl,r⟩
 | _,_,i+1,x,.cons _ t,e=>by
  obtain⟨u,h1,h2⟩:=zH.get (i:=i) (x:=x) t (by simpa using e);exact⟨u,by simpa using h1,h2⟩
theorem zH.set {x:V}{u:Value}(r:zT x u): ∀{xs:List V} {us:List Value} (i:Nat),zH xs us->zH (xs.set i x) (us.set i u)
 | _,_,_,.nil=> .nil
 | _,_,0,.cons _ t=> .cons r t
 | _,_,i+1,.cons q t=> .cons q (zH.set r i t)
theorem zH.append: ∀{xs ys:List V} {us ws:List Value},zH xs us->zH ys ws->zH (xs++ys) (us++ws)
 | _,_,_,_,.nil,s=>s
 | _,_,_,_,.cons r t,s=> .cons r (zH.append t s)
theorem zH.take: ∀{xs:List V} {us:List Value} (n:Nat),zH xs us->zH (xs.take n) (us.take n)
 | _,_,0,_=> .nil
 | _,_,_+1,.nil=> .nil
 | _,_,n+1,.cons r t=> .cons r (zH.take n t)
theorem zH.drop: ∀{xs:List V} {us:List Value} (n:Nat),zH xs us->zH (xs.drop n) (us.drop n)
 | _,_,0,r=>r
 | _,_,_+1,.nil=> .nil
 | _,_,n+1,.cons _ t=>zH.drop n t
def tQ:Option V->Option Value->Prop
 | some v,some u=>zT v u
 | none,none=>True
 | _,_=>False
def KV {κ:Type} :List (κ×V)->List (κ×Value)->Prop:=Paired λ(p:κ×V) (q:κ×Value)=>p.1=q.1/\zT p.2 q.2
def kV:z7->V
 | .inl i=> .int i
 | .inr x=> .str x
inductive HO where
 | lst (xs:List V)
 | tup (xs:List V)
 | dK (kvs:List (z7×V)) | dT (kvs:List (List z7×V))
 | set (S:Int->Bool) (n:Nat)
 | ins (C dx:Addr) (fs:List (Str×V))
 | own (x:Addr)
 | xd (fs:List (Str×V))
 | met (f x:Addr)
 | rng (lo hi:Int)
 | frz (o:Obj) (u:HO)
 | tbl (ps:Array Value)
 | ext (φ:Heap->Prop)
abbrev Hp:=Addr->Option HO
def zJ (H:Hp)(a:Addr)(o:HO):Hp:=λb=>if b=a then some o else H b
theorem yQ {H:Hp}{a:Addr}{o:HO} :zJ H a o a=some o:=by unfold zJ;rw[if_pos rfl]
theorem yK {H:Hp}{a b:Addr}{o:HO}(h:b≠a):zJ H a o b=H b:=by unfold zJ;rw[if_neg h]
theorem zeJ {H:Hp}{a b:Addr}{o u:HO}(h:H a=some o)(h':H b=some u)(d:o≠u):a≠b:=by
 intro e;subst e;rw[h]at h';exact d (Option.some.inj h')
theorem tY {H:Hp}{a b:Addr}{o:HO}(h:H a=some o)(h':H b=none):a≠b:=by
 intro e;subst e;rw[h]at h';cases h'
def tD (h:Heap)(a:Addr)(items:Array Value):Prop:= ∃o,h.get? a=some o/\o.cls= .type "tuple" /\∃n,o.data= .seq items n/\o.dict=none
theorem tD.tup {h:Heap}{a:Addr}{items:Array Value}(x:tD h a items):IsTup h a items:=let⟨o,e,c,n,d,_⟩:=x;⟨o,e,c,n,d⟩
theorem tD.lt {h:Heap}{a:Addr}{items:Array Value}(x:tD h a items):a < h.objs.size:=let⟨_,e,_⟩:=x;Heap.lt_size e
theorem tD.new (h:Heap)(items:Array Value):tD (h.push {cls:= .type "tuple",data:= .seq items}) h.objs.size items:=⟨_,Heap.get?_push_size _ rfl,rfl,_,rfl,rfl⟩
section
variable (P:Program) (w:World)
def wA (H:Hp)(h:Heap)(a:Addr):HO->Prop
 | .lst xs=>xs.length<=sizeLine/\∃(its:List Value) (n:Nat),zH xs its/\h.get? a=some {cls:= .type "list",data:= .seq its.toArray n}
 | .tup xs=>xs.length<=sizeLine/\∃its:List Value,zH xs its/\tD h a its.toArray
 | .dK kvs=>kvs.length<=sizeLine/\(a==sysModules)=false/\∃vs,KV kvs vs/\h.DictOf (x6 P w) a vs
 | .dT kvs=>kvs.length<=sizeLine/\(a==sysModules)=false/\∃xs:List (List z7×Addr×Value),
   Paired (λ(p:List z7×V) (q:List z7×Addr×Value)=>p.1=q.1/\H q.2.1=some (.tup (p.1.map kV))/\zT p.2 q.2.2) kvs xs/\
   ∃o es ep,h.get? a=some o/\o.ExactDict/\o.data= .dict es ep/\es.toList=xs.map (entryOfKey (tupleKind (x6 P w)))/\(xs.map (·.1)).Nodup
 | .set S n=>h.SetOf (intKind P w) a S n
 | .ins C dx fs=>H dx=some (.own a)/\fs.length<=1000/\dx≠a/\h.get? a=some (PySem.W.instObj C dx)/\
   ∃mA,h.Ns1 dx mA/\(∀f,tQ (fs.lookup f) (mA f))/\PySem.Within mA (fs.map (·.1))
 | .own _=> ∃o,h.get? a=some o
 | .xd fs=> ∃mA,h.Ns1 a mA/\∀f,tQ (fs.lookup f) (mA f)
 | .rng lo hi=> ∃t u v,h.get? a=some {cls:= .type "range",data:= .fields #[.int lo t,.int hi u,.int 1 v]}
 | .frz o u=>h.get? a=some o/\wA H h a u
 | .tbl ps=>h.get? a=some {cls:= .none,data:= .fields ps}
 | .met f x=>h.get? a=some (methodObj (.ref f) (.ref x))
 | .ext φ=>φ h/\(∃o,h.get? a=some o)/\∀h1 h2:Heap,φ h1->(∀o,h1.get? a=some o->h2.get? a=some o)->φ h2
def xD (H:Hp)(h:Heap):Prop:= ∀a o,H a=some o->wA P w H h a o
end
section
variable {P:Program} {w:World} {H H':Hp} {h h':Heap} {a:Addr} {o:HO}
theorem wA.lt (x:wA P w H h a o):a < h.objs.size:=by
 cases o with
 | lst xs=>obtain⟨_,_,_,_,e⟩:=x;exact Heap.lt_size e
 | tup xs=>obtain⟨_,_,_,p⟩:=x;exact p.lt
 | dK kvs=>obtain⟨_,_,_,_,o,_,_,e,_⟩:=x;exact Heap.lt_size e
 | dT kvs=>obtain⟨_,_,_,_,o,_,_,e,_⟩:=x;exact Heap.lt_size e
 | set S n=>obtain⟨o,_,_,_,e,_⟩:=x;exact Heap.lt_size e
 | ins C dx fs=>obtain⟨_,_,_,e,_⟩:=x;exact Heap.lt_size e
 | own y=>obtain⟨_,e⟩:=x;exact Heap.lt_size e
 | xd fs=>obtain⟨_,⟨_,_,_,e,_⟩,_⟩:=x;exact Heap.lt_size e
 | rng lo hi=>obtain⟨_,_,_,e⟩:=x;exact Heap.lt_size e
 | frz ob u=>obtain⟨e,_⟩:=x;exact Heap.lt_size e
 | tbl ps=>exact Heap.lt_size (show h.get? a=some _ from x)
 | met f y=>exact Heap.lt_size (show h.get? a=some _ from x)
 | ext φ=>obtain⟨_,⟨_,e⟩,_⟩:=x;exact Heap.lt_size e
theorem Paired.mapP {α β:Type}{F G:α->β->Prop} : ∀{l₁:List α} {l₂:List β},Paired F l₁ l₂->(∀a b,F a b->G a b)->Paired G l₁ l₂
 | _,_,.nil,_=> .nil
 | _,_,.cons r t,f=> .cons (f _ _ r) (Paired.mapP t f)
theorem wA.stay (x:wA P w H h a o)(k: ∀b u,(b=a∨H b=some (.own a))->h.get? b=some u->h'.get? b=some u)
  (ho: ∀b,H b=some (.own a)->H' b=some (.own a)) (ht: ∀b xs,H b=some (.tup xs)->H' b=some (.tup xs)):wA P w H' h' a o:=by
 induction o with
 | lst xs=>obtain⟨z,its,n,r,e⟩:=x;exact⟨z,its,n,r,k _ _ (.inl rfl) e⟩
 | tup xs=>obtain⟨z,its,r,ob,e,c⟩:=x;exact⟨z,its,r,ob,k _ _ (.inl rfl) e,c⟩
 | dK kvs=>obtain⟨z,y,vs,r,ob,es,ep,e,c⟩:=x;exact⟨z,y,vs,r,ob,es,ep,k _ _ (.inl rfl) e,c⟩
 | dT kvs=>
  obtain⟨z,y,xs,r,ob,es,ep,e,c⟩:=x;exact⟨z,y,xs,Paired.mapP r λp q z=>⟨z.1,ht _ _ z.2.1,z.2.2⟩,ob,es,ep,k _ _ (.inl rfl) e,c⟩
 | set S n=>obtain⟨ob,es,ep,t,e,c⟩:=x;exact⟨ob,es,ep,t,k _ _ (.inl rfl) e,c⟩
 | ins C dx fs=>
  obtain⟨d,z,ne,e,mA,⟨od,es,ep,e2,c⟩,r⟩:=x;exact⟨ho _ d,z,ne,k _ _ (.inl rfl) e,mA,⟨od,es,ep,k _ _ (.inr d) e2,c⟩,r⟩
 | own y=>obtain⟨ob,e⟩:=x;exact⟨ob,k _ _ (.inl rfl) e⟩
 | xd fs=>obtain⟨mA,⟨od,es,ep,e,c⟩,r⟩:=x;exact⟨mA,⟨od,es,ep,k _ _ (.inl rfl) e,c⟩,r⟩
 | rng lo hi=>obtain⟨t,u,v,e⟩:=x;exact⟨t,u,v,k _ _ (.inl rfl) e⟩
 | frz ob u ih=>obtain⟨e,q⟩:=x;exact⟨k _ _ (.inl rfl) e,ih q⟩
 | tbl ps=>
  have e:h.get? a=some {cls:= .none,data:= .fields ps} :=x;show h'.get? a=some {cls:= .none,data:= .fields ps};exact k a _ (.inl rfl) e
 | met f y=>
  have e:h.get? a=some (methodObj (.ref f) (.ref y)):=x;show h'.get? a=some (methodObj (.ref f) (.ref y));exact k a _ (.inl rfl) e
 | ext φ=>obtain⟨p,⟨o,e⟩,st⟩:=x;exact⟨st _ _ p λo q=>k _ _ (.inl rfl) q,⟨o,k _ _ (.inl rfl) e⟩,st⟩
theorem xD.lt (x:xD P w H h)(e:H a=some o):a < h.objs.size:=(x a o e).lt
theorem xD.fresh (x:xD P w H h)(e:h.objs.size<=a):H a=none:=by
 cases q:H a with
 | none=>rfl
 | some u=>exact absurd (Nat.lt_of_lt_of_le (x.lt q) e) (Nat.lt_irrefl _)
theorem xD.kept (x:xD P w H h)(k: ∀b u,h.get? b=some u->h'.get? b=some u):xD P w H h':=λa o e=>
 (x a o e).stay (λb u _ q=>k b u q) (λ_ q=>q) λ_ _ q=>q
theorem xD.laid (x:xD P w H h)(k: ∀b u,h.get? b=some u->h'.get? b=some u)(hp:h.objs.size<=a)(new:wA P w (zJ H a o) h' a o):xD P w (zJ H a o) h':=λb u e=>by
 have hn:=x.fresh hp;by_cases hb:b=a
 ·subst hb;rw[yQ]at e;cases e;exact new
 ·rw[yK hb]at e
  exact(x b u e).stay (λc v _ q=>k c v q) (λc q=>by rw[yK (tY q hn)];exact q) λc xs q=>by rw[yK (tY q hn)];exact q
end
def Rd (H:Hp)(a:Addr)(u:HO):Prop:=H a=some u∨∃o,H a=some (.frz o u)
theorem Rd.ok {P:Program}{w:World}{H:Hp}{h:Heap}{a:Addr}{u:HO}(r:Rd H a u)(x:xD P w H h):wA P w H h a u:=by
 rcases r with r | ⟨o,r⟩
 ·exact x a u r
 ·obtain⟨_,q⟩:=x a _ r
  exact q
def nS:Option HO->Prop
 | some (.lst _)=>True
 | some (.dK _)=>True
 | some (.dT _)=>True
 | some (.set _ _)=>True
 | some (.ins _ _ _)=>True
 | some (.ext _)=>True
 | _=>False
section
variable {P:Program} {w:World} {H:Hp} {h h':Heap} {x e:Addr} {o':HO}
theorem xD.write (ok:xD P w H h)(mu:nS (H x))(he:e=x∨H e=some (.own x))(k: ∀b u,b≠e->h.get? b=some u->h'.get? b=some u)(heo: ∃u,h'.get? e=some u)
  (new:wA P w (zJ H x o') h' x o'):xD P w (zJ H x o') h':=λb u q=>by
 have nown: ∀c y,H c=some (.own y)->c≠x:=λc y r z=>by subst z;rw[r]at mu;exact mu
 have ntup: ∀c xs,H c=some (.tup xs)->c≠x:=λc xs r z=>by subst z;rw[r]at mu;exact mu
 by_cases hb:b=x
 ·subst hb;rw[yQ]at q;cases q;exact new
 ·rw[yK hb]at q
  by_cases hbe:b=e
  ·have q':H b=some (.own x):=by
    rcases he with z | z
    ·exact absurd (hbe.trans z) hb
    ·rw[hbe];exact z
   rw[q]at q';cases q';obtain⟨v,hv⟩:=heo;exact⟨v,by rw[hbe];exact hv⟩
  ·refine(ok b u q).stay (λc v hc r=>k c v ?_ r) (λc r=>by rw[yK (nown c b r)];exact r) λc xs r=>by rw[yK (ntup c xs r)];exact r
   rcases hc with rfl | hc
   ·exact hbe
   ·rintro rfl
    rcases he with z | z
    ·exact nown c b hc z
    ·rw[hc]at z;cases z;exact hb rfl
end
structure Un (fs ex:List Addr)(H H':Hp)(h h':Heap):Prop where
 keep: ∀b o,h.get? b=some o->H b=none->b∉fs->b∉ex->h'.get? b=some o
 slot: ∀b o,h.get? b=some o->H b=none->b∈fs->b∉ex->∃sl,h'.get? b=some {o with slots:=sl}
 free: ∀b o,h.get? b=some o->H b=none->b∉ex->H' b=none
 there: ∀b o,h.get? b=some o->b∉ex->∃o',h'.get? b=some o'
 tups: ∀b xs,H b=some (.tup xs)->H' b=some (.tup xs)
 frzs: ∀b o u,H b=some (.frz o u)->H' b=some (.frz o u)
 tbls: ∀b ps,H b=some (.tbl ps)->∃more,H' b=some (.tbl (ps++more))
section
variable {fs fs' ex ex':List Addr} {H H1 H2:Hp} {h h1 h2 h':Heap} {a x e:Addr} {o:HO}
theorem Un.any (u:Un fs ex H H1 h h1){b:Addr}{ob:Obj}(q:h.get? b=some ob)(n:H b=none)(hx:b∉ex): ∃sl,h1.get? b=some {ob with slots:=sl} :=by
 by_cases hb:b∈fs
 ·exact u.slot b ob q n hb hx
 ·exact⟨ob.slots,u.keep b ob q n hb hx⟩
theorem Un.kept (k: ∀b u,h.get? b=some u->h'.get? b=some u):Un fs ex H H h h':=
 ⟨λb ob q _ _ _=>k b ob q,λb ob q _ _ _=>⟨ob.slots,k b ob q⟩,λ_ _ _ n _=>n,λb ob q _=>⟨ob,k b ob q⟩,λ_ _ q=>q,λ_ _ _ q=>q,λ_ ps q=>⟨#[],by rw[q];simp⟩⟩
theorem Un.refl:Un fs ex H H h h:=Un.kept λ_ _ q=>q
theorem Un.laid (k: ∀b u,h.get? b=some u->h'.get? b=some u)(hp:h.objs.size<=a)(hn:H a=none):Un fs ex H (zJ H a o) h h' where
 keep:=λb u q _ _ _=>k b u q
 slot:=λb u q _ _ _=>⟨u.slots,k b u q⟩
 free:=λb u q n _=>by rw[yK (Nat.ne_of_lt (Nat.lt_of_lt_of_le (Heap.lt_size q) hp))];exact n
 there:=λb u q _=>⟨u,k b u q⟩
 tups:=λb xs q=>by rw[yK (tY q hn)];exact q
 frzs:=λb u xs q=>by rw[yK (tY q hn)];exact q
 tbls:=λb ps q=>⟨#[],by rw[yK (tY q hn),q];simp⟩
theorem Un.write (mu:nS (H x))(he:e=x∨H e=some (.own x))(k: ∀b u,b≠e->h.get? b=some u->h'.get? b=some u)(heo: ∃u,h'.get? e=some u):Un fs ex H (zJ H x o) h h':=by
 have hx: ∀b,H b=none->b≠x:=λb n z=>by subst z;rw[n]at mu;exact mu
 have hb: ∀b,H b=none->b≠e:=λb n z=>by
  subst z;rcases he with r | r
  ·exact hx b n r
  ·rw[n]at r;cases r
 have hm: ∀b u,H b=some u->¬ nS (some u)->b≠x:=λb u q nm z=>by subst z;rw[q]at mu;exact nm mu
 refine⟨λb u q n _ _=>k b u (hb b n) q,λb u q n _ _=>⟨u.slots,k b u (hb b n) q⟩,λb u q n _=>by rw[yK (hx b n)];exact n,λb u q _=> ?_,
  λb xs q=>by rw[yK (hm b _ q λz=>z)];exact q,λb u xs q=>by rw[yK (hm b _ q λz=>z)];exact q,λb ps q=>⟨#[],by rw[yK (hm b _ q λz=>z),q];simp⟩⟩
 by_cases hbe:b=e
 ·subst hbe;exact heo
 ·exact⟨u,k b u hbe q⟩
end
def u9 (h:Heap)(H:Hp):List Addr:=(List.range h.objs.size).filter λa=>(H a).isSome
def rK (h:Heap)(H:Hp):Heap:=PySem.W.hideAll h (u9 h H)
theorem zjB (h:Heap)(H:Hp):(rK h H).objs.size=h.objs.size:=PySem.W.hideAll_size _ _
theorem zjA {h:Heap}{H:Hp}{b:Addr}{o:Obj}(e:h.get? b=some o)(n:H b=none):(rK h H).get? b=some o:=
 PySem.W.hideAll_get _ e λhm=>by
  have q:(H b).isSome=true:=(List.mem_filter.mp hm).2;rw[n]at q;simp at q
theorem zla {h:Heap}{H:Hp}{b:Addr}{o:Obj}(e:(rK h H).get? b=some o):h.get? b=some o/\H b=none:=by
 have e':h.get? b=some o:=PySem.W.of_hideAll (u9 h H) e;refine⟨e',?_⟩;cases q:H b with
 | none=>rfl
 | some x=>
  have hm:b∈u9 h H:=List.mem_filter.mpr ⟨List.mem_range.mpr (Heap.lt_size e'),by simp[q]⟩;have z:(rK h H).get? b=none:=PySem.W.hideAll_none (u9 h H) hm;rw[z]at e;cases e
def zhB (g h:Heap)(L:Addr):List (Addr×Obj):=(List.range h.objs.size).filterMap λa=>if a=L∨(g.get? a).isSome=true then none else(h.get? a).map λo=>(a,o)
def yH (g h:Heap)(L d:Addr):List (Addr×Obj):=(zhB g h L).filter λp=>decide (p.1≠d)
end L2
namespace L2
open PySem PySem.Spec PyProof.Rows
structure Mod (K:Frag)(mg:Str->Option Value)(base:Heap):Prop where
 kin:K.In base
 glob:base.Ns mainGlobals mg
 blt: ∃mb,base.Ns builtinsNs mb/\∀x:Str,x≠ "__name__" ->mb x=bootBuiltins x
 nolimit:base.NoLimit
structure Cx where
 prog:Program
 w:World
 K:Frag
 mg:Str->Option Value
 base:Heap
 A:Around
 N:List Str
 s₀:Shared
 H₀:Hp
 env:Env
 outer:List Env
 stack:List Env
 ex:List Addr
 fn:Str->Bool
 calm:Bool
 pn:List (Addr×Obj)
 xe:Value->Shared->Prop
def vJ (l:List Env):List Addr:=l.filterMap (·.frame)
abbrev Cx.fs (X:Cx):List Addr:=vJ X.outer
def gK (sc:Scope)(x:Str):Prop:=sc.names.lookup x=some .local∨sc.names.lookup x=some .cell∨sc.names.lookup x=some .free
def sH (sc:Scope)(x:Str):Prop:=sc.names.lookup x=some .local∨sc.names.lookup x=some .cell
def zh3 (env:Env)(h:Heap)(m:Str->Option Value)(x:Str)(u:Value):Prop:=
 (env.kindOf x=some .local/\m x=some u)∨((env.kindOf x=some .cell∨env.kindOf x=some .free)/\∃c,env.cells.lookup x=some c/\h.IsCell c (some u))
structure Cx.Ok (X:Cx):Prop where
 mod:Mod X.K X.mg X.base
 kind:X.env.scope.kind= .function
 glob:X.env.globals=mainGlobals
 blt:X.env.builtins=builtinsNs
 above:X.s₀.heap.objs.size<=X.env.locals
 inj: ∀x y c,X.env.cells.lookup x=some c->X.env.cells.lookup y=some c->x=y
 has: ∀x,(X.env.kindOf x=some .cell∨X.env.kindOf x=some .free)->∃c,X.env.cells.lookup x=some c
 cab: ∀x c,X.fn x=true->X.env.cells.lookup x=some c->X.s₀.heap.objs.size<=c
 hd:X.calm=true->X.A.handled=none
 frames:X.A.frames=some X.stack
 stk:X.stack=X.outer∨(X.stack=X.env::X.outer/\X.env.frame=some X.env.locals)
 exf: ∀b∈X.ex,b≠X.env.locals/\∀x c,X.env.cells.lookup x=some c->c≠b
 bs: ∀b o,X.base.get? b=some o->X.s₀.heap.get? b=some o/\X.H₀ b=none
 bsz:X.base.objs.size<=X.s₀.heap.objs.size
 noex: ∀b o,X.base.get? b=some o->b∉X.ex
 exfs: ∀b∈X.ex,b∉X.fs
 funs:X.s₀.heap.FunFrames X.base X.outer
 frf: ∀b∈X.fs,X.H₀ b=none
structure z5 (X:Cx)(pins:List (Addr×Obj))(σ:List (Option V))(H:Hp)(s:Shared):Prop where
 ok:X.Ok
 os:s.os=X.s₀.os
 bare:AllBare s.gens
 base:Un X.fs X.ex X.H₀ H X.s₀.heap s.heap
 loc: ∃m,s.heap.Ns X.env.locals m/\∀(i:Nat) (x:Str) (v:V),X.N[i]?=some x->σ[i]?=some (some v)->gK X.env.scope x->∃u,zT v u/\zh3 X.env s.heap m x u
 cell: ∀x c,X.env.cells.lookup x=some c->∃v,s.heap.IsCell c v
 free:H X.env.locals=none
 freeC: ∀x c,X.env.cells.lookup x=some c->H c=none
 pin: ∀p∈X.pn++pins,s.heap.get? p.1=some p.2/\H p.1=none/\p.1≠X.env.locals/\p.1∉X.fs/\∀v,p.2.data≠ .cell v
 hok:xD X.prog X.w H s.heap
 len:σ.length=X.N.length
section
variable {X:Cx} {pins:List (Addr×Obj)} {σ:List (Option V)} {H H':Hp} {s:Shared} {h':Heap}
theorem Cx.Ok.nofr (ok:X.Ok){b:Addr}{o:Obj}(e:X.base.get? b=some o):b∉X.fs:=λhb=>by
 have:=(ok.funs.mem hb).1;rw[e]at this;cases this
theorem z5.bs (I:z5 X pins σ H s): ∀b o,X.base.get? b=some o->s.heap.get? b=some o/\H b=none:=λb o e=>
 ⟨I.base.keep b o (I.ok.bs b o e).1 (I.ok.bs b o e).2 (I.ok.nofr e) (I.ok.noex b o e),I.base.free b o (I.ok.bs b o e).1 (I.ok.bs b o e).2 (I.ok.noex b o e)⟩
theorem z5.bk (I:z5 X pins σ H s): ∀b o,X.base.get? b=some o->s.heap.get? b=some o:=λb o e=>(I.bs b o e).1
theorem z5.mod (I:z5 X pins σ H s):Mod X.K X.mg X.base:=I.ok.mod
theorem z5.kIn (I:z5 X pins σ H s):X.K.In s.heap:=I.ok.mod.kin.keeps I.bk
theorem z5.lt (I:z5 X pins σ H s):X.env.locals < s.heap.objs.size:=let⟨_,hn,_⟩:=I.loc;hn.lt
theorem z5.sz (I:z5 X pins σ H s):X.s₀.heap.objs.size<=s.heap.objs.size:=Nat.le_trans I.ok.above (Nat.le_of_lt I.lt)
theorem z5.nofs (I:z5 X pins σ H s){a:Addr}(h:s.heap.objs.size<=a):a∉X.fs:=λhb=>by
 obtain⟨_,o,ho,_⟩:=I.ok.funs.mem hb;exact absurd (Nat.lt_of_lt_of_le (Heap.lt_size ho) (Nat.le_trans I.sz h)) (Nat.lt_irrefl _)
theorem z5.cne (I:z5 X pins σ H s): ∀x c,X.env.cells.lookup x=some c->c≠X.env.locals:=λx c e z=>by
 obtain⟨v,o,ho,hd⟩:=I.cell x c e;obtain⟨m,⟨o',es,ep,ho',hd',_⟩,_⟩:=I.loc;rw[z,ho']at ho;cases ho;rw[hd']at hd;cases hd
theorem z5.funs (I:z5 X pins σ H s):s.heap.FunFrames X.base X.outer:=by
 have all: ∀(l:List Env),(∀b∈vJ l,b∈X.fs)->X.s₀.heap.FunFrames X.base l->s.heap.FunFrames X.base l:=by
  intro l
  induction l with
  | nil=>intro _ _;trivial
  | cons env r ih=>
   intro hs hl;obtain⟨hk,⟨L,o,hf,hn,ho,hd⟩,hr⟩:=hl;have hL:L∈X.fs:=hs L (by unfold vJ;rw[List.filterMap_cons,hf];exact List.mem_cons_self);obtain⟨sl,e⟩:=I.base.slot L o ho (I.ok.frf L hL) hL λz=>I.ok.exfs L z hL;exact⟨hk,⟨L,_,hf,hn,e,hd⟩,ih (λb hb=>hs b (by unfold vJ;rw[List.filterMap_cons,hf];exact List.mem_cons_of_mem _ hb)) hr⟩
 exact all X.outer (λ_ hb=>hb) I.ok.funs
theorem z5.stack (I:z5 X pins σ H s):s.heap.FunFrames X.base X.stack:=by
 rcases I.ok.stk with e | ⟨e,hf⟩
 ·rw[e];exact I.funs
 ·rw[e]
  obtain⟨m,hn,_⟩:=I.loc;refine .cons (by rw[I.ok.kind];decide) hf hn ?_ I.funs;exact Heap.get?_none_of_le (Nat.le_trans I.ok.bsz I.ok.above)
theorem z5.stkSub (I:z5 X pins σ H s): ∀b∈vJ X.stack,b∈X.env.locals::X.fs:=λb hb=>by
 rcases I.ok.stk with e | ⟨e,hf⟩
 ·rw[e]at hb;exact List.mem_cons_of_mem _ hb
 ·rw[e]at hb
  unfold vJ at hb;rw[List.filterMap_cons,hf]at hb;exact hb
theorem z5.stkFree (I:z5 X pins σ H s): ∀b∈vJ X.stack,H b=none:=λb hb=>by
 rcases List.mem_cons.mp (I.stkSub b hb)with e | hb
 ·rw[e];exact I.free
 ·obtain⟨_,o,ho,_⟩:=I.ok.funs.mem hb
  exact I.base.free b o ho (I.ok.frf b hb) λz=>I.ok.exfs b z hb
theorem z5.step {g':Array GenState}{t':Nat}{d':Drawn}{ch:List Addr}(I:z5 X pins σ H s)
  (hch: ∀b∈ch,(b∈X.ex∨X.s₀.heap.objs.size<=b)/\b≠X.env.locals/\(∀x c,X.env.cells.lookup x=some c->c≠b)/\∀p∈X.pn++pins,p.1≠b)
  (keep: ∀b o,b≠X.env.locals->b∉X.fs->b∉ch->s.heap.get? b=some o->H b=none->h'.get? b=some o)
  (slot: ∀b o,b≠X.env.locals->b∈X.fs->b∉ch->s.heap.get? b=some o->H b=none->∃sl,h'.get? b=some {o with slots:=sl}) (free: ∀b o,b∉ch->s.heap.get? b=some o->H b=none->H' b=none)
  (there: ∀b o,b∉ch->s.heap.get? b=some o->∃o',h'.get? b=some o')
  (tups: ∀b xs,H b=some (.tup xs)->H' b=some (.tup xs)) (frzs: ∀b o u,H b=some (.frz o u)->H' b=some (.frz o u)) (tbls: ∀b ps,H b=some (.tbl ps)->∃more,H' b=some (.tbl (ps++more)))
  (ns: ∀m,s.heap.Ns X.env.locals m->h'.Ns X.env.locals m) (hok:xD X.prog X.w H' h') (hg:AllBare g'):
  z5 X pins σ H' {s with heap:=h',gens:=g',drawn:=d',toks:=t'} :=by
 have neL: ∀b o,X.s₀.heap.get? b=some o->b≠X.env.locals:=λb o e=>Nat.ne_of_lt (Nat.lt_of_lt_of_le (Heap.lt_size e) I.ok.above);have neC: ∀b o,X.s₀.heap.get? b=some o->b∉X.ex->b∉ch:=λb o e hx hb=>by
  rcases(hch b hb).1 with z | z
  ·exact hx z
  ·exact absurd (Nat.lt_of_lt_of_le (Heap.lt_size e) z) (Nat.lt_irrefl _)
 have cellK: ∀x c,X.env.cells.lookup x=some c->∀v,s.heap.IsCell c v->h'.IsCell c v:=λx c e v ⟨o,ho,hd⟩=>by
  have nch:c∉ch:=λz=>(hch c z).2.2.1 x c e rfl;by_cases hc:c∈X.fs
  ·obtain⟨sl,q⟩:=slot c o (I.cne x c e) hc nch ho (I.freeC x c e)
   exact⟨_,q,hd⟩
  ·exact⟨o,keep c o (I.cne x c e) hc nch ho (I.freeC x c e),hd⟩
 refine⟨I.ok,I.os,hg,⟨λb o e n hb hx=> ?_,λb o e n hb hx=> ?_,λb o e n hx=> ?_,λb o e hx=> ?_,λb xs e=>tups b xs (I.base.tups b xs e),λb o xs e=>frzs b o xs (I.base.frzs b o xs e),λb ps e=> ?_⟩,?_,λx c e=> ?_,?_,λx c e=> ?_,λp hp=> ?_,hok,I.len⟩
 ·exact keep b o (neL b o e) hb (neC b o e hx) (I.base.keep b o e n hb hx) (I.base.free b o e n hx)
 ·obtain⟨sl,e1⟩:=I.base.slot b o e n hb hx
  obtain⟨sl',e2⟩:=slot b _ (neL b o e) hb (neC b o e hx) e1 (I.base.free b o e n hx);exact⟨sl',e2⟩
 ·obtain⟨o',e1⟩:=I.base.there b o e hx
  exact free b o' (neC b o e hx) e1 (I.base.free b o e n hx)
 ·obtain⟨o',e1⟩:=I.base.there b o e hx
  exact there b o' (neC b o e hx) e1
 ·obtain⟨m1,e1⟩:=I.base.tbls b ps e
  obtain⟨m2,e2⟩:=tbls b _ e1;exact⟨m1++m2,by rw[e2,Array.append_assoc]⟩
 ·obtain⟨m,hn,hl⟩:=I.loc
  refine⟨m,ns m hn,λi x v e1 e2 e3=> ?_⟩;obtain⟨u,r,l⟩:=hl i x v e1 e2 e3;refine⟨u,r,?_⟩;rcases l with l | ⟨k,c,e,z⟩
  ·exact .inl l
  ·exact .inr ⟨k,c,e,cellK x c e _ z⟩
 ·obtain⟨v,z⟩:=I.cell x c e
  exact⟨v,cellK x c e v z⟩
 ·obtain⟨m,⟨o,_,_,ho,_⟩,_⟩:=I.loc
  exact free _ o (λz=>(hch _ z).2.1 rfl) ho I.free
 ·obtain⟨v,o,ho,hd⟩:=I.cell x c e
  exact free c o (λz=>(hch c z).2.2.1 x c e rfl) ho (I.freeC x c e)
 ·obtain⟨e,n,ne,nf,d⟩:=I.pin p hp
  have nch:p.1∉ch:=λz=>(hch p.1 z).2.2.2 p hp rfl;exact⟨keep p.1 p.2 ne nf nch e n,free p.1 p.2 nch e n,ne,nf,d⟩
theorem z5.un {t':Nat}(I:z5 X pins σ H s)(u:Un X.fs [] H H' s.heap h')(hok:xD X.prog X.w H' h'):z5 X pins σ H' {s with heap:=h',toks:=t'} :=by
 obtain⟨m,⟨o,es,ep,ho,r⟩,_⟩:=id I.loc;obtain⟨sl,hL⟩:=u.any ho I.free (by simp);exact I.step (g':=s.gens) (d':=s.drawn) (ch:= []) (λ_ z=>nomatch z) (λb o _ hb _ e n=>u.keep b o e n hb (by simp)) (λb o _ hb _ e n=>u.slot b o e n hb (by simp)) (λb o _ e n=>u.free b o e n (by simp)) (λb o _ e=>u.there b o e (by simp)) u.tups u.frzs u.tbls (λm' hm=>by
  obtain⟨o',es',ep',ho',r'⟩:=hm;rw[ho]at ho';cases ho';exact⟨_,es',ep',hL,r'⟩) hok I.bare
theorem z5.call {g':Array GenState}{t':Nat}{d':Drawn}{ch:List Addr}(I:z5 X pins σ H s)(u:Un (vJ X.stack) ch H H' s.heap h')(hok:xD X.prog X.w H' h')(hg:AllBare g')
  (hch: ∀b∈ch,(b∈X.ex∨X.s₀.heap.objs.size<=b)/\b≠X.env.locals/\(∀x c,X.env.cells.lookup x=some c->c≠b)/\∀p∈X.pn++pins,p.1≠b):
  z5 X pins σ H' {s with heap:=h',gens:=g',drawn:=d',toks:=t'} :=by
 obtain⟨m,⟨o,es,ep,ho,r⟩,_⟩:=id I.loc;obtain⟨sl,hL⟩:=u.any ho I.free λz=>(hch _ z).2.1 rfl;exact I.step (ch:=ch) hch (λb o hL hb hc e n=>u.keep b o e n (λz=>(List.mem_cons.mp (I.stkSub b z)).elim hL hb) hc) (λb o _ _ hc e n=>u.any e n hc) (λb o hc e n=>u.free b o e n hc) (λb o hc e=>u.there b o e hc) u.tups u.frzs u.tbls (λm' hm=>by
  obtain⟨o',es',ep',ho',r'⟩:=hm;rw[ho]at ho';cases ho';exact⟨_,es',ep',hL,r'⟩) hok hg
theorem z5.turned {t':Nat}{it:Addr}(I:z5 X pins σ H s)(k: ∀b o,b≠it->s.heap.get? b=some o->h'.get? b=some o)(hn:H it=none)(hL:it≠X.env.locals)
  (h1:it∈X.ex∨X.s₀.heap.objs.size<=it) (h2: ∀x c,X.env.cells.lookup x=some c->c≠it) (h3: ∀p∈X.pn++pins,p.1≠it):z5 X pins σ H {s with heap:=h',toks:=t'} :=by
 have nit: ∀b u,H b=some u->b≠it:=λb u e z=>by rw[z,hn]at e;cases e
 refine I.step (g':=s.gens) (d':=s.drawn) (ch:= [it]) (λb hb=> ?_) (λb o _ _ hc e _=>k b o (λz=>hc (by simp[z])) e) (λb o _ _ hc e _=>⟨o.slots,k b o (λz=>hc (by simp[z])) e⟩) (λ_ _ _ _ n=>n)
  (λb o hc e=>⟨o,k b o (λz=>hc (by simp[z])) e⟩) (λ_ _ e=>e) (λ_ _ _ e=>e) (λb ps e=>⟨#[],by rw[e];simp⟩) (λm hm=> ?_) (λb u e=> ?_) I.bare
 ·have e:b=it:=by simpa using hb
  subst e;exact⟨h1,hL,h2,h3⟩
 ·obtain⟨o,es,ep,ho,r⟩:=hm
  exact⟨o,es,ep,k _ o (Ne.symm hL) ho,r⟩
 ·refine(I.hok b u e).stay (λc v hc q=>k c v ?_ q) (λ_ q=>q) λ_ _ q=>q
  rcases hc with z | z
  ·rw[z];exact nit b u e
  ·exact nit c _ z
theorem z5.tok (I:z5 X pins σ H s)(t:Nat):z5 X pins σ H {s with toks:=t} :=I.un (h':=s.heap) (t':=t) Un.refl I.hok
theorem z5.kept {t':Nat}(I:z5 X pins σ H s)(k: ∀b u,s.heap.get? b=some u->h'.get? b=some u):z5 X pins σ H {s with heap:=h',toks:=t'} :=I.un (Un.kept k) (I.hok.kept k)
theorem z5.laid {a:Addr}{o:HO}{t':Nat}(I:z5 X pins σ H s)(k: ∀b u,s.heap.get? b=some u->h'.get? b=some u)(hp:s.heap.objs.size<=a)(new:wA X.prog X.w (zJ H a o) h' a o):
  z5 X pins σ (zJ H a o) {s with heap:=h',toks:=t'} :=I.un (Un.laid k hp (I.hok.fresh hp)) (I.hok.laid k hp new)
theorem z5.write {x e:Addr}{o:HO}{t':Nat}(I:z5 X pins σ H s)(mu:nS (H x))(he:e=x∨H e=some (.own x))(k: ∀b u,b≠e->s.heap.get? b=some u->h'.get? b=some u)(heo: ∃u,h'.get? e=some u)
  (new:wA X.prog X.w (zJ H x o) h' x o):z5 X pins σ (zJ H x o) {s with heap:=h',toks:=t'} :=I.un (Un.write mu he k heo) (I.hok.write mu he k heo new)
theorem z5.pins_of {pins':List (Addr×Obj)}(I:z5 X pins σ H s)(h: ∀p∈pins',s.heap.get? p.1=some p.2/\H p.1=none/\p.1≠X.env.locals/\p.1∉X.fs/\∀v,p.2.data≠ .cell v):z5 X pins' σ H s:=
 ⟨I.ok,I.os,I.bare,I.base,I.loc,I.cell,I.free,I.freeC,λp hp=>(List.mem_append.mp hp).elim (λz=>I.pin p (List.mem_append_left _ z)) (h p),I.hok,I.len⟩
theorem zeK {N:List Str}(hN:N.Nodup){i j:Nat}{x:Str}(a:N[i]?=some x)(b:N[j]?=some x):i=j:=by
 obtain⟨h1,e1⟩:=List.getElem?_eq_some_iff.mp a;obtain⟨h2,e2⟩:=List.getElem?_eq_some_iff.mp b;exact(List.getElem_inj hN).mp (e1.trans e2.symm)
theorem zgg {M:Model}{A:Around}{E:Value->Shared->Prop}{i:Nat}{x:Str}{v:V}{u:Value}{Q:Unit->Shared->Prop}(I:z5 X pins σ H s)(hN:X.N.Nodup)(hi:X.N[i]?=some x)(hx:sH X.env.scope x)(r:zT v u)
  (h: ∀s',z5 X pins (σ.set i (some v)) H s'->(∃a,Heap.SameBut a s.heap s'.heap/\(a=X.env.locals∨X.env.cells.lookup x=some a))->Q () s') (hf:X.fn x=true∨X.env.scope.names.lookup x=some .local:=by first | exact .inl rfl | exact .inr rfl | assumption):wpAny M A (storeName X.env x u) Q E s:=by
 obtain⟨m,hn,hl⟩:=id I.loc;have hcls:(X.env.scope.kind== .class||(X.env.scope.kind== .module&&X.env.locals !=X.env.globals))=false:=by rw[I.ok.kind];rfl
 have hiσ:i < σ.length:=by rw[I.len];exact(List.getElem?_eq_some_iff.mp hi).1
 have cne:=I.cne;have tracked: ∀{a:Addr} {h':Heap},(∃o,s.heap.get? a=some o/\H a=none)->Heap.SameBut a s.heap h'->xD X.prog X.w H h':=λ{a h'} ha hs b ob e=>by
  obtain⟨_,_,hfree⟩:=ha;refine(I.hok b ob e).stay (λc w' hc q=>(hs.2 c ?_).trans q) (λ_ q=>q) λ_ _ q=>q;rintro rfl;rcases hc with rfl | hc
  ·rw[hfree]at e;cases e
  ·rw[hfree]at hc;cases hc
 rcases hx with hk | hk
 ·refine wpAny_storeName_local hk hn (λh' hn' hs=> ?_) hcls
  obtain⟨oL,_,_,hoL,_⟩:=id hn;refine h _ ⟨I.ok,I.os,I.bare,⟨λb o e n hb hx=> ?_,λb o e n hb hx=> ?_,I.base.free,λb o e hx=> ?_,I.base.tups,I.base.frzs,I.base.tbls⟩,⟨_,hn',λj y v' e1 e2 e3=> ?_⟩,λy c e=> ?_,I.free,I.freeC,λp hp=> ?_,tracked ⟨oL,hoL,I.free⟩ hs,by simpa using I.len⟩ ⟨_,hs,.inl rfl⟩
  ·exact(hs.2 b (Nat.ne_of_lt (Nat.lt_of_lt_of_le (Heap.lt_size e) I.ok.above))).trans (I.base.keep b o e n hb hx)
  ·obtain⟨sl,e1⟩:=I.base.slot b o e n hb hx
   exact⟨sl,(hs.2 b (Nat.ne_of_lt (Nat.lt_of_lt_of_le (Heap.lt_size e) I.ok.above))).trans e1⟩
  ·obtain⟨o',e1⟩:=I.base.there b o e hx
   exact⟨o',(hs.2 b (Nat.ne_of_lt (Nat.lt_of_lt_of_le (Heap.lt_size e) I.ok.above))).trans e1⟩
  ·by_cases hj:j=i
   ·subst hj
    rw[hi]at e1;cases e1;rw[List.getElem?_set_self hiσ]at e2;cases e2;exact⟨u,r,.inl ⟨hk,by simp⟩⟩
   ·rw[List.getElem?_set_ne (Ne.symm hj)]at e2
    obtain⟨u',r',q⟩:=hl j y v' e1 e2 e3;refine⟨u',r',?_⟩;rcases q with⟨k,e⟩ | ⟨k,c,e,z⟩
    ·refine .inl ⟨k,?_⟩
     have:y≠x:=λe=>hj (zeK hN e1 (e▸hi));simp[this,e]
    ·exact .inr ⟨k,c,e,z.sameBut hs (cne y c e)⟩
  ·obtain⟨w',z⟩:=I.cell y c e
   exact⟨w',z.sameBut hs (cne y c e)⟩
  ·obtain⟨e,n,ne,nf,d⟩:=I.pin p hp
   exact⟨(hs.2 p.1 ne).trans e,n,ne,nf,d⟩
 ·have hfn:X.fn x=true:=by
   rcases hf with z | z
   ·exact z
   ·rw[z]at hk;cases hk
  obtain⟨c,hc⟩:=I.ok.has x (.inl hk);obtain⟨w',z⟩:=I.cell x c hc;refine wpAny_storeName_cell I.ok.kind hk hc z (λh' hc' hs=> ?_);obtain⟨oc,hoc,hocd⟩:=id z;refine h {s with heap:=h'} ⟨I.ok,I.os,I.bare,⟨λb o e n hb hx=> ?_,λb o e n hb hx=> ?_,I.base.free,λb o e hx=> ?_,I.base.tups,I.base.frzs,I.base.tbls⟩,⟨m,hn.sameBut hs (Ne.symm (cne x c hc)),λj y v' e1 e2 e3=> ?_⟩,λy c' e=> ?_,I.free,I.freeC,λp hp=> ?_,tracked ⟨oc,hoc,I.freeC x c hc⟩ hs,by simpa using I.len⟩ ⟨c,hs,.inr hc⟩
  ·exact(hs.2 b (Nat.ne_of_lt (Nat.lt_of_lt_of_le (Heap.lt_size e) (I.ok.cab x c hfn hc)))).trans (I.base.keep b o e n hb hx)
  ·obtain⟨sl,e1⟩:=I.base.slot b o e n hb hx
   exact⟨sl,(hs.2 b (Nat.ne_of_lt (Nat.lt_of_lt_of_le (Heap.lt_size e) (I.ok.cab x c hfn hc)))).trans e1⟩
  ·obtain⟨o',e1⟩:=I.base.there b o e hx
   exact⟨o',(hs.2 b (Nat.ne_of_lt (Nat.lt_of_lt_of_le (Heap.lt_size e) (I.ok.cab x c hfn hc)))).trans e1⟩
  ·by_cases hj:j=i
   ·subst hj
    rw[hi]at e1;cases e1;rw[List.getElem?_set_self hiσ]at e2;cases e2;exact⟨u,r,.inr ⟨.inl hk,c,hc,hc'⟩⟩
   ·rw[List.getElem?_set_ne (Ne.symm hj)]at e2
    obtain⟨u',r',q⟩:=hl j y v' e1 e2 e3;refine⟨u',r',?_⟩;rcases q with q | ⟨k,c',e,z'⟩
    ·exact .inl q
    ·refine .inr ⟨k,c',e,z'.sameBut hs ?_⟩
     rintro rfl;exact hj (zeK hN e1 (I.ok.inj _ _ _ e hc▸hi))
  ·by_cases hcc:c'=c
   ·subst hcc;exact⟨_,hc'⟩
   ·obtain⟨w2,z2⟩:=I.cell y c' e
    exact⟨w2,z2.sameBut hs hcc⟩
  ·obtain⟨e,n,ne,nf,d⟩:=I.pin p hp
   refine⟨(hs.2 p.1 ?_).trans e,n,ne,nf,d⟩;intro q;rw[q,hoc]at e;have q':oc=p.2:=Option.some.inj e;exact d w' (by rw[<- q'];exact hocd)
theorem iG {M:Model}{A:Around}{E:Value->Shared->Prop}{i:Nat}{x:Str}{v:V}{u:Value}{Q:Unit->Shared->Prop}(I:z5 X pins σ H s)(hN:X.N.Nodup)(hi:X.N[i]?=some x)(hx:sH X.env.scope x)(r:zT v u)
  (h: ∀s',z5 X pins (σ.set i (some v)) H s'->Q () s') (hf:X.fn x=true∨X.env.scope.names.lookup x=some .local:=by first | exact .inl rfl | exact .inr rfl | assumption):wpAny M A (storeName X.env x u) Q E s:=
 zgg I hN hi hx r (λs' I' _=>h s' I') hf
theorem z5.call' {s':Shared}{ch:List Addr}(I:z5 X pins σ H s)(ho:s'.os=s.os)(u:Un (vJ X.stack) ch H H' s.heap s'.heap)(hok:xD X.prog X.w H' s'.heap)(hg:AllBare s'.gens)
  (hch: ∀b∈ch,(b∈X.ex∨X.s₀.heap.objs.size<=b)/\b≠X.env.locals/\(∀x c,X.env.cells.lookup x=some c->c≠b)/\∀p∈X.pn++pins,p.1≠b):z5 X pins σ H' s':=by
 obtain⟨h',g',d',t',o'⟩:=s';have e:o'=s.os:=ho;subst e;exact I.call (g':=g') (t':=t') (d':=d') u hok hg hch
end
abbrev XK:=Value->Option Addr->Hp->Prop
abbrev St:=List (Option V)
abbrev VK:=V->Hp->Prop
abbrev TE:=St->Hp->VK->Prop
abbrev TT:=St->Hp->(Bool->Hp->Prop)->Prop
abbrev TA:=St->Hp->(List V->Hp->Prop)->Prop
structure sG where
 nx:St->Hp->Prop
 rt:VK
 bk:St->Hp->Prop:=λ_ _=>False
 ct:St->Hp->Prop:=λ_ _=>False
abbrev TS:=sG->St->Hp->Prop
def EP (X:Cx)(pins:List (Addr×Obj))(σ:St)(Q:VK)(u:Value)(s':Shared):Prop:= ∃v H',z5 X pins σ H' s'/\zT v u/\Q v H'
def TP (X:Cx)(pins:List (Addr×Obj))(σ:St)(Q:Bool->Hp->Prop)(b:Bool)(s':Shared):Prop:= ∃H',z5 X pins σ H' s'/\Q b H'
def AP (X:Cx)(pins:List (Addr×Obj))(σ:St)(Q:List V->Hp->Prop)(us:List Value)(s':Shared):Prop:= ∃vs H',z5 X pins σ H' s'/\zH vs us/\Q vs H'
def SP (X:Cx)(pins:List (Addr×Obj))(D:sG)(f:Flow)(s':Shared):Prop:=
 match f with
 | .next=> ∃σ' H',z5 X pins σ' H' s'/\D.nx σ' H'
 | .brk=> ∃σ' H',z5 X pins σ' H' s'/\D.bk σ' H'
 | .cont=> ∃σ' H',z5 X pins σ' H' s'/\D.ct σ' H'
 | .ret u=> ∃v σ' H',z5 X pins σ' H' s'/\zT v u/\D.rt v H'
structure PE (X:Cx)(e:Expr)(t:TE):Prop where
 run:
  ∀(pins:List (Addr×Obj)) (s:Shared) (σ:St) (H:Hp) (Q:VK),z5 X pins σ H s->t σ H Q->wpAny (model X.prog X.w) X.A (eval e X.env) (EP X pins σ Q) X.xe s
instance {X:Cx} {e:Expr} {t:TE} :CoeFun (PE X e t) λ_=>
 ∀(pins:List (Addr×Obj)) (s:Shared) (σ:St) (H:Hp) (Q:VK),z5 X pins σ H s->t σ H Q->wpAny (model X.prog X.w) X.A (eval e X.env) (EP X pins σ Q) X.xe s
  :=⟨PE.run⟩
structure PT (X:Cx)(e:Expr)(t:TT):Prop where
 run:
  ∀(pins:List (Addr×Obj)) (s:Shared) (σ:St) (H:Hp) (Q:Bool->Hp->Prop),z5 X pins σ H s->t σ H Q->wpAny (model X.prog X.w) X.A (isTrue e X.env (eval e X.env)) (TP X pins σ Q) X.xe s
instance {X:Cx} {e:Expr} {t:TT} :CoeFun (PT X e t) λ_=>
 ∀(pins:List (Addr×Obj)) (s:Shared) (σ:St) (H:Hp) (Q:Bool->Hp->Prop),z5 X pins σ H s->t σ H Q->wpAny (model X.prog X.w) X.A (isTrue e X.env (eval e X.env)) (TP X pins σ Q) X.xe s
  :=⟨PT.run⟩
structure PW (X:Cx)(e:Expr)(t:TT):Prop where
 run:
  ∀(whole:Sem Value) (pins:List (Addr×Obj)) (s:Shared) (σ:St) (H:Hp) (Q:Bool->Hp->Prop),z5 X pins σ H s->t σ H Q->wpAny (model X.prog X.w) X.A (isTrue e X.env whole) (TP X pins σ Q) X.xe s
instance {X:Cx} {e:Expr} {t:TT} :CoeFun (PW X e t) λ_=>
 ∀(whole:Sem Value) (pins:List (Addr×Obj)) (s:Shared) (σ:St) (H:Hp) (Q:Bool->Hp->Prop),z5 X pins σ H s->t σ H Q->wpAny (model X.prog X.w) X.A (isTrue e X.env whole) (TP X pins σ Q) X.xe s
  :=⟨PW.run⟩
theorem PW.pt {X:Cx}{e:Expr}{t:TT}(h:PW X e t):PT X e t:=⟨h.run _⟩
structure PA (X:Cx)(es:List Expr)(t:TA):Prop where
 run:
  ∀(pos:Pos) (pins:List (Addr×Obj)) (s:Shared) (σ:St) (H:Hp) (Q:List V->Hp->Prop),z5 X pins σ H s->t σ H Q->wpAny (model X.prog X.w) X.A (spliced (backTo pos (starEach es X.env))) (AP X pins σ Q) X.xe s
instance {X:Cx} {es:List Expr} {t:TA} :CoeFun (PA X es t) λ_=>
 ∀(pos:Pos) (pins:List (Addr×Obj)) (s:Shared) (σ:St) (H:Hp) (Q:List V->Hp->Prop),z5 X pins σ H s->t σ H Q->wpAny (model X.prog X.w) X.A (spliced (backTo pos (starEach es X.env))) (AP X pins σ Q) X.xe s
  :=⟨PA.run⟩
structure PS (X:Cx)(st:Stmt)(t:TS):Prop where
 run:
  ∀(pins:List (Addr×Obj)) (s:Shared) (σ:St) (H:Hp) (D:sG),z5 X pins σ H s->t D σ H->wpAny (model X.prog X.w) X.A (exec st X.env) (SP X pins D) X.xe s
instance {X:Cx} {st:Stmt} {t:TS} :CoeFun (PS X st t) λ_=>
 ∀(pins:List (Addr×Obj)) (s:Shared) (σ:St) (H:Hp) (D:sG),z5 X pins σ H s->t D σ H->wpAny (model X.prog X.w) X.A (exec st X.env) (SP X pins D) X.xe s
  :=⟨PS.run⟩
structure xI (X:Cx)(st:List Stmt)(t:TS):Prop where
 run:
  ∀(pins:List (Addr×Obj)) (s:Shared) (σ:St) (H:Hp) (D:sG),z5 X pins σ H s->t D σ H->wpAny (model X.prog X.w) X.A (execs st X.env) (SP X pins D) X.xe s
instance {X:Cx} {st:List Stmt} {t:TS} :CoeFun (xI X st t) λ_=>
 ∀(pins:List (Addr×Obj)) (s:Shared) (σ:St) (H:Hp) (D:sG),z5 X pins σ H s->t D σ H->wpAny (model X.prog X.w) X.A (execs st X.env) (SP X pins D) X.xe s
  :=⟨xI.run⟩
theorem zU {α:Type}{t:Sem α}{Q Q':α->Shared->Prop}{M:Model}{A:Around}{E:Value->Shared->Prop}{s:Shared}(h:wpAny M A t Q E s)(hQ: ∀a s,Q a s->Q' a s):wpAny M A t Q' E s:=wpAny_mono h hQ λ_ _ x=>x
end L2
namespace L2
open PySem PySem.Spec PyProof.Rows
section
variable {X:Cx}
def iJ (i:Nat):TE:=λσ H Q=> ∃v,σ[i]?=some (some v)/\Q v H
def tC (v:V):TE:=λ_ H Q=>Q v H
theorem zay {i:Nat}{x:Str}{pos:Pos}(hN:X.N[i]?=some x)(hv:gK X.env.scope x)(hd:(x==("__debug__" :Str))=false:=by decide)(hcd:(x==("__classdict__" :Str))=false:=by decide):PE X (.Name x pos) (iJ i):=by
 (first | refine⟨?_⟩ | skip)
 intro pins s σ H Q I h;obtain⟨v,e,h⟩:=h;obtain⟨m,hn,hl⟩:=I.loc;obtain⟨u,r,l⟩:=hl i x v hN e hv;have fin:EP X pins σ Q u s:=⟨v,H,I,r,h⟩;rcases l with⟨hk,hm⟩ | ⟨hk,c,hc,hcell⟩
 ·exact wpAny_Name (wpAny_loadName_local I.ok.kind hk hn hm fin) hd
 ·rcases hk with hk | hk
  ·exact wpAny_Name (wpAny_loadName_cell I.ok.kind hk hc hcell fin) hd
  ·exact wpAny_Name (wpAny_loadName_free I.ok.kind hk hc hcell fin hcd) hd
theorem zlU {i j pos} :PE X (.Constant (.int i) j pos) (tC (.int i)):=⟨λ_ _ _ H _ I h=>wpAny_Constant_int ⟨.int i,H,I.tok _,⟨_,rfl⟩,h⟩⟩
theorem zlJ {b j pos} :PE X (.Constant (.bool b) j pos) (tC (.bl b)):=⟨λ_ _ _ H _ I h=>Constant_bool ⟨.bl b,H,I,rfl,h⟩⟩
theorem zax {x j pos} :PE X (.Constant (.str x) j pos) (tC (.str x)):=⟨λ_ _ _ H _ I h=>Calls.Constant_str ⟨.str x,H,I.tok _,⟨_,rfl⟩,h⟩⟩
def Gl (X:Cx)(x:Str):Prop:=X.env.kindOf x=some .globalImplicit
theorem zkl {E:Value->Shared->Prop}{pins:List (Addr×Obj)}{s:Shared}{σ:St}{H:Hp}{x:Str}{u:Value}{pos:Pos}{Q:Value->Shared->Prop}(I:z5 X pins σ H s)(hg:Gl X x)(hm:X.mg x=some u)(h:Q u s)
  (hd:(x==("__debug__" :Str))=false:=by decide):wpAny (model X.prog X.w) X.A (eval (.Name x pos) X.env) Q E s:=
 Calls.Name_function_global I.ok.kind hg (Calls.loadGlobal_global (by rw[I.ok.glob];exact I.mod.glob.keeps I.bk) hm h) hd
theorem tX {E:Value->Shared->Prop}{pins:List (Addr×Obj)}{s:Shared}{σ:St}{H:Hp}{x:Str}{u:Value}{pos:Pos}{Q:Value->Shared->Prop}(I:z5 X pins σ H s)(hg:Gl X x)(hm:X.mg x=none)(hv:bootBuiltins x=some u)(h:Q u s)
  (hn:x≠ "__name__" :=by decide) (hd:(x==("__debug__" :Str))=false:=by decide):wpAny (model X.prog X.w) X.A (eval (.Name x pos) X.env) Q E s:=by
 obtain⟨mb,h1,h2⟩:=I.mod.blt;exact Calls.Name_function_global I.ok.kind hg (Calls.loadGlobal_builtin (by rw[I.ok.glob];exact I.mod.glob.keeps I.bk) hm (by rw[I.ok.blt];exact h1.keeps I.bk) ((h2 x hn).trans hv) h) hd
theorem zlK {x:Str}{v:V}{u:Value}{pos:Pos}(hg:Gl X x)(hm:X.mg x=none)(hv:bootBuiltins x=some u)(r:zT v u)(hn:x≠ "__name__" :=by decide)(hd:(x==("__debug__" :Str))=false:=by decide):PE X (.Name x pos) (tC v):=
 ⟨λ_ _ _ H _ I h=>tX I hg hm hv ⟨v,H,I,r,h⟩ hn hd⟩
variable {a b:Expr} {ta tb:TE} {pos:Pos}
structure PC (X:Cx)(op:CmpOp)(a b:Expr)(t:TE):Prop where
 run:
  ∀(pins:List (Addr×Obj)) (s:Shared) (σ:St) (H:Hp) (Q:VK),z5 X pins σ H s->t σ H Q->
   wpAny (model X.prog X.w) X.A (eval a X.env) (λv s₁=>wpAny (model X.prog X.w) X.A (eval b X.env) (λu s₂=>wpAny (model X.prog X.w) X.A (compareOp op v u) (EP X pins σ Q) X.xe s₂) X.xe s₁) X.xe s
instance {X:Cx} {op:CmpOp} {a b:Expr} {t:TE} :CoeFun (PC X op a b t) λ_=>
 ∀(pins:List (Addr×Obj)) (s:Shared) (σ:St) (H:Hp) (Q:VK),z5 X pins σ H s->t σ H Q->
  wpAny (model X.prog X.w) X.A (eval a X.env) (λv s₁=>wpAny (model X.prog X.w) X.A (eval b X.env) (λu s₂=>wpAny (model X.prog X.w) X.A (compareOp op v u) (EP X pins σ Q) X.xe s₂) X.xe s₁) X.xe s
  :=⟨PC.run⟩
variable {tA tB':TT} {yH:List Expr}
def zgo (t u:TT):TT:=λσ H Q=>t σ H λc H1=>if c=true then u σ H1 Q else Q false H1
def tOr (t u:TT):TT:=λσ H Q=>t σ H λc H1=>if c=true then Q true H1 else u σ H1 Q
def zoa (t:TT):TT:=λσ H Q=>t σ H λc H1=>Q (!c) H1
theorem zmB (ha:PT X a tA):PW X (.BoolOp .And [a] pos) tA:=by
 (first | refine⟨?_⟩ | skip)
 intro wh pins s σ H Q I h;refine isTrue_and (zU (ha pins s σ H Q I h) λc s1 e=> ?_);cases c with
 | true=>exact isTrue_and_nil e
 | false=>exact e
theorem zmD (ha:PT X a tA):PW X (.BoolOp .Or [a] pos) tA:=by
 (first | refine⟨?_⟩ | skip)
 intro wh pins s σ H Q I h;refine isTrue_or (zU (ha pins s σ H Q I h) λc s1 e=> ?_);cases c with
 | false=>exact isTrue_or_nil e
 | true=>exact e
theorem zmA (ha:PT X a tA)(hb:PW X (.BoolOp .And (b::yH) pos) tB'):PW X (.BoolOp .And (a::b::yH) pos) (zgo tA tB'):=by
 (first | refine⟨?_⟩ | skip)
 intro wh pins s σ H Q I h;refine isTrue_and (zU (ha pins s σ H _ I h) λc s1 ⟨H1,I1,q1⟩=> ?_);cases c with
 | true=>exact hb wh pins s1 σ H1 Q I1 q1
 | false=>exact⟨H1,I1,q1⟩
theorem zmC (ha:PT X a tA)(hb:PW X (.BoolOp .Or (b::yH) pos) tB'):PW X (.BoolOp .Or (a::b::yH) pos) (tOr tA tB'):=by
 (first | refine⟨?_⟩ | skip)
 intro wh pins s σ H Q I h;refine isTrue_or (zU (ha pins s σ H _ I h) λc s1 ⟨H1,I1,q1⟩=> ?_);cases c with
 | true=>exact⟨H1,I1,q1⟩
 | false=>exact hb wh pins s1 σ H1 Q I1 q1
theorem zm8 (ha:PT X a tA):PT X (.UnaryOp .Not a pos) (zoa tA):=by
 (first | refine⟨?_⟩ | skip)
 intro pins s σ H Q I h;exact isTrue_not (ha pins s σ H (λc H1=>Q (!c) H1) I h)
def znL (ta tb:TE):TE:=λσ H Q=>ta σ H λx H1=> ∃c,x= .bl c/\if c=true then tb σ H1 Q else Q (.bl false) H1
theorem zlZ {op}{t:TE}(h:PE X a t):PE X (.BoolOp op [a] pos) t:=⟨λpins s σ H Q I hw=>BoolOp_one (h pins s σ H Q I hw)⟩
theorem zlI (ha:PE X a ta)(hb:PE X (.BoolOp .And (b::yH) pos) tb):PE X (.BoolOp .And (a::b::yH) pos) (znL ta tb):=by
 (first | refine⟨?_⟩ | skip)
 intro pins s σ H Q I h;refine BoolOp_and (zU (ha pins s σ H _ I h) λv s1 ⟨x,H1,I1,r1,q1⟩=> ?_);obtain⟨c,rfl,q1⟩:=q1;cases r1;refine wpAny_truthy_bool ?_;cases c with
 | true=>exact hb pins s1 σ H1 Q I1 q1
 | false=>exact⟨.bl false,H1,I1,rfl,q1⟩
end
end L2
namespace L2
open PySem PySem.Spec PyProof.Rows
def yW (K:Frag)(H:Hp)(a:Addr)(xs:List V):Prop:=
 Rd H a (.lst xs)∨
  ∃(o:Obj) (its:Array Value) (n:Nat),K.lookup a=some o/\o.cls= .type "list" /\o.dict=none/\o.data= .seq its n/\its.size<=sizeLine/\zH xs its.toList/\o.slots= #[]
def xQ (K:Frag)(H:Hp)(a:Addr)(xs:List V):Prop:=
 Rd H a (.tup xs)∨
  ∃(o:Obj) (its:Array Value) (n:Nat),K.lookup a=some o/\o.cls= .type "tuple" /\o.dict=none/\o.data= .seq its n/\its.size<=sizeLine/\zH xs its.toList
def zh9:Value->Option V
 | .none=>some .non
 | .bool b=>some (.bl b)
 | .int i _=>some (.int i)
 | .str x _=>some (.str x)
 | .bytes b _=>some (.byt b)
 | .float b _=>some (.flt b)
 | .ref a=>some (.ref a)
 | .type n=>some (.ty n)
 | _=>none
theorem zT.abs {x:V}{u:Value}(r:zT x u):zh9 u=some x:=by
 cases x with
 | non=>cases r;rfl
 | bl _=>cases r;rfl
 | int _=>obtain⟨t,rfl⟩:=r;rfl
 | str _=>obtain⟨t,rfl⟩:=r;rfl
 | byt _=>obtain⟨t,rfl⟩:=r;rfl
 | flt _=>obtain⟨t,rfl⟩:=r;rfl
 | ref _=>cases r;rfl
 | ty _=>cases r;rfl
theorem zT.inj {x y:V}{u:Value}(r:zT x u)(q:zT y u):x=y:=Option.some.inj (r.abs.symm.trans q.abs)
theorem zH.inj: ∀{xs ys:List V} {us:List Value},zH xs us->zH ys us->xs=ys
 | _,_,_,.nil,.nil=>rfl
 | _,_,_,.cons r t,.cons r' t'=>by rw[r.inj r',zH.inj t t']
section
variable {X:Cx} {pins:List (Addr×Obj)} {σ:St} {H:Hp} {s:Shared} {a:Addr} {xs ys:List V}
theorem yW.of {K:Frag}(h:H a=some (.lst xs)):yW K H a xs:= .inl (.inl h)
theorem z5.list (I:z5 X pins σ H s)(h:yW X.K H a xs): ∃its:List Value,zH xs its/\PlainL s.heap a its.toArray/\xs.length<=sizeLine:=by
 rcases h with h | ⟨o,its,n,hk,hc,hd,hs,hz,r,_⟩
 ·obtain⟨z,its,n,r,e⟩:=h.ok I.hok
  exact⟨its,r,⟨_,n,e,rfl,rfl,rfl⟩,z⟩
 ·refine⟨its.toList,r,⟨o,n,I.kIn a o hk,hc,hd,by simpa using hs⟩,?_⟩
  have e:=r.length;simp only[Array.length_toList]at e;omega
theorem z5.tuple (I:z5 X pins σ H s)(h:xQ X.K H a xs): ∃its:List Value,zH xs its/\IsTup s.heap a its.toArray/\xs.length<=sizeLine:=by
 rcases h with h | ⟨o,its,n,hk,hc,_,hs,hz,r⟩
 ·obtain⟨z,its,r,p⟩:=h.ok I.hok
  exact⟨its,r,p.tup,z⟩
 ·refine⟨its.toList,r,⟨o,I.kIn a o hk,hc,n,by simpa using hs⟩,?_⟩
  have e:=r.length;simp only[Array.length_toList]at e;omega
theorem z5.listX (I:z5 X pins σ H s)(h:yW X.K H a xs): ∃(its:List Value) (n:Nat),zH xs its/\s.heap.get? a=some {cls:= .type "list",data:= .seq its.toArray n} /\xs.length<=sizeLine:=by
 rcases h with h | ⟨o,its,n,hk,hc,hd,hs,hz,r,hsl⟩
 ·obtain⟨z,its,n,r,e⟩:=h.ok I.hok
  exact⟨its,n,r,e,z⟩
 ·obtain⟨cls,dict,data,slots⟩:=o
  dsimp only at hc hd hs hsl;subst hc hd hs hsl;refine⟨its.toList,n,r,by simpa using I.kIn a _ hk,?_⟩;have e:=r.length;simp only[Array.length_toList]at e;omega
theorem z5.tupleD (I:z5 X pins σ H s)(h:xQ X.K H a xs): ∃its:List Value,zH xs its/\tD s.heap a its.toArray/\xs.length<=sizeLine:=by
 rcases h with h | ⟨o,its,n,hk,hc,hd,hs,hz,r⟩
 ·obtain⟨z,its,r,p⟩:=h.ok I.hok
  exact⟨its,r,p,z⟩
 ·refine⟨its.toList,r,⟨o,I.kIn a o hk,hc,n,by simpa using hs,hd⟩,?_⟩
  have e:=r.length;simp only[Array.length_toList]at e;omega
theorem z5.list_inj (I:z5 X pins σ H s)(h:yW X.K H a xs)(h':yW X.K H a ys):xs=ys:=by
 obtain⟨its,r,⟨o,n,e,_,_,d⟩,_⟩:=I.list h;obtain⟨its',r',⟨o',n',e',_,_,d'⟩,_⟩:=I.list h';rw[e]at e';cases e';rw[d]at d';injection d' with d1 _
 have:its=its':=by simpa using congrArg Array.toList d1
 subst this;exact r.inj r'
theorem z5.tuple_inj (I:z5 X pins σ H s)(h:xQ X.K H a xs)(h':xQ X.K H a ys):xs=ys:=by
 obtain⟨its,r,⟨o,e,_,n,d⟩,_⟩:=I.tuple h;obtain⟨its',r',⟨o',e',_,n',d'⟩,_⟩:=I.tuple h';rw[e]at e';cases e';rw[d]at d';injection d' with d1 _
 have:its=its':=by simpa using congrArg Array.toList d1
 subst this;exact r.inj r'
end
abbrev Cx.wish (X:Cx)(E:Value->Shared->Prop):Cx:= {X with xe:=E}
abbrev Cx.nox (X:Cx):Cx:=X.wish λ_ _=>False
theorem Cx.Ok.wish {X:Cx}(ok:X.Ok)(E:Value->Shared->Prop):(X.wish E).Ok:=
 ⟨ok.mod,ok.kind,ok.glob,ok.blt,ok.above,ok.inj,ok.has,ok.cab,ok.hd,ok.frames,ok.stk,ok.exf,ok.bs,ok.bsz,ok.noex,ok.exfs,ok.funs,ok.frf⟩
theorem Cx.Ok.unwish {X:Cx}{E:Value->Shared->Prop}(ok:(X.wish E).Ok):X.Ok:=
 ⟨ok.mod,ok.kind,ok.glob,ok.blt,ok.above,ok.inj,ok.has,ok.cab,ok.hd,ok.frames,ok.stk,ok.exf,ok.bs,ok.bsz,ok.noex,ok.exfs,ok.funs,ok.frf⟩
section
variable {X:Cx} {pins:List (Addr×Obj)} {σ:St} {H:Hp} {s:Shared} {E:Value->Shared->Prop}
theorem z5.wish (I:z5 X pins σ H s)(E:Value->Shared->Prop):z5 (X.wish E) pins σ H s:=⟨I.ok.wish E,I.os,I.bare,I.base,I.loc,I.cell,I.free,I.freeC,I.pin,I.hok,I.len⟩
theorem z5.unwish (I:z5 (X.wish E) pins σ H s):z5 X pins σ H s:=⟨I.ok.unwish,I.os,I.bare,I.base,I.loc,I.cell,I.free,I.freeC,I.pin,I.hok,I.len⟩
theorem SP.unwish {D:sG}{f:Flow}{s':Shared}(h:SP (X.wish E) pins D f s'):SP X pins D f s':=by
 cases f with
 | next=>obtain⟨σ',H',I,q⟩:=h;exact⟨σ',H',I.unwish,q⟩
 | brk=>obtain⟨σ',H',I,q⟩:=h;exact⟨σ',H',I.unwish,q⟩
 | cont=>obtain⟨σ',H',I,q⟩:=h;exact⟨σ',H',I.unwish,q⟩
 | ret u=>obtain⟨v,σ',H',I,r,q⟩:=h;exact⟨v,σ',H',I.unwish,r,q⟩
theorem xI.nox {st:List Stmt}{t:TS}(h:xI X.nox st t):xI X st t:=⟨λpins s σ H D I hw=>
 wpAny_mono (h pins s σ H D (I.wish _) hw) (λ_ _ q=>q.unwish) λ_ _ z=>False.elim z⟩
end
section
variable {X:Cx} {st:Stmt} {yH:List Stmt} {t u:TS} {e:Expr} {te:TE} {pos:Pos}
def znY:TS:=λD σ H=>D.nx σ H
def zof (t u:TS):TS:=λD σ H=>t {D with nx:=u D} σ H
theorem zm5:xI X [] znY:=⟨λ_ _ σ H _ I h=>wpAny_execs_nil ⟨σ,H,I,h⟩⟩
theorem mU (h1:PS X st t)(h2:xI X yH u):xI X (st::yH) (zof t u):=by
 (first | refine⟨?_⟩ | skip)
 intro pins s σ H D I h;refine wpAny_execs_cons (zU (h1 pins s σ H {D with nx:=u D} I h) λf s1 q=> ?_);cases f with
 | next=>
  obtain⟨σ',H',I',q⟩:=q;exact h2 pins s1 σ' H' D I' q
 | ret v=>exact q
 | brk=>exact q
 | cont=>exact q
theorem zm6 (h1:PS X st t):xI X [st] t:=by
 (first | refine⟨?_⟩ | skip)
 intro pins s σ H D I h;refine wpAny_execs_cons (zU (h1 pins s σ H D I h) λf s1 q=> ?_);cases f with
 | next=>exact wpAny_execs_nil q
 | ret v=>exact q
 | brk=>exact q
 | cont=>exact q
theorem z5.quiet {pins:List (Addr×Obj)}{σ:St}{H:Hp}{s:Shared}(I:z5 X pins σ H s):interactive X.env=false:=by simp[interactive,I.ok.kind]
def znQ (te:TE):TS:=λD σ H=>te σ H λ_ H1=>D.nx σ H1
theorem zmy (he:PE X e te)(hs:swapsWith e none pos.line X.env=pure false:=by rfl):PS X (.Expr e pos) (znQ te):=by
 (first | refine⟨?_⟩ | skip)
 intro pins s σ H D I h;exact wpAny_Expr_any (zU (he pins s σ H _ I h) λv s1 ⟨x,H1,I1,r1,q1⟩=>⟨σ,H1,I1,q1⟩) I.quiet hs
def zod (te:TE):TS:=λD σ H=>te σ H D.rt
theorem zm3 (he:PE X e te):PS X (.Return (some e) pos) (zod te):=by
 (first | refine⟨?_⟩ | skip)
 intro pins s σ H D I h;exact wpAny_Return_some (zU (he pins s σ H _ I h) λv s1 ⟨x,H1,I1,r1,q1⟩=>⟨x,σ,H1,I1,r1,q1⟩)
def znS (c:TT)(t u:TS):TS:=λD σ H=>c σ H λb H1=>if b=true then t D σ H1 else u D σ H1
theorem zm0 {c:Expr}{a b:List Stmt}{tc:TT}(hc:PT X c tc)(ha:xI X a t)(hb:xI X b u):PS X (.If c a b pos) (znS tc t u):=by
 (first | refine⟨?_⟩ | skip)
 intro pins s σ H D I h;refine wpAny_If (zU (hc pins s σ H _ I h) λd s1 ⟨H1,I1,q1⟩=> ?_);cases d with
 | true=>exact ha pins s1 σ H1 D I1 q1
 | false=>exact hb pins s1 σ H1 D I1 q1
def znX:TS:=λ_ _ _=>False
theorem zm1:PS X st znX:=⟨λ_ _ _ _ _ _ h=>h.elim⟩
end
abbrev TG:=V->St->Hp->(St->Hp->Prop)->Prop
abbrev uB:=List V->St->Hp->(St->Hp->Prop)->Prop
structure PG (X:Cx)(target:Expr)(t:TG):Prop where
 run:
  ∀(pins:List (Addr×Obj)) (s:Shared) (σ:St) (H:Hp) (v:V) (u:Value) (Q:St->Hp->Prop),z5 X pins σ H s->zT v u->t v σ H Q->
   wpAny (model X.prog X.w) X.A (assign target X.env u) (λ_ s'=> ∃σ' H',z5 X pins σ' H' s'/\Q σ' H') X.xe s
instance {X:Cx} {target:Expr} {t:TG} :CoeFun (PG X target t) λ_=>
 ∀(pins:List (Addr×Obj)) (s:Shared) (σ:St) (H:Hp) (v:V) (u:Value) (Q:St->Hp->Prop),z5 X pins σ H s->zT v u->t v σ H Q->
  wpAny (model X.prog X.w) X.A (assign target X.env u) (λ_ s'=> ∃σ' H',z5 X pins σ' H' s'/\Q σ' H') X.xe s
  :=⟨PG.run⟩
structure vU (X:Cx)(ts:List Expr)(t:uB):Prop where
 run:
  ∀(pins:List (Addr×Obj)) (s:Shared) (σ:St) (H:Hp) (vs:List V) (us:List Value) (Q:St->Hp->Prop),z5 X pins σ H s->zH vs us->t vs σ H Q->
   wpAny (model X.prog X.w) X.A (assignInOrder ((assignEach ts X.env).map (·.2)) us) (λ_ s'=> ∃σ' H',z5 X pins σ' H' s'/\Q σ' H') X.xe s
instance {X:Cx} {ts:List Expr} {t:uB} :CoeFun (vU X ts t) λ_=>
 ∀(pins:List (Addr×Obj)) (s:Shared) (σ:St) (H:Hp) (vs:List V) (us:List Value) (Q:St->Hp->Prop),z5 X pins σ H s->zH vs us->t vs σ H Q->
  wpAny (model X.prog X.w) X.A (assignInOrder ((assignEach ts X.env).map (·.2)) us) (λ_ s'=> ∃σ' H',z5 X pins σ' H' s'/\Q σ' H') X.xe s
  :=⟨vU.run⟩
abbrev gH:=V->V->V->Hp->(Hp->Prop)->Prop
def kI (X:Cx)(t:gH):Prop:=
 ∀(pins:List (Addr×Obj)) (s:Shared) (σ:St) (H:Hp) (o i v:V) (ov iv u:Value) (Q:Hp->Prop),z5 X pins σ H s->zT o ov->zT i iv->zT v u->t o i v H Q->
  wpAny (model X.prog X.w) X.A (setItem ov iv u) (λ_ s'=> ∃H',z5 X pins σ H' s'/\Q H') X.xe s
section
variable {X:Cx} {pos:Pos}
def j6 (i:Nat):TG:=λv σ H Q=>Q (σ.set i (some v)) H
theorem zmi {i:Nat}{x:Str}(hN:X.N.Nodup)(hi:X.N[i]?=some x)(hx:sH X.env.scope x)(hf:X.fn x=true∨X.env.scope.names.lookup x=some .local:=by first | exact .inl rfl | exact .inr rfl | assumption):PG X (.Name x pos) (j6 i):=by
 (first | refine⟨?_⟩ | skip)
 intro pins s σ H v u Q I r h;exact wpAny_assign_Name (iG I hN hi hx r (λs' I'=>⟨_,H,I',h⟩) hf)
def zea:uB:=λvs σ H Q=>vs= []/\Q σ H
def aW (t:TG)(u:uB):uB:=λvs σ H Q=> ∃v r,vs=v::r/\t v σ H λσ' H'=>u r σ' H' Q
theorem zfl:vU X [] zea:=by
 (first | refine⟨?_⟩ | skip)
 intro pins s σ H vs us Q I r h;obtain⟨e,h⟩:=h;subst e;cases r;exact assignInOrder_nil ⟨σ,H,I,h⟩
theorem za1 {e:Expr}{es:List Expr}{t:TG}{u:uB}(h1:PG X e t)(h2:vU X es u)
  (hs:(assignEach (e::es) X.env).map (·.2)=assign e X.env::(assignEach es X.env).map (·.2):=by rfl):vU X (e::es) (aW t u):=by
 (first | refine⟨?_⟩ | skip)
 intro pins s σ H vs us Q I r h;obtain⟨v,vr,e1,h⟩:=h;subst e1;cases r with
 | cons r rr=>
  rw[hs];refine assignInOrder_cons (zU (h1 pins s σ H _ _ _ I r h) λ_ s1 ⟨σ1,H1,I1,q1⟩=> ?_);exact h2 pins s1 σ1 H1 _ _ Q I1 rr q1
def zeb (K:Frag)(n:Nat)(t:uB):TG:=λv σ H Q=> ∃a xs,v= .ref a/\xQ K H a xs/\xs.length=n/\t xs σ H Q
theorem zfk {es:List Expr}{k:Nat}{t:uB}{n:Nat}(hc:X.calm=true)(h:vU X es t)
  (hn:(assignEach es X.env).length=n:=by rfl) (hst:(assignEach es X.env).findIdx? (·.1)=none:=by rfl):PG X (.Tuple es k pos) (zeb X.K n t):=by
 (first | refine⟨?_⟩ | skip)
 intro pins s σ H v u Q I r hw;obtain⟨a,xs,e1,hq,hl,hw⟩:=hw;subst e1;cases r;obtain⟨its,rv,ht,hz⟩:=I.tuple hq;refine assign_Tuple_tuple (I.ok.hd hc) ht (by simp[hn,<- hl,rv.length]) hst λh' hx=> ?_;have I1:z5 X pins σ H {s with heap:=h'} :=I.kept (t':=s.toks) λb o e=>hx b o (Nat.ne_of_lt (Heap.lt_size e)) e;exact h pins _ σ H xs _ Q I1 (by simpa using rv) hw
def aX (to ti:TE)(t:gH):TG:=λv σ H Q=>to σ H λo H1=>ti σ H1 λi H2=>t o i v H2 λH3=>Q σ H3
theorem zaz {o i:Expr}{to ti:TE}{t:gH}(ho:PE X o to)(hi:PE X i ti)(hs:kI X t)
  (ha: ∀v,assign (.Subscript o i pos) X.env v=(do
   let ov <- holding [v] (eval o X.env)
   let iv <- holding [v,ov] (eval i X.env)
   standAt pos
   holding [v,ov,iv] (setItem ov iv v)
   release [v,ov,iv] []):=by intro _;rfl):PG X (.Subscript o i pos) (aX to ti t):=by
 (first | refine⟨?_⟩ | skip)
 intro pins s σ H v u Q I r h;rw[ha];refine wpAny_bind (wpAny_holding (zU (ho pins s σ H _ I h) λov s1 ⟨x,H1,I1,r1,q1⟩=> ?_));refine wpAny_bind (wpAny_holding (zU (hi pins s1 σ H1 _ I1 q1) λiv s2 ⟨y,H2,I2,r2,q2⟩=> ?_));refine wpAny_bind (wpAny_standAt (wpAny_bind (wpAny_holding (zU (hs pins s2 σ H2 x y v ov iv u _ I2 r1 r2 r q2) λ_ s3 ⟨H3,I3,q3⟩=> ?_))));exact wpAny_release ⟨σ,H3,I3,q3⟩
def lK (te:TE)(g:TG):TS:=λD σ H=>te σ H λx H1=>g x σ H1 D.nx
theorem zfq {tg e:Expr}{te:TE}{g:TG}(he:PE X e te)(hg:PG X tg g)(hs:swapsWithSole [tg] e pos.line X.env=pure false:=by rfl)(hw:swappedStores [tg] e X.env=pure none:=by rfl)
  (h1:(assignEach [tg] X.env).map (·.2)= [assign tg X.env]:=by rfl):PS X (.Assign [tg] e pos) (lK te g):=by
 (first | refine⟨?_⟩ | skip)
 intro pins s σ H D I h;refine wpAny_Assign_stores (zU (he pins s σ H _ I h) λv s1 ⟨x,H1,I1,r1,q1⟩=> ?_) hs hw;rw[h1];exact zU (hg pins s1 σ H1 x v _ I1 r1 q1) λ_ s2 q=>q
theorem zfr {i:Nat}{x:Str}{e:Expr}{te:TE}{pos':Pos}(hN:X.N.Nodup)(hi:X.N[i]?=some x)(hx:sH X.env.scope x)(he:PE X e te)(hs:swapsWith e (some (.Name x pos')) pos.line X.env=pure false:=by rfl)(hf:X.fn x=true∨X.env.scope.names.lookup x=some .local:=by first | exact .inl rfl | exact .inr rfl | assumption):
  PS X (.Assign [.Name x pos'] e pos) (lK te (j6 i)):=by
 (first | refine⟨?_⟩ | skip)
 intro pins s σ H D I h;refine wpAny_Assign_Name (zU (he pins s σ H _ I h) λv s1 ⟨y,H1,I1,r1,q1⟩=> ?_) hs;exact iG I1 hN hi hx r1 (λs2 I2=>⟨_,H1,I2,q1⟩) hf
def zob (i j:Nat)(ta:TA):TS:=λD σ H=>ta σ H λvs H1=> ∃v w,vs= [v,w]/\D.nx ((σ.set i (some v)).set j (some w)) H1
theorem zm2 {i j:Nat}{x y:Str}{a b:Expr}{ta:TA}{px py pt:Pos}{kt k2 pt2}(hc:X.calm=true)(hN:X.N.Nodup)(hi:X.N[i]?=some x)(hj:X.N[j]?=some y)(hij:i≠j)
  (hx:X.env.scope.names.lookup x=some .local) (hy:X.env.scope.names.lookup y=some .local) (ha:PA X [a,b] ta)
  (hw:swappedStores [.Tuple [.Name x px,.Name y py] kt pt] (.Tuple [a,b] k2 pt2) X.env=pure (some [x,y]))
  (hs:swapsWithSole [.Tuple [.Name x px,.Name y py] kt pt] (.Tuple [a,b] k2 pt2) pos.line X.env=pure false:=by rfl):
  PS X (.Assign [.Tuple [.Name x px,.Name y py] kt pt] (.Tuple [a,b] k2 pt2) pos) (zob i j ta):=by
 (first | refine⟨?_⟩ | skip)
 intro pins s σ H D I h;rw[exec_Assign_arm];refine wpAny_bind (wpAny_standAt ?_);rw[hs];refine wpAny_bind (wpAny_pure ?_);rw[if_neg (by decide)];refine wpAny_bind (Tuple_ (zU (ha _ pins s σ H _ I h) λus s1 ⟨vs,H1,I1,r1,q1⟩=> ?_));obtain⟨v,w,e1,q1⟩:=q1;subst e1;obtain⟨u1,u2,rfl,rv,rw'⟩: ∃u1 u2,us= [u1,u2]/\zT v u1/\zT w u2:=by
  cases r1 with
  | cons p q=>
   cases q with
   | cons p' q'=>
    cases q';exact⟨_,_,rfl,p,p'⟩
 refine wpAny_newObj_type ?_ (by show 2<=sizeLine;decide);have I2:z5 X pins σ H1 {s1 with heap:=s1.heap.push {cls:= .type "tuple",data:= .seq [u1,u2].toArray}} :=I1.kept (t':=s1.toks) λb o e=>Heap.get?_push_of_some _ e;rw[hw];refine wpAny_bind (wpAny_pure ?_);show wpAny (model X.prog X.w) X.A (do rule "assign.swapped-stores";let items <- unpackItems (.ref s1.heap.objs.size) 2 none;assignInOrder [λv=>bindName X.env y v,λv=>bindName X.env x v] items.reverse;pure Flow.next) _ _ _;refine wpAny_bind (wpAny_rule (wpAny_bind (unpackItems_tuple (items:= #[u1,u2]) (I.ok.hd hc) (IsTup.new s1.heap _) λh' hx'=> ?_)));have I3:=I2.kept (h':=h') (t':=s1.toks) λb o e=>hx' b o (Nat.ne_of_lt (Heap.lt_size e)) e;show wpAny _ _ (assignInOrder [λv=>bindName X.env y v,λv=>bindName X.env x v] [u2,u1] >>= λ_=>pure Flow.next) _ _ _;refine wpAny_bind (assignInOrder_cons (wpAny_bindName (iG I3 hN hj (.inl hy) rw' (λs2 I4=> ?_) (.inr hy))));refine assignInOrder_cons (wpAny_bindName (iG I4 hN hi (.inl hx) rv (λs3 I5=>assignInOrder_nil (wpAny_pure ?_)) (.inr hx)));rw[List.set_comm _ _ (Ne.symm hij)]at I5;exact⟨_,H1,I5,q1⟩
end
section
variable {X:Cx} {pos:Pos}
def zoh (c:TT)(tb:TS):TS:=λD σ H=> ∃W:Nat->St->Hp->Prop,(∃m,W m σ H)/\∀m σ H,W m σ H->
 c σ H λb H1=>if b=true then ∃N:St->Hp->Prop,(∀σ' H',N σ' H'->∃m',m' < m/\W m' σ' H')/\tb {D with nx:=N,ct:=N,bk:=D.nx} σ H1 else D.nx σ H1
theorem zm4 {c:Expr}{body:List Stmt}{tc:TT}{tb:TS}(hp:PassesOwn (model X.prog X.w) X.A X.env X.xe)(hc:PT X c tc)(hb:xI X body tb):PS X (.While c body [] pos) (zoh tc tb):=by
 (first | refine⟨?_⟩ | skip)
 intro pins s σ H D I h;obtain⟨W,⟨m0,w0⟩,turn⟩:=h;refine wpAny_While (codeAny_whileLoop (λn s'=> ∃σ' H',z5 X pins σ' H' s'/\W n σ' H') ?_ m0 ⟨σ,H,I,w0⟩);rintro n s1 ⟨σ1,H1,I1,w1⟩;refine wpAny_passesOwn hp (zU (hc pins s1 σ1 H1 _ I1 (turn n σ1 H1 w1)) λb s2 ⟨H2,I2,q2⟩=> ?_);cases b with
 | true=>
  obtain⟨N,hN,q2⟩:=q2;rw[if_pos rfl];refine wpAny_passesOwn hp (zU (hb pins s2 σ1 H2 _ I2 q2) λf s3 q3=> ?_);cases f with
  | next=>
   obtain⟨σ3,H3,I3,n3⟩:=q3;obtain⟨m',hm,w3⟩:=hN σ3 H3 n3;exact⟨m',hm,σ3,H3,I3,w3⟩
  | cont=>
   obtain⟨σ3,H3,I3,n3⟩:=q3;obtain⟨m',hm,w3⟩:=hN σ3 H3 n3;exact⟨m',hm,σ3,H3,I3,w3⟩
  | brk=>exact q3
  | ret v=>exact q3
 | false=>
  rw[if_neg Bool.false_ne_true];exact wpAny_execs_nil ⟨σ1,H2,I2,q2⟩
end
structure It where
 go:Nat->Hp->Prop
 yld:Nat->Hp->V->Hp->Prop
 stop:Nat->Hp->Prop
def rA (X:Cx)(pins:List (Addr×Obj))(H:Hp)(b:Addr):Prop:=
 H b=none/\b≠X.env.locals/\b∉X.fs/\(b∈X.ex∨X.s₀.heap.objs.size<=b)/\(∀x c,X.env.cells.lookup x=some c->c≠b)/\∀p∈X.pn++pins,p.1≠b
theorem z5.fpOk {X:Cx}{pins:List (Addr×Obj)}{σ:St}{H H':Hp}{s:Shared}{b:Addr}(I:z5 X pins σ H s)(hb:s.heap.objs.size<=b)(hn:H' b=none):rA X pins H' b:=by
 refine⟨hn,Nat.ne_of_gt (Nat.lt_of_lt_of_le I.lt hb),I.nofs hb,.inr (Nat.le_trans I.sz hb),λx c e z=> ?_,λp hp z=> ?_⟩
 ·obtain⟨v,q⟩:=I.cell x c e
  exact absurd (Nat.lt_of_lt_of_le q.lt (by rw[z];exact hb)) (Nat.lt_irrefl _)
 ·exact absurd (Nat.lt_of_lt_of_le (Heap.lt_size (I.pin p hp).1) (by rw[z];exact hb)) (Nat.lt_irrefl _)
structure p7 (P:Program)(w:World)(K:Frag)(tg:Expr)(J:It)(fp:List Addr)(it:Addr)(tn:Nat->Heap->Prop):Prop where
 mem:it∈fp
 obj: ∀i h,tn i h->∀b∈fp,∃o,h.get? b=some o/\∀v,o.data≠ .cell v
 keep: ∀i h h',tn i h->(∀b∈fp,∀o,h.get? b=some o->h'.get? b=some o)->tn i h'
 item: ∀(X:Cx),X.prog=P->X.w=w->X.K=K->X.calm=true->∀(i:Nat) (pins:List (Addr×Obj)) (s:Shared) (σ:St) (H:Hp) (E:Value->Shared->Prop),z5 X pins σ H s->(∀b∈fp,rA X pins H b)->tn i s.heap->J.go i H->
  wpAny (model P w) X.A (pyNext (.ref it)) (λr s1=> ∃u,r=some u/\
   wpAny (model P w) X.A (letOwnedTupleGo tg (.ref it) u) (λ_ s2=> ∃x H',z5 X pins σ H' s2/\zT x u/\J.yld i H x H'/\tn (i+1) s2.heap/\∀b∈fp,H' b=none) E s1) E s
 done: ∀(X:Cx),X.prog=P->X.w=w->X.K=K->X.calm=true->∀(i:Nat) (pins:List (Addr×Obj)) (s:Shared) (σ:St) (H:Hp) (E:Value->Shared->Prop),z5 X pins σ H s->(∀b∈fp,rA X pins H b)->tn i s.heap->J.stop i H->
  wpAny (model P w) X.A (pyNext (.ref it)) (λr s1=>r=none/\z5 X pins σ H s1) E s
 self: ∀(A:Around) (i:Nat) (s:Shared) (Q:Value->Shared->Prop) (E:Value->Shared->Prop),tn i s.heap->Q (.ref it) s->wpAny (model P w) A (pyIter (.ref it)) Q E s
abbrev TI:=St->Hp->(It->Hp->Prop)->Prop
def nT (X:Cx)(pins:List (Addr×Obj))(σ:St)(tg:Expr)(R:It->Hp->Prop)(itv:Value)(s2:Shared):Prop:=
 ∃(it:Addr) (fp:List Addr) (tn:Nat->Heap->Prop) (J:It) (H':Hp),itv= .ref it/\z5 X pins σ H' s2/\p7 X.prog X.w X.K tg J fp it tn/\tn 0 s2.heap/\(∀b∈fp,rA X pins H' b)/\R J H'
structure PI (X:Cx)(tg iter:Expr)(wi:TI):Prop where
 run:
  ∀(pins:List (Addr×Obj)) (s:Shared) (σ:St) (H:Hp) (R:It->Hp->Prop),z5 X pins σ H s->wi σ H R->
   wpAny (model X.prog X.w) X.A (eval iter X.env) (λv s1=>wpAny (model X.prog X.w) X.A (pyIter v) (nT X pins σ tg R) X.xe s1) X.xe s
instance {X:Cx} {tg iter:Expr} {wi:TI} :CoeFun (PI X tg iter wi) λ_=>
 ∀(pins:List (Addr×Obj)) (s:Shared) (σ:St) (H:Hp) (R:It->Hp->Prop),z5 X pins σ H s->wi σ H R->
  wpAny (model X.prog X.w) X.A (eval iter X.env) (λv s1=>wpAny (model X.prog X.w) X.A (pyIter v) (nT X pins σ tg R) X.xe s1) X.xe s
  :=⟨PI.run⟩
theorem mK {M:Model}{A:Around}{E:Value->Shared->Prop}{s:Shared}{tg:Expr}{it:Addr}{u:Value}{o:Obj}{n:String}{vs:Array Value}{Q:Unit->Shared->Prop}(ho:s.heap.get? it=some o)(hc:o.cls= .type n)(hd:o.data= .fields vs)
  (hn: ["enumerate","zip","dict_itemiterator","dict_reverseitemiterator","odict_iterator","itertools.zip_longest","itertools.pairwise"].contains n=false) (hQ:Q () s):wpAny M A (letOwnedTupleGo tg (.ref it) u) Q E s:=by
 unfold letOwnedTupleGo;cases tg <;> first
  | exact wpAny_pure hQ
  | (cases u <;> first
    | exact wpAny_pure hQ
    | (refine wpAny_bind (wpAny_load ho ?_)
       rw[hc,hd];show wpAny M A (if(["enumerate","zip","dict_itemiterator","dict_reverseitemiterator","odict_iterator","itertools.zip_longest","itertools.pairwise"].contains n&&vs[0]?==some (rawInt _))=true then _ else _) Q E s;rw[if_neg (by intro h;rw[hn,Bool.false_and]at h;cases h)];exact wpAny_pure hQ))
def kE (K:Frag)(a:Addr):It:=
 ⟨λi H=> ∃xs x,yW K H a xs/\xs[i]?=some x,λi H x H'=>H'=H/\∀xs,yW K H a xs->xs[i]?=some x,λi H=> ∃xs,yW K H a xs/\xs.length<=i⟩
def hZ (K:Frag)(a:Addr):It:=
 ⟨λi H=> ∃xs x,xQ K H a xs/\xs[i]?=some x,λi H x H'=>H'=H/\∀xs,xQ K H a xs->xs[i]?=some x,λi H=> ∃xs,xQ K H a xs/\xs.length<=i⟩
def nQ (lo:Int)(n:Nat):It:=⟨λi _=>i < n,λi H x H'=>H'=H/\x= .int (lo+i),λi _=>n<=i⟩
theorem zot {P:Program}{w:World}{K:Frag}{tg:Expr}(a it:Addr):p7 P w K tg (kE K a) [it] it (λi h=>h.IsListIter it a i) where
 mem:=by simp
 obj:=λi h st b hb=>by
  have e:b=it:=by simpa using hb
  subst e;obtain⟨o,e,c,d⟩:=st;exact⟨o,e,λv z=>by rw[d]at z;cases z⟩
 keep:=λi h h' st k=>st.at λo e=>k it (by simp) o e
 item:=by
  intro X hP hw hK hc i pins s σ H E I hf st hg;subst hP hw hK;obtain⟨xs,x,hq,hx⟩:=hg;obtain⟨its,rv,p,hz⟩:=I.list hq;obtain⟨u,hu,ru⟩:=rv.get hx;obtain⟨f0,f1,f2,f3,f4,f5⟩:=hf it (by simp);refine wpAny_pyNext_list_item st p.isList (x:=u) (by simpa using hu) λh' st' sb=> ?_;have I1:z5 X pins σ H {s with heap:=h'} :=I.turned (t':=s.toks) (λb o hb e=>(sb.2 b hb).trans e) f0 f1 f3 f4 f5;obtain⟨o,e,c,d⟩:=id st';exact⟨u,rfl,mK (s:= {s with heap:=h'}) e c d (by decide) ⟨x,H,I1,ru,⟨rfl,λys hy=>by rw[I.list_inj hy hq];exact hx⟩,st',λb hb=>(hf b hb).1⟩⟩
 done:=by
  intro X hP hw hK hc i pins s σ H E I hf st hg;subst hP hw hK;obtain⟨xs,hq,hx⟩:=hg;obtain⟨its,rv,p,hz⟩:=I.list hq;obtain⟨f0,f1,f2,f3,f4,f5⟩:=hf it (by simp);have hl:=rv.length;exact wpAny_pyNext_list_end (I.ok.hd hc) st p.isList (by simp;omega) λh' eb=>⟨rfl,I.turned (t':=s.toks) (λb o hb e=>eb b o hb e) f0 f1 f3 f4 f5⟩
 self:=λ_ _ _ _ _ st h=>wpAny_pyIter_listiter st h
theorem zov {P:Program}{w:World}{K:Frag}{tg:Expr}(a it:Addr):p7 P w K tg (hZ K a) [it] it (λi h=>h.IsTupleIter it a i) where
 mem:=by simp
 obj:=λi h st b hb=>by
  have e:b=it:=by simpa using hb
  subst e;obtain⟨o,e,c,d⟩:=st;exact⟨o,e,λv z=>by rw[d]at z;cases z⟩
 keep:=λi h h' st k=>st.at λo e=>k it (by simp) o e
 item:=by
  intro X hP hw hK hc i pins s σ H E I hf st hg;subst hP hw hK;obtain⟨xs,x,hq,hx⟩:=hg;obtain⟨its,rv,p,hz⟩:=I.tuple hq;obtain⟨u,hu,ru⟩:=rv.get hx;obtain⟨f0,f1,f2,f3,f4,f5⟩:=hf it (by simp);refine wpAny_pyNext_tuple_item st (show s.heap.IsTuple a its.toArray from p) (x:=u) (by simpa using hu) λh' st' sb=> ?_;have I1:z5 X pins σ H {s with heap:=h'} :=I.turned (t':=s.toks) (λb o hb e=>(sb.2 b hb).trans e) f0 f1 f3 f4 f5;obtain⟨o,e,c,d⟩:=id st';exact⟨u,rfl,mK (s:= {s with heap:=h'}) e c d (by decide) ⟨x,H,I1,ru,⟨rfl,λys hy=>by rw[I.tuple_inj hy hq];exact hx⟩,st',λb hb=>(hf b hb).1⟩⟩
 done:=by
  intro X hP hw hK hc i pins s σ H E I hf st hg;subst hP hw hK;obtain⟨xs,hq,hx⟩:=hg;obtain⟨its,rv,p,hz⟩:=I.tuple hq;obtain⟨f0,f1,f2,f3,f4,f5⟩:=hf it (by simp);have hl:=rv.length;exact wpAny_pyNext_tuple_end (I.ok.hd hc) st (show s.heap.IsTuple a its.toArray from p) (by simp;omega) λh' eb=>⟨rfl,I.turned (t':=s.toks) (λb o hb e=>eb b o hb e) f0 f1 f3 f4 f5⟩
 self:=λ_ _ _ _ _ st h=>wpAny_pyIter_tupleiter st h
theorem zou {P:Program}{w:World}{K:Frag}{tg:Expr}(it:Addr)(lo:Int)(n:Nat):p7 P w K tg (nQ lo n) [it] it (λi h=>IsRangeIter h it (lo+(i:Nat) * 1) ((n:Int) - (i:Nat)) 1) where
 mem:=by simp
 obj:=λi h st b hb=>by
  have e:b=it:=by simpa using hb
  subst e;exact⟨_,st,λv z=>by
   have z':Data.fields _=Data.cell v:=z;cases z'⟩
 keep:=λi h h' st k=>k it (by simp) _ st
 item:=by
  intro X hP hw hK hc i pins s σ H E I hf st hg;subst hP hw hK;obtain⟨f0,f1,f2,f3,f4,f5⟩:=hf it (by simp);have W:=Walks.range (prog:=X.prog) (w:=X.w) (I.ok.hd hc) it lo 1 n;refine W.item i s _ _ hg st λv h' tk hv st' kk=> ?_;obtain⟨t,rfl⟩:=hv;have I1:z5 X pins σ H {s with heap:=h',toks:=tk} :=I.turned (λb o hb e=>kk b o (by simpa using hb) e) f0 f1 f3 f4 f5;refine⟨_,rfl,mK (s:= {s with heap:=h',toks:=tk}) (n:= "range_iterator") st' rfl rfl (by decide) ⟨.int (lo+i),H,I1,⟨t,?_⟩,⟨rfl,rfl⟩,st',λb hb=>(hf b hb).1⟩⟩;rw[Int.mul_one]
 done:=by
  intro X hP hw hK hc i pins s σ H E I hf st hg;subst hP hw hK;obtain⟨f0,f1,f2,f3,f4,f5⟩:=hf it (by simp);exact wpAny_pyNext_range_end (I.ok.hd hc) st (by have:n<=i:=hg;omega) λh' eb=>⟨rfl,I.turned (t':=s.toks) (λb o hb e=>eb b o hb e) f0 f1 f3 f4 f5⟩
 self:=λ_ _ _ _ _ st h=>wpAny_pyIter_rangeiter st h
end L2
namespace L2
open PySem PySem.Spec PyProof.Rows
section
variable {X:Cx} {tg:Expr}
theorem zf4 {pins:List (Addr×Obj)}{σ:St}{H:Hp}{s:Shared}{R:It->Hp->Prop}{E:Value->Shared->Prop}{lo hi:Int}{t u v:Tok}{tk:Nat}(I:z5 X pins σ H s)(h1: -(2 ^ 62)<=lo)(h2:lo < 2 ^ 62)(h3: -(2 ^ 62)<=hi)(h4:hi < 2 ^ 62)
  (q:R (nQ lo (hi - lo).toNat) H):wpAny (model X.prog X.w) X.A (pyIter (.ref s.heap.objs.size)) (nT X pins σ tg R) E {s with heap:=s.heap.push {cls:= .type "range",data:= .fields #[.int lo t,.int hi u,.int 1 v]},toks:=tk} :=by
 refine wpAny_pyIter_range (IsRange.new ..) (small_one h1 h2 h3 h4) ?_;have I1:z5 X pins σ H {s with heap:=s.heap.push {cls:= .type "range",data:= .fields #[.int lo t,.int hi u,.int 1 v]},toks:=tk} :=I.kept λb o e=>Heap.get?_push_of_some _ e;refine⟨(s.heap.push {cls:= .type "range",data:= .fields #[.int lo t,.int hi u,.int 1 v]}).objs.size,[(s.heap.push {cls:= .type "range",data:= .fields #[.int lo t,.int hi u,.int 1 v]}).objs.size],_,_,H,rfl,
  I1.kept (t':=tk) λb o e=>Heap.get?_push_of_some _ e,zou _ lo (hi - lo).toNat,?_,λb hb=> ?_,q⟩
 ·have e1:lo+((0:Nat):Int) * 1=lo:=by simp
  have e2:(((hi - lo).toNat:Nat):Int) - ((0:Nat):Int)=Builtin.Range.rangeSize lo hi 1:=by rw[rangeSize_one];split <;> omega
  show IsRangeIter _ _ (lo+((0:Nat):Int) * 1) ((((hi - lo).toNat:Nat):Int) - ((0:Nat):Int)) 1;rw[e1,e2];exact Heap.get?_push_size _ rfl
 ·have e:b=(s.heap.push {cls:= .type "range",data:= .fields #[.int lo t,.int hi u,.int 1 v]}).objs.size:=by simpa using hb
  subst e;exact I1.fpOk (Nat.le_refl _) (I1.hok.fresh (Nat.le_refl _))
def zjG (ta:TA):TI:=λσ H R=>ta σ H λvs H1=> ∃j:Int,vs= [.int j]/\ -(2 ^ 62)<=j/\j < 2 ^ 62/\R (nQ 0 j.toNat) H1
def zjH (ta:TA):TI:=λσ H R=>ta σ H λvs H1=> ∃i j:Int,vs= [.int i,.int j]/\(-(2 ^ 62)<=i/\i < 2 ^ 62/\ -(2 ^ 62)<=j/\j < 2 ^ 62)/\R (nQ i (j - i).toNat) H1
theorem zmo {a:Expr}{ta:TA}{p pos:Pos}(hg:Gl X "range")(hm:X.mg "range" =none)(ha:PA X [a] ta)(hs:starEach [a] X.env= [(false,eval a X.env)]:=by rfl):PI X tg (.Call (.Name "range" p) [a] [] pos) (zjG ta):=by
 (first | refine⟨?_⟩ | skip)
 intro pins s σ H R I h;refine Call_ (tX I hg hm boot_range (callWith_type1 (zU (ha pos pins s σ H _ I h) λus s1 ⟨vs,H1,I1,r1,q1⟩=> ?_) hs rfl));obtain⟨j,e,q1,q2,q⟩:=q1;subst e;cases r1 with
 | cons r rr=>
  cases rr;obtain⟨t,rfl⟩:=r;exact call_range_1 (zf4 I1 (by omega) (by omega) q1 q2 (by simpa using q))
theorem zmp {a b:Expr}{ta:TA}{p pos:Pos}(hg:Gl X "range")(hm:X.mg "range" =none)(ha:PA X [a,b] ta)(hs:starEach [a,b] X.env= [(false,eval a X.env),(false,eval b X.env)]:=by rfl)(hs2:starEach [b] X.env= [(false,eval b X.env)]:=by rfl):
  PI X tg (.Call (.Name "range" p) [a,b] [] pos) (zjH ta):=by
 (first | refine⟨?_⟩ | skip)
 intro pins s σ H R I h;refine Call_ (tX I hg hm boot_range (callWith_type1 (zU (ha pos pins s σ H _ I h) λus s1 ⟨vs,H1,I1,r1,q1⟩=> ?_) (by rw[hs,hs2]) (by rw[hs2];rfl)));obtain⟨i,j,e,⟨q1,q2,q3,q4⟩,q⟩:=q1;subst e;cases r1 with
 | cons r rr=>
  cases rr with
  | cons r' rr=>
   cases rr;obtain⟨t,rfl⟩:=r;obtain⟨t',rfl⟩:=r';exact call_range_2 (zf4 I1 q1 q2 q3 q4 q)
def znR (wi:TI)(g:TG)(tb:TS):TS:=λD σ H=>wi σ H λJ H1=> ∃W:Nat->Nat->St->Hp->Prop,(∃m,W 0 m σ H1)/\∀i m σ H,W i m σ H->
 (J.stop i H/\D.nx σ H)∨(J.go i H/\∃N:St->Hp->Prop,(∀σ' H',N σ' H'->∃m',m' < m/\W (i+1) m' σ' H')/\∀x H',J.yld i H x H'->g x σ H' λσ2 H2=>tb {D with nx:=N,ct:=N,bk:=D.nx} σ2 H2)
def sV (fp:List Addr)(h:Heap):List (Addr×Obj):=fp.filterMap λb=>(h.get? b).map λo=>(b,o)
theorem oV {fp:List Addr}{h:Heap}{b:Addr}{o:Obj}(hb:b∈fp)(e:h.get? b=some o):(b,o)∈sV fp h:=List.mem_filterMap.mpr ⟨b,hb,by rw[e];rfl⟩
theorem zar {fp:List Addr}{h:Heap}{p:Addr×Obj}(hp:p∈sV fp h):p.1∈fp/\h.get? p.1=some p.2:=by
 obtain⟨b,hb,e⟩:=List.mem_filterMap.mp hp;cases q:h.get? b with
 | none=>rw[q]at e;cases e
 | some o=>
  rw[q]at e;have e':(b,o)=p:=Option.some.inj e;subst e';exact⟨hb,q⟩
theorem z5.pinned {pins:List (Addr×Obj)}{σ:St}{H:Hp}{s:Shared}{fp:List Addr}(I:z5 X pins σ H s)(hf: ∀b∈fp,rA X pins H b)(ho: ∀b∈fp,∃o,s.heap.get? b=some o/\∀v,o.data≠ .cell v):z5 X (pins++sV fp s.heap) σ H s:=
 I.pins_of λp hp=>(List.mem_append.mp hp).elim (λz=>I.pin p (List.mem_append_right _ z)) λz=>by
  obtain⟨hb,e⟩:=zar z;obtain⟨f0,f1,f2,_⟩:=hf p.1 hb;obtain⟨o,e',d⟩:=ho p.1 hb;rw[e]at e';cases e';exact⟨e,f0,f1,f2,d⟩
theorem z5.unpinned {pins pl:List (Addr×Obj)}{σ:St}{H:Hp}{s:Shared}(I:z5 X (pins++pl) σ H s):z5 X pins σ H s:=I.pins_of λp hp=>I.pin p (List.mem_append_right _ (List.mem_append_left _ hp))
theorem zmz {iter:Expr}{body:List Stmt}{wi:TI}{g:TG}{tb:TS}{pos:Pos}(hp:PassesOwn (model X.prog X.w) X.A X.env X.xe)(hc:X.calm=true)(hi:PI X tg iter wi)(hg:PG X tg g)(hb:xI X body tb)
  (hs: ∀x,foldedSetIterable iter X.env x=pure x:=by intro _;rfl):PS X (.For tg iter body [] pos) (znR wi g tb):=by
 (first | refine⟨?_⟩ | skip)
 intro pins s σ H D I h;refine wpAny_For (zU (hi pins s σ H _ I h) λv s1 h1=>zU h1 λitv s2 h2=> ?_) hs;obtain⟨it,fp,tn,J,H2,e,I2,T,st2,f2,W,⟨m0,w0⟩,turn⟩:=h2;subst e;have stat: ∀{H':Hp},(∀b∈fp,H' b=none)->∀b∈fp,rA X pins H' b:=λhn b hb=>⟨hn b hb,(f2 b hb).2⟩;refine codeAny_forLoop_any (λn s'=> ∃i σ' H',z5 X pins σ' H' s'/\tn i s'.heap/\(∀b∈fp,H' b=none)/\W i n σ' H') ?_ m0 ⟨0,σ,H2,I2,st2,λb hb=>(f2 b hb).1,w0⟩;rintro n s3 ⟨i,σ3,H3,I3,st3,fr3,w3⟩;rcases turn i n σ3 H3 w3 with⟨stop,qn⟩ | ⟨go,N,hN,step⟩
 ·refine wpAny_passesOwn hp (zU (T.done X rfl rfl rfl hc i pins s3 σ3 H3 X.xe I3 (stat fr3) st3 stop) λr s4 ⟨hr,I4⟩=> ?_)
  subst hr;exact wpAny_execs_nil ⟨σ3,H3,I4,qn⟩
 ·refine wpAny_passesOwn hp (zU (T.item X rfl rfl rfl hc i pins s3 σ3 H3 X.xe I3 (stat fr3) st3 go) λr s4 ⟨u,hr,h4⟩=> ?_)
  subst hr;refine wpAny_passesOwn hp (zU h4 λ_ s5 ⟨x,H5,I5,r5,y5,st5,fr5⟩=> ?_);have I5':=I5.pinned (stat fr5) (T.obj _ _ st5);refine wpAny_passesOwn hp (zU (hg _ s5 σ3 H5 x u _ I5' r5 (step x H5 y5)) λ_ s6 ⟨σ6,H6,I6,q6⟩=> ?_);refine wpAny_passesOwn hp (zU (hb _ s6 σ6 H6 _ I6 q6) λf s7 q7=> ?_);have again: ∀{σ7:St} {H7:Hp},z5 X (pins++sV fp s5.heap) σ7 H7 s7->N σ7 H7->∃m,m < n/\∃i σ' H',z5 X pins σ' H' s7/\tn i s7.heap/\(∀b∈fp,H' b=none)/\W i m σ' H':=λ{σ7 H7} I7 n7=>by
   obtain⟨m',hm,w7⟩:=hN σ7 H7 n7;refine⟨m',hm,i+1,σ7,H7,I7.unpinned,T.keep _ _ _ st5 λb hb o e=>(I7.pin (b,o) (List.mem_append_right _ (List.mem_append_right _ (oV hb e)))).1,λb hb=> ?_,w7⟩;obtain⟨o,e,d⟩:=T.obj _ _ st5 b hb;exact(I7.pin (b,o) (List.mem_append_right _ (List.mem_append_right _ (oV hb e)))).2.1
  cases f with
  | next=>obtain⟨σ7,H7,I7,n7⟩:=q7;exact again I7 n7
  | cont=>obtain⟨σ7,H7,I7,n7⟩:=q7;exact again I7 n7
  | brk=>obtain⟨σ7,H7,I7,q7⟩:=q7;exact⟨σ7,H7,I7.unpinned,q7⟩
  | ret v=>obtain⟨x7,σ7,H7,I7,r7,q7⟩:=q7;exact⟨x7,σ7,H7,I7.unpinned,r7,q7⟩
end
end L2
namespace L2
open PySem PySem.Spec PyProof.Rows
abbrev R2:=V->V->Hp->VK->Prop
def yG (X:Cx)(f:Value->Value->Sem Value)(r:R2):Prop:=
 ∀(pins:List (Addr×Obj)) (s:Shared) (σ:St) (H:Hp) (x y:V) (v u:Value) (Q:VK),z5 X pins σ H s->zT x v->zT y u->r x y H Q->
  wpAny (model X.prog X.w) X.A (f v u) (EP X pins σ Q) X.xe s
def nW (X:Cx)(f:Value->Sem Value)(r:V->Hp->VK->Prop):Prop:=
 ∀(pins:List (Addr×Obj)) (s:Shared) (σ:St) (H:Hp) (x:V) (v:Value) (Q:VK),z5 X pins σ H s->zT x v->r x H Q->
  wpAny (model X.prog X.w) X.A (f v) (EP X pins σ Q) X.xe s
def vD (X:Cx)(f:Value)(r:List V->Hp->VK->Prop):Prop:=
 ∀(pins:List (Addr×Obj)) (s:Shared) (σ:St) (H:Hp) (xs:List V) (us:List Value) (Q:VK),z5 X pins σ H s->zH xs us->r xs H Q->
  wpAny (model X.prog X.w) X.A (call f us) (EP X pins σ Q) X.xe s
def zh6 (X:Cx)(r:V->Hp->(Bool->Hp->Prop)->Prop):Prop:=
 ∀(pins:List (Addr×Obj)) (s:Shared) (σ:St) (H:Hp) (x:V) (v:Value) (Q:Bool->Hp->Prop),z5 X pins σ H s->zT x v->r x H Q->
  wpAny (model X.prog X.w) X.A (truthy v) (TP X pins σ Q) X.xe s
def lM (r:R2)(ta tb:TE):TE:=λσ H Q=>ta σ H λx H1=>tb σ H1 λy H2=>r x y H2 Q
def tUn (r:V->Hp->VK->Prop)(ta:TE):TE:=λσ H Q=>ta σ H λx H1=>r x H1 Q
def rI (C:Int->Int->Prop)(g:Int->Int->V):R2:=λx y H Q=> ∃i j,x= .int i/\y= .int j/\C i j/\Q (g i j) H
def rT (g:Int->Int->V):R2:=λx y H Q=> ∃i j,x= .int i/\y= .int j/\Q (g i j) H
def rU (g:Int->V):V->Hp->VK->Prop:=λx H Q=> ∃i,x= .int i/\Q (g i) H
section
variable {X:Cx} {a b c:Expr} {ta tb tc:TE} {pos:Pos}
theorem gU (ha:PE X a ta)(hb:PE X b tb){pins:List (Addr×Obj)}{s:Shared}{σ:St}{H:Hp}{R:V->V->Hp->Prop}(I:z5 X pins σ H s)
  (h:ta σ H λx H1=>tb σ H1 λy H2=>R x y H2) {Q:Value->Shared->Prop} {f:Value->Value->Sem Value}
  (hf: ∀v u s2 x y H2,z5 X pins σ H2 s2->zT x v->zT y u->R x y H2->wpAny (model X.prog X.w) X.A (f v u) Q X.xe s2):
  wpAny (model X.prog X.w) X.A (eval a X.env) (λv s₁=>wpAny (model X.prog X.w) X.A (eval b X.env) (λu s₂=>wpAny (model X.prog X.w) X.A (f v u) Q X.xe s₂) X.xe s₁) X.xe s:=by
 refine zU (ha pins s σ H _ I h) λv s1 ⟨x,H1,I1,r1,q1⟩=> ?_;refine zU (hb pins s1 σ H1 _ I1 q1) λu s2 ⟨y,H2,I2,r2,q2⟩=> ?_;exact hf v u s2 x y H2 I2 r1 r2 q2
theorem zma {op:Operator}{r:R2}(ho:yG X (binaryOp op) r)(ha:PE X a ta)(hb:PE X b tb):PE X (.BinOp a op b pos) (lM r ta tb):=by
 (first | refine⟨?_⟩ | skip)
 intro pins s σ H Q I h;exact wpAny_BinOp (gU ha hb I h λv u s2 x y H2 I2 rx ry q=>ho pins s2 σ H2 x y v u Q I2 rx ry q)
theorem zmd {op:UnaryOp}{r:V->Hp->VK->Prop}(ho:nW X (unaryOp op) r)(ha:PE X a ta):PE X (.UnaryOp op a pos) (tUn r ta):=by
 (first | refine⟨?_⟩ | skip)
 intro pins s σ H Q I h;exact UnaryOp_ (zU (ha pins s σ H _ I h) λv s1 ⟨x,H1,I1,r1,q1⟩=>ho pins s1 σ H1 x v Q I1 r1 q1)
theorem jN {f:Value->Value->Sem Value}{C:Int->Int->Prop}{g:Int->Int->Int}
  (rule: ∀(i j:Int) (t u:Tok) (s:Shared) (Q:Value->Shared->Prop) (E:Value->Shared->Prop),C i j->Q (.int (g i j) s.toks) {s with toks:=s.toks+1} ->wpAny (model X.prog X.w) X.A (f (.int i t) (.int j u)) Q E s):
  yG X f (rI C λi j=> .int (g i j)):=by
 (first | refine⟨?_⟩ | skip)
 intro pins s σ H x y v u Q I rx ry h;obtain⟨i,j,rfl,rfl,hc,q⟩:=h;obtain⟨t,rfl⟩:=rx;obtain⟨t',rfl⟩:=ry;exact rule i j t t' s _ _ hc ⟨.int (g i j),H,I.tok _,⟨_,rfl⟩,q⟩
theorem zeY {f:Value->Value->Sem Value}{g:Int->Int->Int}
  (rule: ∀(i j:Int) (t u:Tok) (s:Shared) (Q:Value->Shared->Prop) (E:Value->Shared->Prop),Q (.int (g i j) s.toks) {s with toks:=s.toks+1} ->wpAny (model X.prog X.w) X.A (f (.int i t) (.int j u)) Q E s):
  yG X f (rT λi j=> .int (g i j)):=by
 (first | refine⟨?_⟩ | skip)
 intro pins s σ H x y v u Q I rx ry h;obtain⟨i,j,rfl,rfl,q⟩:=h;obtain⟨t,rfl⟩:=rx;obtain⟨t',rfl⟩:=ry;exact rule i j t t' s _ _ ⟨.int (g i j),H,I.tok _,⟨_,rfl⟩,q⟩
theorem jM {f:Value->Value->Sem Value}{g:Int->Int->Bool}
  (rule: ∀(i j:Int) (t u:Tok) (s:Shared) (Q:Value->Shared->Prop) (E:Value->Shared->Prop),Q (.bool (g i j)) s->wpAny (model X.prog X.w) X.A (f (.int i t) (.int j u)) Q E s):
  yG X f (rT λi j=> .bl (g i j)):=by
 (first | refine⟨?_⟩ | skip)
 intro pins s σ H x y v u Q I rx ry h;obtain⟨i,j,rfl,rfl,q⟩:=h;obtain⟨t,rfl⟩:=rx;obtain⟨t',rfl⟩:=ry;exact rule i j t t' s _ _ ⟨.bl (g i j),H,I,rfl,q⟩
def lV (i j:Int):Prop:=0<=j/\j<=1000000/\i.natAbs < 2 ^ 64
def iT (i j:Int):Prop:=(-(2 ^ 64) < i/\i < 2 ^ 64)∨(-(2 ^ 64) < j/\j < 2 ^ 64)
theorem iT.ok {i j:Int}(h:iT i j):IntMulOk i j:=by
 rcases h with⟨h1,h2⟩ | ⟨h1,h2⟩
 ·exact .of_left (intBits_le_64 h1 h2)
 ·exact .of_right (intBits_le_64 h1 h2)
theorem zlv:yG X (binaryOp .Add) (rT λi j=> .int (i+j)):=zeY λ_ _ _ _ _ _ _ q=>add_int q
theorem zlB:yG X (binaryOp .Sub) (rT λi j=> .int (i - j)):=zeY λ_ _ _ _ _ _ _ q=>sub_int q
theorem zl8:yG X (binaryOp .Mult) (rI iT λi j=> .int (i * j)):=jN λ_ _ _ _ _ _ _ hc q=>mul_int q hc.ok
theorem zl7:yG X (binaryOp .Mod) (rI (λ_ j=>0 < j) λi j=> .int (i % j)):=jN λi j _ _ _ _ _ hc q=>by
 have h1:(0:Int) < j:=hc;exact mod_int' (by omega) (by rw[Int.fmod_eq_emod_of_nonneg i (by omega)];exact q)
theorem zlA:yG X (binaryOp .Pow) (rI lV λi j=> .int (i ^ j.toNat)):=jN λ_ _ _ _ _ _ _ hc q=>pow_int_small hc.1 hc.2.1 hc.2.2 q
theorem unI {f:Value->Sem Value}{g:Int->Int}
  (rule: ∀(i:Int) (t:Tok) (s:Shared) (Q:Value->Shared->Prop) (E:Value->Shared->Prop),Q (.int (g i) s.toks) {s with toks:=s.toks+1} ->wpAny (model X.prog X.w) X.A (f (.int i t)) Q E s):
  nW X f (rU λi=> .int (g i)):=by
 (first | refine⟨?_⟩ | skip)
 intro pins s σ H x v Q I rx h;obtain⟨i,rfl,q⟩:=h;obtain⟨t,rfl⟩:=rx;exact rule i t s _ _ ⟨.int (g i),H,I.tok _,⟨_,rfl⟩,q⟩
theorem zoz:nW X (unaryOp .USub) (rU λi=> .int (-i)):=unI λ_ _ _ _ _ q=>neg_int q
end
section
variable {X:Cx} {a b c:Expr} {ta tb tc:TE} {pos:Pos}
theorem zjx {pins:List (Addr×Obj)}{σ:St}{H:Hp}{s:Shared}{Q:VK}{k k':Bool}(I:z5 X pins σ H s)(q:Q (.bl k) H)(e:k=k'):EP X pins σ Q (.bool k') s:=by
 subst e;exact⟨.bl k,H,I,rfl,q⟩
theorem zl6:yG X (compareOp .Lt) (rT λi j=> .bl (decide (i < j))):=jM λ_ _ _ _ _ _ _ q=>lt_int q
theorem zl5:yG X (compareOp .LtE) (rT λi j=> .bl (decide (i<=j))):=jM λ_ _ _ _ _ _ _ q=>le_int q
theorem zl2:yG X (compareOp .Gt) (rT λi j=> .bl (decide (j < i))):=jM λ_ _ _ _ _ _ _ q=>gt_int q
theorem zl1:yG X (compareOp .GtE) (rT λi j=> .bl (decide (j<=i))):=jM λ_ _ _ _ _ _ _ q=>ge_int q
theorem zl4:yG X (compareOp .In) (λx y H Q=> ∃i j,x= .str i/\y= .str j/\Q (.bl (!(Builtin.Str.occurrences j i 0 j.length 1).isEmpty)) H):=by
 (first | refine⟨?_⟩ | skip)
 intro pins s σ H x y v u Q I rx ry h;obtain⟨i,j,rfl,rfl,q⟩:=h;obtain⟨t,rfl⟩:=rx;obtain⟨t',rfl⟩:=ry;exact in_str (zjx I q rfl)
theorem yB (b:Expr){op:CmpOp}(h:op≠ .In:=by decide)(h2:op≠ .NotIn:=by decide):behindInMarks op b=false:=by
 have e1:(op==CmpOp.In)=false:=by cases op <;> first | rfl | exact absurd rfl h
 have e2:(op==CmpOp.NotIn)=false:=by cases op <;> first | rfl | exact absurd rfl h2
 cases b <;> simp[behindInMarks,e1,e2]
theorem zlR {op:CmpOp}{r:R2}(ho:yG X (compareOp op) r)(ha:PE X a ta)(hb:PE X b tb)(hm:behindInMarks op b=false):PE X (.Compare a [op] [b] pos) (lM r ta tb):=by
 (first | refine⟨?_⟩ | skip)
 intro pins s σ H Q I h;exact wpAny_Compare1 (gU ha hb I h λv u s2 x y H2 I2 rx ry q=>ho pins s2 σ H2 x y v u Q I2 rx ry q) hm
def zgu (t:TE):TT:=λσ H Q=>t σ H λx H'=> ∃k,x= .bl k/\Q k H'
theorem zm7 {op:CmpOp}{r:R2}(ho:yG X (compareOp op) r)(ha:PE X a ta)(hb:PE X b tb)(hm:behindInMarks op b=false):PT X (.Compare a [op] [b] pos) (zgu (lM r ta tb)):=by
 (first | refine⟨?_⟩ | skip)
 intro pins s σ H Q I h;refine wpAny_isTrue_Compare1 (zU (ha pins s σ H _ I h) λv s1 ⟨x,H1,I1,r1,q1⟩=>zU (hb pins s1 σ H1 _ I1 q1) λu s2 ⟨y,H2,I2,r2,q2⟩=>
  zU (ho pins s2 σ H2 x y v u _ I2 r1 r2 q2) λc s3 ⟨z,H3,I3,r3,k,e,q3⟩=> ?_) hm
 subst e;cases r3;exact wpAny_truthy_bool ⟨H3,I3,q3⟩
def zgp (r r':R2)(ta tb tc:TE):TE:=λσ H Q=>ta σ H λx H1=>tb σ H1 λy H2=>r x y H2 λz H3=> ∃k,z= .bl k/\
 (if k=true then tc σ H3 λw' H4=>r' y w' H4 Q else Q (.bl false) H3)
theorem zlQ {op op':CmpOp}{r r':R2}(ho:yG X (compareOp op) r)(ho':yG X (compareOp op') r')(ha:PE X a ta)(hb:PE X b tb)(hc:PE X c tc)
  (hm:lastMarks [op,op'] [b,c]=false:=by with_unfolding_all rfl):PE X (.Compare a [op,op'] [b,c] pos) (zgp r r' ta tb tc):=by
 (first | refine⟨?_⟩ | skip)
 intro pins s σ H Q I h;refine Compare_chain (zU (ha pins s σ H _ I h) λv s1 ⟨x,H1,I1,r1,q1⟩=>chain_link (zU (hb pins s1 σ H1 _ I1 q1) λu s2 ⟨y,H2,I2,r2,q2⟩=>
  zU (ho pins s2 σ H2 x y v u _ I2 r1 r2 q2) λd s3 ⟨z,H3,I3,r3,k,e,q3⟩=> ?_)) hm
 subst e;cases r3;refine wpAny_truthy_bool ?_;cases k with
 | false=>exact ite_ff ⟨.bl false,H3,I3,rfl,q3⟩
 | true=>exact ite_tt (chain_last (zU (hc pins s3 σ H3 _ I3 q3) λw' s4 ⟨z',H4,I4,r4,q4⟩=>ho' pins s4 σ H4 y z' u w' Q I4 r2 r4 q4))
def gJ (K:Frag)(x:V)(H:Hp)(k:Bool):Prop:=
 match x with
 | .non=>k=false
 | .bl b=>k=b
 | .int i=>k=(i !=0)
 | .str y=>y.length<=sizeLine/\k=((y.length:Int) !=0)
 | .byt y=>y.size<=sizeLine/\k=((y.size:Int) !=0)
 | .ref p=>(∃xs,yW K H p xs/\k= !xs.isEmpty)∨(∃xs,xQ K H p xs/\k= !xs.isEmpty)∨∃kvs,H p=some (.dK kvs)/\k= !kvs.isEmpty
 | _=>False
theorem zjM {κ:Type}{kvs:List (κ×V)}{vs:List (κ×Value)}(r:KV kvs vs):(!vs.isEmpty)= !kvs.isEmpty:=by
 cases r <;> rfl
theorem zeq {xs:List V}{its:List Value}(r:zH xs its):(!its.toArray.isEmpty)= !xs.isEmpty:=by
 cases r <;> simp
theorem sS:(sizeLine:Nat) < 2 ^ 63:=by rw[sizeLine_eq];decide
theorem zoq:zh6 X (λx H Q=> ∃k,gJ X.K x H k/\Q k H):=by
 (first | refine⟨?_⟩ | skip)
 intro pins s σ H x v Q I rx h;obtain⟨k,e,q⟩:=h;have hl:=sS;have hs:sizeLine=16777216:=sizeLine_eq;cases x with
 | non=>
  cases rx;have e':k=false:=e;subst e';exact truthy_none ⟨H,I,q⟩
 | bl b=>
  cases rx;have e':k=b:=e;subst e';exact wpAny_truthy_bool ⟨H,I,q⟩
 | int i=>
  obtain⟨t,rfl⟩:=rx;have e':k=(i !=0):=e;subst e';exact PySem.P.truthy_int ⟨H,I,q⟩
 | str y=>
  obtain⟨t,rfl⟩:=rx;obtain⟨hy,e'⟩:y.length<=sizeLine/\k=((y.length:Int) !=0):=e;subst e';exact PySem.P.truthy_str (by omega) ⟨H,I.tok _,q⟩
 | byt y=>
  obtain⟨t,rfl⟩:=rx;obtain⟨hy,e'⟩:y.size<=sizeLine/\k=((y.size:Int) !=0):=e;subst e';exact PySem.W.truthy_bytes (by omega) ⟨H,I.tok _,q⟩
 | ref p=>
  cases rx;have e':(∃xs,yW X.K H p xs/\k= !xs.isEmpty)∨(∃xs,xQ X.K H p xs/\k= !xs.isEmpty)∨∃kvs,H p=some (.dK kvs)/\k= !kvs.isEmpty:=e;rcases e' with⟨xs,hx,e'⟩ | ⟨xs,hx,e'⟩ | ⟨kvs,hx,e'⟩
  ·subst e'
   obtain⟨its,r,pl,hz⟩:=I.list hx;have hlen:=r.length;exact wpAny_truthy_list pl.isList (by simp only[List.size_toArray];omega) ⟨H,I.tok _,by rw[zeq r];exact q⟩
  ·subst e'
   obtain⟨its,r,pl,hz⟩:=I.tuple hx;have hlen:=r.length;exact truthy_tuple pl (by simp only[List.size_toArray];omega) ⟨H,I.tok _,by rw[zeq r];exact q⟩
  ·subst e'
   obtain⟨hz,hS,vs,r,m⟩:kvs.length<=sizeLine/\(p==sysModules)=false/\∃vs,KV kvs vs/\s.heap.DictOf (x6 X.prog X.w) p vs:=I.hok p _ hx;have hlen:kvs.length=vs.length:=Paired.length r;exact wpAny_truthy_dict hS m (by omega) ⟨H,I.tok _,by rw[zjM r];exact q⟩
 | _=>exact(show False from e).elim
theorem zm9 (ha:PE X a ta)(he: ∀whole,isTrue a X.env whole=(do let v <- whole;standAt a.pos;holding [v] (truthy v))):
  PT X a (λσ H Q=>ta σ H λx H'=> ∃k,gJ X.K x H' k/\Q k H'):=by
 (first | refine⟨?_⟩ | skip)
 intro pins s σ H Q I h;exact isTrue_plain (zU (ha pins s σ H _ I h) λv s1 ⟨x,H1,I1,r1,q1⟩=>zoq pins s1 σ H1 x v Q I1 r1 q1) (he _)
theorem zlw:yG X (binaryOp .Add) (λx y H Q=> ∃i j,x= .str i/\y= .str j/\i.length+j.length<=sizeLine/\Q (.str (i++j)) H):=by
 (first | refine⟨?_⟩ | skip)
 intro pins s σ H x y v u Q I rx ry h;obtain⟨i,j,rfl,rfl,hz,q⟩:=h;obtain⟨t,rfl⟩:=rx;obtain⟨t',rfl⟩:=ry;exact add_str (λt' tk=>⟨.str (i++j),H,I.tok _,⟨_,rfl⟩,q⟩) hz
theorem qY {x:V}{us:List Value}(r:zH [x] us): ∃u,us= [u]/\zT x u:=by
 cases r with
 | cons r1 r2=>cases r2;exact⟨_,rfl,r1⟩
theorem zoE {x y:V}{us:List Value}(r:zH [x,y] us): ∃u w',us= [u,w']/\zT x u/\zT y w':=by
 cases r with
 | cons r1 r2=>
  cases r2 with
  | cons r3 r4=>cases r4;exact⟨_,_,rfl,r1,r3⟩
theorem zcu:vD X (.type "int") (λxs H Q=>(∃i,xs= [.int i]/\Q (.int i) H)∨∃k,xs= [.bl k]/\Q (.int (if k then 1 else 0)) H):=by
 (first | refine⟨?_⟩ | skip)
 intro pins s σ H xs us Q I r h;rcases h with⟨i,rfl,q⟩ | ⟨k,rfl,q⟩
 ·obtain⟨u,rfl,t,rfl⟩:=qY r
  exact call_int_int ⟨.int i,H,I,⟨_,rfl⟩,q⟩
 ·obtain⟨u,rfl,r1⟩:=qY r
  cases r1;exact call_int_bool ⟨.int (if k then 1 else 0),H,I.tok _,⟨_,rfl⟩,q⟩
def zh2 (K:Frag)(x:V)(H:Hp)(n:Nat):Prop:=
 match x with
 | .str y=>y.length<=sizeLine/\n=y.length
 | .byt y=>y.size<=sizeLine/\n=y.size
 | .ref p=>(∃xs,yW K H p xs/\n=xs.length)∨∃xs,xQ K H p xs/\n=xs.length
 | _=>False
theorem kQ:vD X (.builtin "len") (λxs H Q=> ∃x n,xs= [x]/\zh2 X.K x H n/\Q (.int n) H):=by
 (first | refine⟨?_⟩ | skip)
 intro pins s σ H xs us Q I r h;obtain⟨x,n,rfl,e,q⟩:=h;obtain⟨u,rfl,rx⟩:=qY r;have hl:=sS;have hs:sizeLine=16777216:=sizeLine_eq;cases x with
 | str y=>
  obtain⟨t,rfl⟩:=rx;obtain⟨hy,e'⟩:y.length<=sizeLine/\n=y.length:=e;subst e';exact len_str (by omega) ⟨.int _,H,I.tok _,⟨_,rfl⟩,q⟩
 | byt y=>
  obtain⟨t,rfl⟩:=rx;obtain⟨hy,e'⟩:y.size<=sizeLine/\n=y.size:=e;subst e';exact PySem.W.len_bytes (by omega) ⟨.int _,H,I.tok _,⟨_,rfl⟩,q⟩
 | ref p=>
  cases rx;have e':(∃xs,yW X.K H p xs/\n=xs.length)∨∃xs,xQ X.K H p xs/\n=xs.length:=e;rcases e' with⟨xs,hx,e'⟩ | ⟨xs,hx,e'⟩
  ·subst e'
   obtain⟨its,r',pl,hz⟩:=I.list hx;have hlen:=r'.length;exact Calls.call_len_list pl.isList (by simp only[List.size_toArray];omega) ⟨.int xs.length,H,I.tok _,⟨_,by simp only[List.size_toArray];rw[hlen]⟩,q⟩
  ·subst e'
   obtain⟨its,r',pl,hz⟩:=I.tuple hx;have hlen:=r'.length;exact len_tuple pl (by simp only[List.size_toArray];omega) ⟨.int xs.length,H,I.tok _,⟨_,by simp only[List.size_toArray];rw[hlen]⟩,q⟩
 | _=>exact(show False from e).elim
end
end L2
namespace L2
open PySem PySem.Spec PyProof.Rows
section
variable {prog:Program} {w:World} {A:Around} {E:Value->Shared->Prop} {s:Shared} {K:Frag} {x dx C f:Addr} {mA:Str->Option Value} {name:Str} {v:Value}
end
theorem tQ.some_of {v:V}{o:Option Value}(r:tQ (some v) o): ∃u,o=some u/\zT v u:=by
 cases o with
 | none=>exact(show False from r).elim
 | some u=>exact⟨u,rfl,r⟩
section
variable {P:Program} {w:World} {H H':Hp} {h h':Heap} {a C dx:Addr} {fs fs':List (Str×V)}
end
section
variable {X:Cx} {pins:List (Addr×Obj)} {σ:St} {H:Hp} {s:Shared} {a C dx:Addr} {fs:List (Str×V)} {f:Str} {v:V} {A:Around} {E:Value->Shared->Prop}
end
section
variable {X:Cx} {o e value:Expr} {f:Str} {pos pos' tpos:Pos} {ta tv:TE}
end
section
variable {X:Cx} {pins:List (Addr×Obj)} {σ:St} {H:Hp} {s:Shared} {A:Around} {E:Value->Shared->Prop} {Q:Value->Shared->Prop} {c:Value} {b:Bool}
end
end L2
namespace L2
open PySem PySem.Spec PyProof.Rows
structure y4 (k:Nat)(A:Around):Prop where
 hd:A.handled=none
 dp:A.depth+3 * k+5 < recursionLimit
 un:A.units+16 * k+200 < cLine
theorem y4.mono {j k:Nat}{A:Around}(r:y4 k A)(h:j<=k):y4 j A:=⟨r.hd,by have:=r.dp;omega,by have:=r.un;omega⟩
theorem y4.deeper {k:Nat}{A:Around}(r:y4 (k+1) A)(env:Env):y4 k (A.deeper env):=
 ⟨r.hd,by have:=r.dp;show A.depth+1+3 * k+5 < _;omega,by have:=r.un;show A.units+3+16 * k+200 < _;omega⟩
theorem y4.depth {k:Nat}{A:Around}(r:y4 k A):A.depth < recursionLimit:=by have:=r.dp;omega
theorem y4.units {k:Nat}{A:Around}(r:y4 k A):A.units+64 < cLine:=by have:=r.un;omega
def zgr:TA:=λ_ H Q=>Q [] H
def zbh (ta:TE)(tr:TA):TA:=λσ H Q=>ta σ H λx H1=>tr σ H1 λxs H2=>Q (x::xs) H2
section
variable {X:Cx} {e:Expr} {es:List Expr} {te:TE} {t:TA} {pos:Pos}
theorem zfb:PA X [] zgr:=⟨λ_ _ _ _ H Q I h=>Calls.spliced_nil ⟨[],H,I,.nil,h⟩⟩
theorem zav (ha:PE X e te)(hr:PA X es t)(hs:starEach (e::es) X.env=(false,eval e X.env)::starEach es X.env:=by rfl):PA X (e::es) (zbh te t):=by
 (first | refine⟨?_⟩ | skip)
 intro pos pins s σ H Q I h;rw[hs];show wpAny _ _ (spliced ((false,eval e X.env)::backTo pos (starEach es X.env))) _ _ s;refine Calls.spliced_cons (zU (ha pins s σ H _ I h) λu s1 ⟨x,H1,I1,r1,q1⟩=> ?_);exact zU (hr pos pins s1 σ H1 _ I1 q1) λus s2 ⟨xs,H2,I2,r2,q2⟩=>⟨x::xs,H2,I2,.cons r1 r2,q2⟩
def zgv (t:TA):TE:=λσ H Q=>t σ H λxs H1=>xs.length<=sizeLine/\∀p,H1 p=none->Q (.ref p) (zJ H1 p (.tup xs))
def znT (t:TA):TE:=λσ H Q=>t σ H λxs H1=>xs.length<=sizeLine/\∀p,H1 p=none->Q (.ref p) (zJ H1 p (.lst xs))
theorem zfj {x1}(h:PA X es t):PE X (.Tuple es x1 pos) (zgv t):=by
 (first | refine⟨?_⟩ | skip)
 intro pins s σ H Q I hq;refine wpAny_Tuple_spliced (zU (h pos pins s σ H _ I hq) λus s1 ⟨xs,H1,I1,r,z,q⟩=>⟨by rw[<- r.length];exact z,?_⟩);have hf:H1 s1.heap.objs.size=none:=I1.hok.fresh (Nat.le_refl _);refine⟨.ref s1.heap.objs.size,zJ H1 s1.heap.objs.size (.tup xs),I1.laid (t':=s1.toks) (λb u e=>Heap.get?_push_of_some _ e) (Nat.le_refl _) ?_,rfl,q _ hf⟩;exact⟨z,us,r,⟨_,Heap.get?_push_size _ rfl,rfl,_,rfl,rfl⟩⟩
theorem zfi (h:PA X es t):PE X (.List es pos) (znT t):=by
 (first | refine⟨?_⟩ | skip)
 intro pins s σ H Q I hq;refine wpAny_List_spliced (zU (h pos pins s σ H _ I hq) λus s1 ⟨xs,H1,I1,r,z,q⟩=>⟨by rw[<- r.length];exact z,?_⟩);have hf:H1 s1.heap.objs.size=none:=I1.hok.fresh (Nat.le_refl _);refine⟨.ref s1.heap.objs.size,zJ H1 s1.heap.objs.size (.lst xs),I1.laid (t':=s1.toks) (λb u e=>Heap.get?_push_of_some _ e) (Nat.le_refl _) ?_,rfl,q _ hf⟩;exact⟨z,us,0,r,Heap.get?_push_size _ rfl⟩
end
abbrev Sp:=List V->Hp->VK->XK->Prop
abbrev t6:=List Env->Hp->Shared->XK->Value->Shared->Prop
structure lW (P:Program)(w:World)(K:Frag)(mg:Str->Option Value)(base:Heap)(A:Around)(outer:List Env)(s:Shared)(H:Hp):Prop where
 frames:A.frames=some outer
 mod:Mod K mg base
 bs: ∀b o,base.get? b=some o->s.heap.get? b=some o/\H b=none
 bsz:base.objs.size<=s.heap.objs.size
 funs:s.heap.FunFrames base outer
 frf: ∀b∈vJ outer,H b=none
 hok:xD P w H s.heap
 bare:AllBare s.gens
def CE (outer:List Env)(P:Program)(w:World)(H:Hp)(s:Shared)(Q:VK)(u:Value)(s':Shared):Prop:=
 ∃v H',s'.os=s.os/\AllBare s'.gens/\Un (vJ outer) [] H H' s.heap s'.heap/\xD P w H' s'.heap/\zT v u/\Q v H'
def CR (CX:t6)(outer:List Env)(P:Program)(w:World)(H:Hp)(s:Shared)(Q:VK)(E:XK)(r:Result)(s':Shared):Prop:=
 match r with
 | .ok (.ret u)=>CE outer P w H s Q u s'
 | .ok _=>False
 | .error e=>CX outer H s E e s'
structure zP (P:Program)(w:World)(K:Frag)(mg:Str->Option Value)(base:Heap)(CX:t6)(k:Nat)(f:Addr)(fd:FuncData)(ps:List Str)(sp:Sp):Prop where
 len: ∀vs H Q E,sp vs H Q E->vs.length=ps.length
 run: ∀(A:Around) (outer:List Env) (s:Shared) (H:Hp) (args:Args) (us:List Value) (vs:List V) (Q:VK) (E:XK),y4 k A->lW P w K mg base A outer s H->BindsTo s fd args (ps.zip us)->zH vs us->sp vs H Q E->
  codeAny (model P w) A (.call (.ref f) args) (CR CX outer P w H s Q E) s
section
variable {X:Cx} {pins:List (Addr×Obj)} {σ:St} {H:Hp} {s s':Shared}
theorem z5.env0 (I:z5 X pins σ H s):lW X.prog X.w X.K X.mg X.base X.A X.stack s H:=
 ⟨I.ok.frames,I.ok.mod,I.bs,Nat.le_trans I.ok.bsz I.sz,I.stack,I.stkFree,I.hok,I.bare⟩
theorem z5.after {Q:VK}{u:Value}(I:z5 X pins σ H s)(h:CE X.stack X.prog X.w H s Q u s'):EP X pins σ Q u s':=by
 obtain⟨v,H',os,bare,un,hok,r,q⟩:=h;obtain⟨hh,g,d,t,os'⟩:=s';obtain rfl:os'=s.os:=os;exact⟨v,H',I.call (h':=hh) (g':=g) (d':=d) (t':=t) (ch:= []) un hok bare (λb z=>absurd z (by simp)),r,q⟩
end
def znO (sp:Sp)(dvs:List V)(E:XK)(t:TA):TE:=λσ H Q=>t σ H λvs H1=>sp (vs++dvs) H1 Q E
def x5 (K:Frag)(fd:FuncData)(ps:List Str)(ds:List Value):Prop:=
 ∀(s:Shared) (us:List Value),K.In s.heap->(us++ds).length=ps.length->BindsTo s fd ⟨us,[]⟩ (ps.zip (us++ds))
theorem x5.all {K:Frag}{fd:FuncData}{ps:List Str}(h: ∀us:List Value,us.length=ps.length->bindArgs fd ⟨us,[]⟩=pure (ps.zip us)):x5 K fd ps []:=λs us _ hl=>by
 rw[List.append_nil]at hl⊢
 exact .of_eq (h us hl)
def gF (CX:t6)(X:Cx)(E:XK):Prop:= ∀(pins:List (Addr×Obj)) (σ:St) (H:Hp) (s:Shared) (e:Value) (s':Shared),z5 X pins σ H s->CX X.stack H s E e s'->X.xe e s'
section
variable {X:Cx} {CX:t6} {k:Nat} {f C:Addr} {fd:FuncData} {ps:List Str} {sp:Sp} {dvs:List V} {ds:List Value} {E:XK} {x m:Str} {p pos apos:Pos} {e o:Expr} {es:List Expr} {ta:TE} {t:TA}
theorem znq {pins:List (Addr×Obj)}{σ:St}{H:Hp}{s:Shared}{Q:VK}{us:List Value}{vs:List V}(F:zP X.prog X.w X.K X.mg X.base CX k f fd ps sp)(hr:y4 k X.A)(hb:x5 X.K fd ps ds)(hd:zH dvs ds)(hx:gF CX X E)
  (I:z5 X pins σ H s) (r:zH vs us) (h:sp (vs++dvs) H Q E):wpAny (model X.prog X.w) X.A (call (.ref f) us) (EP X pins σ Q) X.xe s:=by
 have r2:zH (vs++dvs) (us++ds):=r.append hd;have hl:(us++ds).length=ps.length:=by rw[<- r2.length];exact F.len _ _ _ _ h
 refine wpAny_call (codeAny_mono (F.run X.A X.stack s H ⟨us,[]⟩ (us++ds) (vs++dvs) Q E hr I.env0 (hb s us I.kIn hl) r2 h) λr s' hq=> ?_);cases r with
 | error e=>exact hx pins σ H s e s' I hq
 | ok fl=>
  cases fl with
  | ret u=>exact I.after hq
  | next=>exact False.elim hq
  | brk=>exact False.elim hq
  | cont=>exact False.elim hq
theorem zlN (F:zP X.prog X.w X.K X.mg X.base CX k f fd ps sp)(hr:y4 k X.A)(hg:Gl X x)(hm:X.mg x=some (.ref f))(hk:keepIn X.K (.ref f)=true)(hb:x5 X.K fd ps ds)(hd:zH dvs ds)(hx:gF CX X E)
  (ha:PA X (e::es) t) (hdb:(x==("__debug__" :Str))=false:=by decide) (he:starEach (e::es) X.env=(false,eval e X.env)::starEach es X.env:=by rfl) (hpl:(backTo pos (starEach es X.env)).any (·.1)=false:=by rfl):
  PE X (.Call (.Name x p) (e::es) [] pos) (znO sp dvs E t):=by
 (first | refine⟨?_⟩ | skip)
 intro pins s σ H Q I h;refine wpAny_Call_Name_kw (zkl I hg hm ?_ hdb);refine PySem.W.callWith_K (h₀:=X.base) I.ok.mod.kin hk (zU (ha pos pins s σ H _ I h) λus s1 ⟨vs,H1,I1,r,q⟩=>⟨I1.kIn,?_⟩) he hpl;exact znq F hr hb hd hx I1 r q
end
structure PK (X:Cx)(kws:List Keyword)(t:TA):Prop where
 run:
  ∀(pos:Pos) (pins:List (Addr×Obj)) (s:Shared) (σ:St) (H:Hp) (Q:List V->Hp->Prop),z5 X pins σ H s->t σ H Q->wpAny (model X.prog X.w) X.A (evalAll ((backToKw pos (keywordEach kws X.env)).map (·.2))) (AP X pins σ Q) X.xe s
instance {X:Cx} {kws:List Keyword} {t:TA} :CoeFun (PK X kws t) λ_=>
 ∀(pos:Pos) (pins:List (Addr×Obj)) (s:Shared) (σ:St) (H:Hp) (Q:List V->Hp->Prop),z5 X pins σ H s->t σ H Q->wpAny (model X.prog X.w) X.A (evalAll ((backToKw pos (keywordEach kws X.env)).map (·.2))) (AP X pins σ Q) X.xe s
  :=⟨PK.run⟩
section
variable {X:Cx} {CX:t6} {k:Nat} {f C:Addr} {fd:FuncData} {ps ks:List Str} {sp:Sp} {E:XK} {x m:Str} {p pos apos kpos:Pos} {e o:Expr} {es:List Expr} {kws:List Keyword} {te ta:TE} {t tk:TA} {nm:Option Str}
variable {g:List Value->List Value->List Value} {gV:List V->List V->List V}
end
structure xH (N P:List Str)(sc:Scope):Prop where
 kind:sc.kind= .function
 co:sc.isCoroutine=false
 gen:sc.isGenerator=false
 nd:N.Nodup
 pre:N.take P.length=P
 par: ∀x∈P,sc.names.lookup x=some .local∨sc.names.lookup x=some .cell
 nofree: ∀y∈sc.names,y.2≠ .free
theorem zcq {kindOf:Str->Option NameKind}{x:Str} : ∀{binds:List (Str×Value)} {m:Str->Option Value},(∀v,(x,v)∉binds)->bindL kindOf binds m x=m x
 | [],_,_=>rfl
 | (n,v)::r,m,h=>by
  unfold bindL;rw[zcq λw hw=>h w (List.mem_cons_of_mem _ hw)]
  split
  ·have:x≠n:=by rintro rfl;exact h v List.mem_cons_self
   simp[this]
  ·rfl
theorem zco {kindOf:Str->Option NameKind}{x:Str} : ∀{binds:List (Str×Value)} {m:Str->Option Value},(∀v,(x,v)∉binds)->bindC kindOf binds m x=m x
 | [],_,_=>rfl
 | (n,v)::r,m,h=>by
  unfold bindC;rw[zco λw hw=>h w (List.mem_cons_of_mem _ hw)]
  split
  ·rfl
  ·have:x≠n:=by rintro rfl;exact h v List.mem_cons_self
   simp[this]
theorem zcp {kindOf:Str->Option NameKind}{x:Str}{v:Value} : ∀{P:List Str} {vs:List Value} {i:Nat} {m:Str->Option Value},P.Nodup->P[i]?=some x->vs[i]?=some v->kindOf x=some .local->
  bindL kindOf (P.zip vs) m x=some v
 | [],_,_,_,_,h,_,_=>by simp at h
 | _::_,[],_,_,_,_,h,_=>by simp at h
 | p::P,w::vs,0,m,nd,h1,h2,hk=>by
  simp at h1 h2;subst h1;subst h2;show bindL kindOf ((p,w)::P.zip vs) m p=_;unfold bindL;rw[zcq λv hv=>(List.nodup_cons.mp nd).1 (List.of_mem_zip hv).1,if_pos hk];simp
 | p::P,w::vs,i+1,m,nd,h1,h2,hk=>by
  show bindL kindOf ((p,w)::P.zip vs) m x=_;unfold bindL;exact zcp (i:=i) (List.nodup_cons.mp nd).2 (by simpa using h1) (by simpa using h2) hk
theorem zcn {kindOf:Str->Option NameKind}{x:Str}{v:Value} : ∀{P:List Str} {vs:List Value} {i:Nat} {m:Str->Option Value},P.Nodup->P[i]?=some x->vs[i]?=some v->kindOf x≠some .local->
  bindC kindOf (P.zip vs) m x=some v
 | [],_,_,_,_,h,_,_=>by simp at h
 | _::_,[],_,_,_,_,h,_=>by simp at h
 | p::P,w::vs,0,m,nd,h1,h2,hk=>by
  simp at h1 h2;subst h1;subst h2;show bindC kindOf ((p,w)::P.zip vs) m p=_;unfold bindC;rw[zco λv hv=>(List.nodup_cons.mp nd).1 (List.of_mem_zip hv).1,if_neg hk];simp
 | p::P,w::vs,i+1,m,nd,h1,h2,hk=>by
  show bindC kindOf ((p,w)::P.zip vs) m x=_;unfold bindC;exact zcn (i:=i) (List.nodup_cons.mp nd).2 (by simpa using h1) (by simpa using h2) hk
def start (N:List Str)(vs:List V):St:=vs.map some++List.replicate (N.length - vs.length) none
def pA (CX:t6)(P:Program)(w:World)(K:Frag)(mg:Str->Option Value)(base:Heap)(N:List Str)(qual:Str)(scope:Scope)(f:Addr)(cd:Value)(A:Around)(outer:List Env)(s:Shared)(H:Hp)(E:XK):Cx where
 prog:=P
 w:=w
 K:=K
 mg:=mg
 base:=base
 A:=A.deeper (envOfC qual scope s.heap.objs.size f cd)
 N:=N
 s₀:=s
 H₀:=H
 env:=envOfC qual scope s.heap.objs.size f cd
 outer:=outer
 stack:=envOfC qual scope s.heap.objs.size f cd::outer
 ex:= []
 calm:=true
 fn:=λ_=>true
 pn:= []
 xe:=λe s'=>wpAny (model P w) (A.deeper (envOfC qual scope s.heap.objs.size f cd)) (leaving (envOfC qual scope s.heap.objs.size f cd) e) (λ_ s''=>CX outer H s E e s'') (λe' s''=>CX outer H s E e' s'') s'
theorem zcy {sc:Scope}{n:Nat}{x:Str}(h:sc.names.lookup x=some .cell): ∃c,(cellsFrom n sc.names []).lookup x=some c:=by
 have q:=PySem.W.cellsFrom_some sc.names n [] (.inl h);exact Option.isSome_iff_exists.mp q
theorem zjL {CX:t6}{P:Program}{w:World}{K:Frag}{mg:Str->Option Value}{base:Heap}{N ps:List Str}{qual:Str}{scope:Scope}{f:Addr}{cd:Value}{A:Around}{outer:List Env}{s s1:Shared}{H:Hp}{E:XK}{us:List Value}{vs:List V}
  (S:xH N ps scope) (hd:A.handled=none) (e0:lW P w K mg base A outer s H) (hl:vs.length=ps.length) (r:zH vs us)
  (x:InCallC s s.heap.objs.size (bindL (envOfC qual scope s.heap.objs.size f cd).kindOf (ps.zip us) λ_=>none) (cellsFrom (s.heap.objs.size+1) scope.names []) (bindC (envOfC qual scope s.heap.objs.size f cd).kindOf (ps.zip us) λ_=>none) s1):
  z5 (pA CX P w K mg base N qual scope f cd A outer s H E) [] (start N vs) H s1:=by
 have hpl:ps.length<=N.length:=by have:=congrArg List.length S.pre;rw[List.length_take]at this;omega
 obtain⟨h1,tk,rfl,hk⟩:=x.done;have noA: ∀b:Addr,b∉(pA CX P w K mg base N qual scope f cd A outer s H E).ex:=λb z=>absurd (show b∈([]:List Addr)from z) (by simp);refine⟨⟨e0.mod,S.kind,rfl,rfl,Nat.le_refl _,λy z c h1 h2=> ?_,λy hy=> ?_,λy c _ h=> ?_,λ_=>hd,Around.frames_deeper e0.frames,.inr ⟨rfl,rfl⟩,λb z=>absurd z (noA b),e0.bs,e0.bsz,λb _ _=>noA b,λb z=>absurd z (noA b),e0.funs,e0.frf⟩,
  rfl,e0.bare,Un.kept hk,⟨_,x.toInCall.ns,λi y v h1 h2 h3=> ?_⟩,λy c h=>⟨_,x.cell y c h⟩,e0.hok.fresh (Nat.le_refl _),λy c h=> ?_,λp hp=>absurd (show p∈([]:List (Addr×Obj))from hp) (by simp),e0.hok.kept hk,?_⟩
 ·exact name_of_addr x.apart (PySem.mem_of_lookup h1) (PySem.mem_of_lookup h2)
 ·have hy:scope.names.lookup y=some .cell∨scope.names.lookup y=some .free:=hy
  rcases hy with hy | hy
  ·exact zcy hy
  ·exact absurd rfl (S.nofree _ (PySem.mem_of_lookup hy))
 ·exact Nat.le_of_lt (x.above y c (PySem.mem_of_lookup h))
 ·have hi:i < vs.length:=by
   unfold start at h2;by_cases hi:i < vs.length
   ·exact hi
   ·rw[List.getElem?_append_right (by simpa using hi)]at h2
    rw[List.getElem?_replicate]at h2
    split at h2 <;> cases h2
  have ha:vs[i]?=some v:=by
   unfold start at h2;rw[List.getElem?_append_left (by simpa using hi),List.getElem?_map]at h2;cases e:vs[i]? with
   | none=>rw[e]at h2;cases h2
   | some a=>rw[e]at h2;cases h2;rfl
  obtain⟨u,hu,rv⟩:=r.get ha;have hp:ps[i]?=some y:=by
   rw[<- S.pre,List.getElem?_take_of_lt (by omega)];exact h1
  have ndP:ps.Nodup:=by rw[<- S.pre];exact S.nd.sublist (List.take_sublist _ _)
  refine⟨u,rv,?_⟩;rcases S.par y (List.mem_of_getElem? hp)with k | k
  ·exact .inl ⟨k,zcp ndP hp hu k⟩
  ·obtain⟨c,e⟩:=zcy (n:=s.heap.objs.size+1) k
   refine .inr ⟨.inl k,c,e,?_⟩;have q:=x.cell y c e;rw[zcn ndP hp hu (by show scope.names.lookup y≠_;rw[k];decide)]at q;exact q
 ·exact e0.hok.fresh (Nat.le_of_lt (x.above y c (PySem.mem_of_lookup h)))
 ·unfold start
  show _=N.length;rw[List.length_append,List.length_map,List.length_replicate];omega
theorem zj0 {CX:t6}{P:Program}{w:World}{K:Frag}{mg:Str->Option Value}{base:Heap}{k:Nat}{f:Addr}{name qual:Str}{params:Arguments}{body:List Stmt}{scope:Scope}{dV kV doc pm cdv ct oc:Value}{an od:Option Addr}
  {osl:Array (Option Value)} {N ps:List Str} {sp:Sp} (lk:K.lookup f=some ⟨oc,od,.func (fnOf name qual params body scope dV kV doc pm an cdv ct),osl⟩) (hcd:codeIn K cdv qual=true) (S:xH N ps scope)
  (len: ∀vs H Q E,sp vs H Q E->vs.length=ps.length)
  (hbody: ∀(A:Around) (outer:List Env) (s:Shared) (H:Hp) (vs:List V) (Q:VK) (E:XK),y4 k (A.deeper (envOfC qual scope s.heap.objs.size f cdv))->sp vs H Q E->
   ∃t,xI (pA CX P w K mg base N qual scope f cdv A outer s H E) body t/\t {nx:=λ_ H'=>Q .non H',rt:=Q} (start N vs) H):
  zP P w K mg base CX (k+1) f (fnOf name qual params body scope dV kV doc pm an cdv ct) ps sp:=by
 refine⟨len,λA outer s H args us vs Q E hr e0 hb r hsp=> ?_⟩;have hl:=len _ _ _ _ hsp;have KX:K.In s.heap:=e0.mod.kin.keeps λb o e=>(e0.bs b o e).1;have lim:s.heap.NoLimit:=e0.mod.nolimit.keeps λb o e=>(e0.bs b o e).1;have hkind: ∀y∈ps.zip us,scope.names.lookup y.1=some .local∨(scope.names.lookup y.1=some .cell/\((cellsFrom (s.heap.objs.size+1) scope.names []).lookup y.1).isSome=true):=λ⟨n,v⟩ hy=>by
  rcases S.par n (List.of_mem_zip hy).1 with q | q
  ·exact .inl q
  ·exact .inr ⟨q,PySem.W.cellsFrom_some _ _ _ (.inl q)⟩
 refine codeAny_call_function hr.depth (KX _ _ lk) rfl S.co S.gen rfl (PySem.W.codeRec_of KX hcd) (hb _ _ _ _ ?_);refine wpAny_newFunctionEnv_cells S.kind hkind λenv he s1 x=> ?_;subst he;refine⟨lim.keeps x.toInCall.keep,codeAny_func ?_⟩;obtain⟨t,ht,hq⟩:=hbody A outer s H vs Q E (hr.deeper _) hsp;have I:z5 (pA CX P w K mg base N qual scope f cdv A outer s H E) [] (start N vs) H s1:=zjL S hr.hd e0 hl r x;refine wpAny_mono (ht [] s1 (start N vs) H _ I hq) (λfl s' hs=> ?_) λe s' hs=>hs;have fin: ∀{σ':St} {H':Hp} {v:V} {u:Value},z5 (pA CX P w K mg base N qual scope f cdv A outer s H E) [] σ' H' s'->zT v u->Q v H'->CE outer P w H s Q u s':=
  λ{σ' H' v u} J rv q=>⟨v,H',J.os,J.bare,J.base,J.hok,rv,q⟩
 cases fl with
 | ret u=>
  obtain⟨v,σ',H',J,rv,q⟩:=hs;exact fin J rv q
 | next=>
  obtain⟨σ',H',J,q⟩:=hs;exact fin (v:=V.non) (u:=Value.none) J rfl q
 | brk=>
  obtain⟨_,_,_,q⟩:=hs;exact False.elim q
 | cont=>
  obtain⟨_,_,_,q⟩:=hs;exact False.elim q
end L2
namespace L2
open PySem PySem.Spec PyProof.Rows
section
variable {X:Cx} {x:Str} {p pos:Pos} {e:Expr} {es:List Expr} {t:TA} {id T:String} {r:List V->Hp->VK->Prop}
def tCB (r:List V->Hp->VK->Prop)(t:TA):TE:=λσ H Q=>t σ H λvs H1=>r vs H1 Q
theorem zlO (hc:vD X (.builtin id) r)(hg:Gl X x)(hm:X.mg x=none)(hv:bootBuiltins x=some (.builtin id))(ha:PA X (e::es) t)(hn:x≠ "__name__" :=by decide)(hdb:(x==("__debug__" :Str))=false:=by decide)
  (he:starEach (e::es) X.env=(false,eval e X.env)::starEach es X.env:=by rfl) (hpl:(backTo pos (starEach es X.env)).any (·.1)=false:=by rfl):PE X (.Call (.Name x p) (e::es) [] pos) (tCB r t):=by
 (first | refine⟨?_⟩ | skip)
 intro pins s σ H Q I h;refine wpAny_Call_Name_kw (tX I hg hm hv ?_ hn hdb);exact PyProof.Rows.callWith_builtin1 (zU (ha pos pins s σ H _ I h) λus s1 ⟨vs,H1,I1,r1,q1⟩=>hc pins s1 σ H1 vs us Q I1 r1 q1) he hpl
theorem zlP (hc:vD X (.type T) r)(hg:Gl X x)(hm:X.mg x=none)(hv:bootBuiltins x=some (.type T))(ha:PA X (e::es) t)(hn:x≠ "__name__" :=by decide)(hdb:(x==("__debug__" :Str))=false:=by decide)
  (he:starEach (e::es) X.env=(false,eval e X.env)::starEach es X.env:=by rfl) (hpl:(backTo pos (starEach es X.env)).any (·.1)=false:=by rfl):PE X (.Call (.Name x p) (e::es) [] pos) (tCB r t):=by
 (first | refine⟨?_⟩ | skip)
 intro pins s σ H Q I h;refine wpAny_Call_Name_kw (tX I hg hm hv ?_ hn hdb);exact callWith_type1 (zU (ha pos pins s σ H _ I h) λus s1 ⟨vs,H1,I1,r1,q1⟩=>hc pins s1 σ H1 vs us Q I1 r1 q1) he hpl
end
end L2
namespace HT
open PySem PyProof.Rows
section
open PySem.SeqAt
open PySem.AutoSeq1 (wpAny_loadPart')
open PySem.MeetsSeq PySem.MeetsSeq2 PySem.MeetsSeq3
end
section
variable {prog:Program} {w:World} {A:Around} {E:Value->Shared->Prop} {s:Shared}
theorem cat_tup {t b:Addr}{vs ws:List Value}{Q:Value->Shared->Prop}(ht:IsTup s.heap t vs.toArray)(hb:IsTup s.heap b ws.toArray)(hv:vs≠ [])
  (h1:ws= []->Q (.ref t) s) (h2:ws≠ []->Q (.ref s.heap.objs.size) {s with heap:=s.heap.push {cls:= .type "tuple",data:= .seq (vs++ws).toArray}})
  (hsz:vs.length+ws.length<=sizeLine):wpAny (model prog w) A (binaryOp .Add (.ref t) (.ref b)) Q E s:=by
 obtain⟨⟨cls,dd,data,sl⟩,ho,hc,n,hd⟩:=id ht;obtain⟨⟨cls2,dd2,data2,sl2⟩,ho2,hc2,n2,hd2⟩:=id hb;simp only at hc hd hc2 hd2;subst hc hd hc2 hd2;have e:vs.toArray++ws.toArray=(vs++ws).toArray:=by simp
 by_cases hw:ws= []
 ·exact concat_meets ⟨_,ho,rfl⟩ ⟨_,ho2,rfl⟩ noFill_tuple_add seq_tuple_add PySem.F.slot_tuple_add PySem.F.entry_tuple_add (PySem.F.args_tuple_add_2 _ _)
   (tuple_addW1 t b vs.toArray ws.toArray n n2 dd dd2 sl sl2 (by simpa using hv) (by simp[hw])) ⟨ho,ho2,h1 hw⟩
 ·refine concat_meets ⟨_,ho,rfl⟩ ⟨_,ho2,rfl⟩ noFill_tuple_add seq_tuple_add PySem.F.slot_tuple_add PySem.F.entry_tuple_add (PySem.F.args_tuple_add_2 _ _)
   (tuple_addW2 t b vs.toArray ws.toArray n n2 dd dd2 sl sl2 (by simpa using hv) (by simpa using hw) (by rw[List.size_toArray,List.size_toArray];exact hsz)) ⟨ho,ho2,?_⟩
  rw[e];exact h2 hw
def sIx (n d:Nat):Option Int->Nat
 | none=>d
 | some v=>if v < 0 then(v+(n:Int)).toNat else min v.toNat n
theorem sIx_none (n d:Nat):sIx n d none=d:=rfl
theorem sIx_nat (n d k:Nat):sIx n d (some (k:Int))=min k n:=by
 show(if(k:Int) < 0 then((k:Int)+(n:Int)).toNat else min (k:Int).toNat n)=min k n;rw[if_neg (by omega),Int.toNat_natCast]
theorem zns (n d:Nat)(hd:d<=n)(o:Option Int):sIx n d o<=n:=by
 cases o with
 | none=>exact hd
 | some v=>
  show(if v < 0 then(v+(n:Int)).toNat else min v.toNat n)<=n;by_cases hv:v < 0
  ·rw[if_pos hv];omega
  ·rw[if_neg hv];exact Nat.min_le_right _ _
theorem zc3 (v:Int)(n d:Nat):(if v < 0 then max (v+(n:Int)) 0 else min v (n:Int))=((sIx n d (some v):Nat):Int):=by
 show(if v < 0 then max (v+(n:Int)) 0 else min v (n:Int))=(((if v < 0 then(v+(n:Int)).toNat else min v.toNat n):Nat):Int);by_cases hv:v < 0
 ·simp only[if_pos hv];omega
 ·simp only[if_neg hv];omega
theorem zhA (lo hi:Option Int)(n:Nat):Builtin.Slice.sliceAdjust lo hi 1 (n:Int)=(((sIx n 0 lo:Nat):Int),((sIx n n hi:Nat):Int)):=by
 have h1: ¬ ((1:Int) < 0):=by omega
 unfold Builtin.Slice.sliceAdjust;simp only[h1,if_false];refine Prod.ext ?_ ?_
 ·cases lo with
  | none=>rfl
  | some v=>exact zc3 v n 0
 ·cases hi with
  | none=>rfl
  | some v=>exact zc3 v n n
theorem zms (i j:Nat):Builtin.Slice.slicePlaces (i:Int) (j:Int) 1=j - i:=by
 unfold Builtin.Slice.slicePlaces;have h1:(1:Int) > 0:=by omega
 simp only[h1,if_true,Int.ediv_one]
 split <;> omega
theorem zfO {v:Value}{o:Option Int}{Q:Option Int->Shared->Prop}(p:IsPart v o)(h:Q o s):wpAny (model prog w) A (Builtin.Slice.slicePartIndex v) Q E s:=by
 cases p with
 | none=>exact slicePart_none h
 | int i t=>exact slicePart_int h
theorem sliceApplied_gen {sl:Addr}{vl vu:Value}{lo hi:Option Int}{n:Nat}{Q:Int×Int×Nat->Shared->Prop}(hs:s.heap.IsSliceOf sl vl vu .none)(pl:IsPart vl lo)(pu:IsPart vu hi)
  (h:Q (((sIx n 0 lo:Nat):Int),1,sIx n n hi - sIx n 0 lo) s):wpAny (model prog w) A (Builtin.Slice.sliceApplied (.ref sl) (pure (n:Int))) Q E s:=by
 obtain⟨os,hos,hcs,hds⟩:=id hs;unfold Builtin.Slice.sliceApplied Builtin.Slice.sliceFields;refine wpAny_bind (wpAny_bind (wpAny_field hos hds (x:=vl) rfl (wpAny_bind (wpAny_field hos hds (x:=vu) rfl (wpAny_bind (wpAny_field hos hds (x:= .none) rfl (wpAny_pure ?_)))))));refine wpAny_bind (slicePart_none ?_);show wpAny _ _ (if((1:Int)==0)=true then _ else _) _ _ s;rw[if_neg (by decide)];refine wpAny_bind (zfO pl (wpAny_bind (zfO pu (wpAny_bind (wpAny_pure ?_)))));show wpAny _ _ (match Builtin.Slice.sliceAdjust lo hi 1 (n:Int)with | (lo,hi)=>pure (lo,(1:Int),Builtin.Slice.slicePlaces lo hi 1)) _ _ s;rw[zhA lo hi n];show wpAny _ _ (pure (((sIx n 0 lo:Nat):Int),(1:Int),Builtin.Slice.slicePlaces ((sIx n 0 lo:Nat):Int) ((sIx n n hi:Nat):Int) 1)) _ _ s;rw[zms];exact wpAny_pure h
theorem zmq (xs:Array Value)(i k:Nat):((List.range k).filterMap λ(m:Nat)=>xs[((i:Int)+(m:Int) * 1).toNat]?).toArray=((xs.toList.drop i).take k).toArray:=by
 have e:(λ(m:Nat)=>xs[((i:Int)+(m:Int) * 1).toNat]?)=λm=>xs[i+m]?:=by
  funext m
  have:((i:Int)+(m:Int) * 1).toNat=i+m:=by omega
  rw[this]
 rw[e];have:=pick_run xs i k;rw[List.filterMap_map]at this;have e2:((λx=>xs[x]?) ∘ λx=>i+x)=λm=>xs[i+m]?:=rfl;rw[e2]at this;rw[this]
theorem getItem_tuple_cut {t sl:Addr}{items:Array Value}{vl vu:Value}{lo hi:Option Int}{Q:Value->Shared->Prop}(ht:IsTup s.heap t items)(hs:s.heap.IsSliceOf sl vl vu .none)(pl:IsPart vl lo)(pu:IsPart vu hi)
  (hw: ¬ (sIx items.size 0 lo=0/\sIx items.size items.size hi=items.size))
  (h:Q (.ref s.heap.objs.size) {s with heap:=s.heap.push {cls:= .type "tuple",data:= .seq ((items.toList.drop (sIx items.size 0 lo)).take (sIx items.size items.size hi - sIx items.size 0 lo)).toArray}})
  (hsz:items.size<=sizeLine):wpAny (model prog w) A (getItem (.ref t) (.ref sl)) Q E s:=by
 have htake:sizeOk (.seq ((items.toList.drop (sIx items.size 0 lo)).take (sIx items.size items.size hi - sIx items.size 0 lo)).toArray):=by
  show((items.toList.drop (sIx items.size 0 lo)).take (sIx items.size items.size hi - sIx items.size 0 lo)).toArray.size<=sizeLine;rw[List.size_toArray,List.length_take,List.length_drop,Array.length_toList];omega
 have hj:sIx items.size items.size hi<=items.size:=zns _ _ (Nat.le_refl _) hi;obtain⟨os,hos,hcs,hds⟩:=id hs;have hTs:s.TypeIs (.ref sl) "slice" :=⟨os,hos,hcs⟩;unfold getItem
 try with_reducible refine wpAny_holding ?_
 first | refine wpAny_bind (wpAny_pure ?_) | skip
 refine wpAny_bind (wpAny_sequenceKey ht.typeIs (by decide) ?_);refine wpAny_bind (wpAny_callSpecial?_slot (name:=Str.ofString "__getitem__") ht.typeIs PyProof.Rows.slot_tuple_getitem
  (wpAny_call_entry PyProof.Rows.slot_tuple_getitem ht.typeIs entry_tuple_getitem ?_ (args_tuple_getitem _ _)))
 show wpAny _ _ (Builtin.Tuple.tupleItemsOf (.ref t) >>= _) _ _ s;refine wpAny_bind (tupleItemsOf_ ht ?_);refine wpAny_bind (wpAny_typeOf hTs ?_);rw[if_pos (by decide)];refine wpAny_bind (sliceApplied_gen hs pl pu ?_);have hno: ¬ ((((sIx items.size 0 lo:Nat):Int)==0&&(1:Int)==1&&(sIx items.size items.size hi - sIx items.size 0 lo)==items.size)=true):=by
  intro q;rw[Bool.and_eq_true,Bool.and_eq_true]at q;have q1:((sIx items.size 0 lo:Nat):Int)=0:=eq_of_beq q.1.1;have q2:sIx items.size items.size hi - sIx items.size 0 lo=items.size:=eq_of_beq q.2;exact hw ⟨by omega,by omega⟩
 show wpAny _ _ (if(((sIx items.size 0 lo:Nat):Int)==0&&(1:Int)==1&&(sIx items.size items.size hi - sIx items.size 0 lo)==items.size)=true then _ else _) _ _ s;rw[if_neg hno,zmq]
 first
  | exact wpAny_bind (m:=Builtin.Tuple.tupleExact _) (wpAny_newObj_type (wpAny_pure ⟨_,rfl,wpAny_pure h⟩) htake)
  | exact wpAny_bind (m:=Builtin.Tuple.tupleExact _) (wpAny_newObj_type (wpAny_bind (wpAny_pure (wpAny_pure ⟨_,rfl,wpAny_pure h⟩))) htake)
  | exact wpAny_bind (wpAny_bind (m:=Builtin.Tuple.tupleExact _) (wpAny_newObj_type (wpAny_pure (wpAny_pure ⟨_,rfl,wpAny_pure h⟩)) htake))
  | exact wpAny_bind (wpAny_bind (m:=Builtin.Tuple.tupleExact _) (wpAny_newObj_type (wpAny_pure ⟨_,rfl,wpAny_pure h⟩) htake))
end
end HT
namespace L2
open PySem PySem.Spec PyProof.Rows
abbrev TO:=St->Hp->(Option Int->Hp->Prop)->Prop
structure PO (X:Cx)(e:Option Expr)(t:TO):Prop where
 run:
  ∀(pins:List (Addr×Obj)) (s:Shared) (σ:St) (H:Hp) (Q:Option Int->Hp->Prop),z5 X pins σ H s->t σ H Q->
   wpAny (model X.prog X.w) X.A (evalPart e X.env) (λu s'=> ∃o H',z5 X pins σ H' s'/\IsPart u o/\Q o H') X.xe s
instance {X:Cx} {e:Option Expr} {t:TO} :CoeFun (PO X e t) λ_=>
 ∀(pins:List (Addr×Obj)) (s:Shared) (σ:St) (H:Hp) (Q:Option Int->Hp->Prop),z5 X pins σ H s->t σ H Q->
  wpAny (model X.prog X.w) X.A (evalPart e X.env) (λu s'=> ∃o H',z5 X pins σ H' s'/\IsPart u o/\Q o H') X.xe s
  :=⟨PO.run⟩
def znZ:TO:=λ_ H Q=>Q none H
def zoc (t:TE):TO:=λσ H Q=>t σ H λx H1=> ∃i,x= .int i/\Q (some i) H1
section
variable {X:Cx} {e:Expr} {te:TE} {lo hi:Option Expr} {tl th:TO} {pos p2:Pos}
theorem zmt:PO X none znZ:=by
 (first | refine⟨?_⟩ | skip)
 intro pins s σ H Q I h;rw[evalPart_none];exact wpAny_pure ⟨none,H,I,.none,h⟩
theorem zmu (h:PE X e te):PO X (some e) (zoc te):=by
 (first | refine⟨?_⟩ | skip)
 intro pins s σ H Q I hw;rw[evalPart_some];refine zU (h pins s σ H _ I hw) λu s1 ⟨x,H1,I1,r1,q1⟩=> ?_;obtain⟨i,rfl,q⟩:=q1;obtain⟨t,rfl⟩:=r1;exact⟨some i,H1,I1,.int i t,q⟩
def nV (X:Cx)(r:V->Option Int->Option Int->Hp->VK->Prop):Prop:=
 ∀(pins:List (Addr×Obj)) (s:Shared) (σ:St) (H:Hp) (x:V) (v vl vu:Value) (lo hi:Option Int) (sl:Addr) (Q:VK),z5 X pins σ H s->zT x v->s.heap.IsSliceOf sl vl vu .none->IsPart vl lo->IsPart vu hi->r x lo hi H Q->
  ∃T id,typeLookup (.type T) "__getitem__" =pure (some (.builtin id))/\s.TypeIs v T/\wpAny (model X.prog X.w) X.A (getItem v (.ref sl)) (EP X pins σ Q) X.xe s
def tSl (r:V->Option Int->Option Int->Hp->VK->Prop)(te:TE)(tl th:TO):TE:=λσ H Q=>te σ H λx H1=>tl σ H1 λl H2=>th σ H2 λu H3=>r x l u H3 Q
theorem zmc {r:V->Option Int->Option Int->Hp->VK->Prop}(hr:nV X r)(he:PE X e te)(hl:PO X lo tl)(hu:PO X hi th):PE X (.Subscript e (.Slice lo hi none p2) pos) (tSl r te tl th):=by
 (first | refine⟨?_⟩ | skip)
 intro pins s σ H Q I h;refine Subscript_ (zU (he pins s σ H _ I h) λv s1 ⟨x,H1,I1,r1,q1⟩=> ?_);refine wpAny_Slice (zU (hl pins s1 σ H1 _ I1 q1) λvl s2 ⟨l,H2,I2,pl,q2⟩=>zU (hu pins s2 σ H2 _ I2 q2) λvu s3 ⟨u,H3,I3,pu,q3⟩=> ?_);rw[evalPart_none];refine wpAny_pure ?_;have I4:z5 X pins σ H3 {s3 with heap:=s3.heap.push {cls:= .type "slice",data:= .fields #[vl,vu,.none]}} :=I3.kept (t':=s3.toks) λb ob q=>Heap.get?_push_of_some _ q;obtain⟨T,id,hT,ht,hg⟩:=hr pins {s3 with heap:=s3.heap.push {cls:= .type "slice",data:= .fields #[vl,vu,.none]}} σ H3 x v vl vu l u s3.heap.objs.size Q I4 r1 (Heap.IsSliceOf.new ..) pl pu q3;show wpAny (model X.prog X.w) X.A (subscriptTail e (.Slice lo hi none p2) v (.ref s3.heap.objs.size)) (EP X pins σ Q) X.xe {s3 with heap:=s3.heap.push {cls:= .type "slice",data:= .fields #[vl,vu,.none]}};exact tail_any (ops:= [.ref s3.heap.objs.size,v]) ht hT hg (by with_unfolding_all rfl)
def qE (xs:List V)(lo hi:Option Int):List V:=(xs.drop (HT.sIx xs.length 0 lo)).take (HT.sIx xs.length xs.length hi - HT.sIx xs.length 0 lo)
theorem kX (xs:List V)(lo hi:Option Int):(qE xs lo hi).length<=xs.length:=by
 unfold qE;rw[List.length_take,List.length_drop];omega
def znj (K:Frag):V->Option Int->Option Int->Hp->VK->Prop:=λx lo hi H Q=> ∃a xs,x= .ref a/\xQ K H a xs/\
 ¬ (HT.sIx xs.length 0 lo=0/\HT.sIx xs.length xs.length hi=xs.length)/\∀p,H p=none->Q (.ref p) (zJ H p (.tup (qE xs lo hi)))
theorem znD:nV X (znj X.K):=by
 (first | refine⟨?_⟩ | skip)
 intro pins s σ H x v vl vu lo hi sl Q I rx hs pl pu h;obtain⟨a,xs,rfl,hx,hw,q⟩:=h;cases rx;obtain⟨its,r,ht,hz⟩:=I.tuple hx;have hlen:its.toArray.size=xs.length:=by rw[List.size_toArray];exact r.length.symm
 refine⟨"tuple",_,PyProof.Rows.slot_tuple_getitem.lookup,ht.typeIs,?_⟩;refine HT.getItem_tuple_cut ht hs pl pu (by rw[hlen];exact hw) ?_ (by rw[hlen];exact hz);rw[hlen];refine⟨.ref s.heap.objs.size,_,I.laid (t':=s.toks) (o:= .tup (qE xs lo hi)) (λb ob q=>Heap.get?_push_of_some _ q) (Nat.le_refl _) ?_,rfl,q _ (I.hok.fresh (Nat.le_refl _))⟩;exact⟨Nat.le_trans (kX xs lo hi) hz,_,(r.drop (HT.sIx xs.length 0 lo)).take (HT.sIx xs.length xs.length hi - HT.sIx xs.length 0 lo),tD.new _ _⟩
def zmT (K:Frag):R2:=λx y H Q=> ∃a b xs ys,x= .ref a/\y= .ref b/\xQ K H a xs/\xQ K H b ys/\xs≠ []/\xs.length+ys.length<=sizeLine/\
 (ys= []->Q (.ref a) H)/\(ys≠ []->∀p,H p=none->Q (.ref p) (zJ H p (.tup (xs++ys))))
theorem zH.nil_iff {xs:List V}{us:List Value}(r:zH xs us):us= []↔xs= []:=by
 cases r with
 | nil=>simp
 | cons _ _=>simp
theorem zlz:yG X (binaryOp .Add) (zmT X.K):=by
 (first | refine⟨?_⟩ | skip)
 intro pins s σ H x y v u Q I rx ry h;obtain⟨a,b,xs,ys,rfl,rfl,ha,hb,hx,hz,q1,q2⟩:=h;cases rx;cases ry;obtain⟨its,r1,p1,_⟩:=I.tuple ha;obtain⟨its2,r2,p2,_⟩:=I.tuple hb;refine HT.cat_tup p1 p2 (λz=>hx (r1.nil_iff.mp z)) (λz=>⟨.ref a,H,I,rfl,q1 (r2.nil_iff.mp z)⟩) (λz=> ?_) (by rw[<- r1.length,<- r2.length];exact hz);refine⟨.ref s.heap.objs.size,_,I.laid (t':=s.toks) (o:= .tup (xs++ys)) (λb ob q=>Heap.get?_push_of_some _ q) (Nat.le_refl _) ?_,rfl,q2 (λw=>z (r2.nil_iff.mpr w)) _ (I.hok.fresh (Nat.le_refl _))⟩;exact⟨by rw[List.length_append];exact hz,_,r1.append r2,tD.new _ _⟩
end
end L2
namespace L2
open PySem PySem.Spec PyProof.Rows
def xT (n:Nat)(i:Int):Option Nat:=if 0<=i then(if i < n then some i.toNat else none)else if -(n:Int)<=i then some (i+n).toNat else none
def atI {α:Type}(xs:List α)(i:Int):Option α:=(xT xs.length i).bind λj=>xs[j]?
theorem zex {n:Nat}{i:Int}{j:Nat}(h:xT n i=some j):seqIndex? i n=some j/\j < n/\ -(n:Int)<=i/\i < n:=by
 unfold xT at h;by_cases h0:0<=i
 ·rw[if_pos h0]at h
  by_cases h1:i < n
  ·rw[if_pos h1]at h
   have e:i.toNat=j:=Option.some.inj h;exact⟨by rw[seqIndex_of h0 h1,e],by omega,by omega,h1⟩
  ·rw[if_neg h1]at h;cases h
 ·rw[if_neg h0]at h
  by_cases h1: -(n:Int)<=i
  ·rw[if_pos h1]at h
   have e:(i+n).toNat=j:=Option.some.inj h;exact⟨by rw[seqIndex_neg (by omega) h1,e],by omega,h1,by omega⟩
  ·rw[if_neg h1]at h;cases h
theorem gM {α:Type}{xs:List α}{i:Int}{v:α}(h:atI xs i=some v): ∃j,seqIndex? i xs.length=some j/\xs[j]?=some v/\j < xs.length/\ -(xs.length:Int)<=i/\i < xs.length:=by
 unfold atI at h;cases e:xT xs.length i with
 | none=>rw[e]at h;cases h
 | some j=>
  rw[e]at h;obtain⟨h1,h2,h3,h4⟩:=zex e;exact⟨j,h1,h,h2,h3,h4⟩
theorem wY {α:Type}{xs:List α}{j:Nat}{v:α}(h:xs[j]?=some v):atI xs (j:Int)=some v:=by
 have hj:j < xs.length:=(List.getElem?_eq_some_iff.mp h).1;have e:xT xs.length (j:Int)=some j:=by
  unfold xT;rw[if_pos (by omega),if_pos (by omega)];simp
 unfold atI;rw[e];exact h
theorem zci {α:Type}(xs:List α)(v:α):atI (xs++ [v]) (-1)=some v:=by
 have hl:(xs++ [v]).length=xs.length+1:=by simp
 have e:xT (xs++ [v]).length (-1)=some xs.length:=by
  unfold xT;rw[hl,if_neg (by decide),if_pos (by omega)]
  congr 1
  omega
 unfold atI;rw[e];show(xs++ [v])[xs.length]?=some v;simp
def zbX (b:Expr):Prop:= ∀o i,subscripted b false o i=operate [o,i] (getItem o i)
def rB (X:Cx)(r:R2):Prop:=
 ∀(value slice:Expr) (pins:List (Addr×Obj)) (s:Shared) (σ:St) (H:Hp) (x y:V) (v u:Value) (Q:VK),z5 X pins σ H s->zT x v->zT y u->r x y H Q->
  subscripted slice false v u=operate [v,u] (getItem v u)->wpAny (model X.prog X.w) X.A (subscriptTail value slice v u) (EP X pins σ Q) X.xe s
def tG (X:Cx)(id:String)(r:V->List V->Hp->VK->Prop):Prop:=
 ∀(pins:List (Addr×Obj)) (s:Shared) (σ:St) (H:Hp) (x:V) (xs:List V) (v:Value) (us:List Value) (Q:VK),z5 X pins σ H s->zT x v->zH xs us->r x xs H Q->
  wpAny (model X.prog X.w) X.A (call (.builtin id) (v::us)) (EP X pins σ Q) X.xe s
section
variable {X:Cx} {a b:Expr} {ta tb:TE} {pos:Pos}
theorem zlV {r:R2}(hr:rB X r)(ha:PE X a ta)(hb:PE X b tb)(hs:zbX b):PE X (.Subscript a b pos) (lM r ta tb):=by
 (first | refine⟨?_⟩ | skip)
 intro pins s σ H Q I h;exact Subscript_ (gU ha hb I h λv u s2 x y H2 I2 rx ry q=>hr a b pins s2 σ H2 x y v u Q I2 rx ry q (hs _ _))
def zmV (K:Frag):R2:=λx y H Q=> ∃p xs i v,x= .ref p/\y= .int i/\yW K H p xs/\atI xs i=some v/\Q v H
def zmX (K:Frag):R2:=λx y H Q=> ∃p xs i v,x= .ref p/\y= .int i/\xQ K H p xs/\atI xs i=some v/\Q v H
def zmW:R2:=λx y H Q=> ∃z i c,x= .str z/\y= .int i/\z.length<=sizeLine/\atI z.cps.toList i=some c/\Q (.str ⟨#[c]⟩) H
theorem zey:rB X (zmV X.K):=by
 intro value slice pins s σ H x y v u Q I rx ry h hs;obtain⟨p,xs,i,z,rfl,rfl,hq,he,q⟩:=h;cases rx;obtain⟨t,rfl⟩:=ry;obtain⟨its,r,pl,hz⟩:=I.list hq;obtain⟨j,h1,h2,h3,h4,h5⟩:=gM he;obtain⟨w,ew,rw'⟩:=r.get h2;have hl:=r.length;have hn:=sS;have fin:EP X pins σ Q w s:=⟨z,H,I,rw',q⟩;by_cases h0:0<=i
 ·have hj:i.toNat=j:=by
   rw[seqIndex_of h0 h5]at h1;exact Option.some.inj h1
  exact item_listR pl.isList h0 (by omega) (by rw[hj];simpa using ew) fin hs
 ·have hj:(i+(its.toArray.size:Int)).toNat=j:=by
   rw[seqIndex_neg (by omega) h4]at h1;rw[List.size_toArray,<- hl];exact Option.some.inj h1
  exact subscriptTail_builtinR (x:=w) pl.isList.typeIs slot_list_getitem.lookup
   (wpAny_getItem_list_neg (Q:=λr s'=>r=w/\EP X pins σ Q r s') pl.isList (by omega) (by rw[List.size_toArray] <;> omega) (by omega) (by rw[hj];simpa using ew) ⟨rfl,fin⟩) hs
theorem zjW:rB X (zmX X.K):=by
 intro value slice pins s σ H x y v u Q I rx ry h hs;obtain⟨p,xs,i,z,rfl,rfl,hq,he,q⟩:=h;cases rx;obtain⟨t,rfl⟩:=ry;obtain⟨its,r,pl,hz⟩:=I.tuple hq;obtain⟨j,h1,h2,h3,h4,h5⟩:=gM he;obtain⟨w,ew,rw'⟩:=r.get h2;have hl:=r.length;have hn:=sS;have fin:EP X pins σ Q w s:=⟨z,H,I,rw',q⟩;exact subscriptTail_builtinR (x:=w) pl.typeIs slot_tuple_getitem.lookup
  (getItem_tuple (j:=j) (Q:=λr s'=>r=w/\EP X pins σ Q r s') pl (by omega) (by omega) (by rw[List.size_toArray,<- hl];exact h1) (by simpa using ew) ⟨rfl,fin⟩) hs
theorem zjV:rB X zmW:=by
 intro value slice pins s σ H x y v u Q I rx ry h hs;obtain⟨z,i,c,rfl,rfl,hz,he,q⟩:=h;obtain⟨t,rfl⟩:=rx;obtain⟨t',rfl⟩:=ry;obtain⟨j,h1,h2,h3,h4,h5⟩:=gM he;have hl:z.cps.toList.length=z.length:=by simp[Str.length]
 rw[hl]at h1 h4 h5;have hn:=sS;exact tail_any (typeIs_str s z t) slot_str_getitem.lookup (getItem_str (c:=c) (by
  have e1:decide (i < -(2 ^ 63:Int))=false:=decide_eq_false (by omega);have e2:decide (i≥2 ^ 63)=false:=decide_eq_false (by omega);rw[e1,e2,Bool.or_false]) (by rw[h1];simpa using h2) ⟨.str ⟨#[c]⟩,H,I.tok _,⟨_,rfl⟩,q⟩) hs
theorem zk0 (its:List Value)(n j:Nat)(u:Value):Obj.mapSeq (·.setIfInBounds j u) {cls:= .type "list",data:= .seq its.toArray n} = {cls:= .type "list",data:= .seq (its.set j u).toArray n} :=by
 simp[Obj.mapSeq]
theorem z5.lst {pins:List (Addr×Obj)}{σ:St}{H:Hp}{s:Shared}{p:Addr}{xs:List V}(I:z5 X pins σ H s)(h:H p=some (.lst xs)):
  ∃(its:List Value) (n:Nat),zH xs its/\s.heap.get? p=some {cls:= .type "list",data:= .seq its.toArray n} /\xs.length<=sizeLine:=by
 obtain⟨z,its,n,r,e⟩:=I.hok p _ h;exact⟨its,n,r,e,z⟩
theorem z5.lstUpd {pins:List (Addr×Obj)}{σ:St}{H:Hp}{s:Shared}{p:Addr}{xs ys:List V}{its its':List Value}{n n':Nat}{f:Obj->Obj}(I:z5 X pins σ H s)(h:H p=some (.lst xs))
  (ho:s.heap.get? p=some {cls:= .type "list",data:= .seq its.toArray n}) (hf:f {cls:= .type "list",data:= .seq its.toArray n} = {cls:= .type "list",data:= .seq its'.toArray n'}) (r:zH ys its') (hz:ys.length<=sizeLine) (t:Nat):
  z5 X pins σ (zJ H p (.lst ys)) {s with heap:=s.heap.update p f,toks:=t} :=by
 have e:(s.heap.update p f).get? p=some {cls:= .type "list",data:= .seq its'.toArray n'} :=by
  rw[Heap.get?_update_self f ho (by rw[hf] <;> rfl),hf]
 refine I.write (x:=p) (e:=p) (by rw[h];trivial) (.inl rfl) (λb u hb q=>(Heap.get?_update_other _ _ (Ne.symm hb)).trans q) ⟨_,e⟩ ?_;exact⟨hz,its',n',r,e⟩
def zng:V->V->V->Hp->(Hp->Prop)->Prop:=λo i v H Q=> ∃p xs k j,o= .ref p/\i= .int k/\H p=some (.lst xs)/\xT xs.length k=some j/\Q (zJ H p (.lst (xs.set j v)))
theorem zny:kI X zng:=by
 (first | refine⟨?_⟩ | skip)
 intro pins s σ H o i v ov iv u Q I ro ri rv h;obtain⟨p,xs,k,j,rfl,rfl,hp,hj,q⟩:=h;cases ro;obtain⟨t,rfl⟩:=ri;obtain⟨its,n,r,ho,hz⟩:=I.lst hp;obtain⟨h1,h2,h3,h4⟩:=zex hj;have hl:=r.length;have hn:=sS;have I':z5 X pins σ (zJ H p (.lst (xs.set j v))) {s with heap:=s.heap.update p (Obj.mapSeq (·.setIfInBounds j u))} :=
  I.lstUpd hp ho (zk0 its n j u) (r.set rv j) (by rw[List.length_set];exact hz) s.toks
 by_cases h0:0<=k
 ·have hk:k.toNat=j:=by
   rw[seqIndex_of h0 h4]at h1;exact Option.some.inj h1
  exact PySem.W.ki_setAt ho h0 (by omega) (by rw[List.size_toArray,<- hl];exact h4) (by rw[hk];exact⟨_,I',q⟩)
 ·have hk:(k+(its.toArray.size:Int)).toNat=j:=by
   rw[seqIndex_neg (by omega) h3]at h1;rw[List.size_toArray,<- hl];exact Option.some.inj h1
  exact PySem.W.ki_setBack ho (by omega) (by rw[List.size_toArray,<- hl];exact h3) (by omega) (by rw[hk];exact⟨_,I',q⟩)
theorem znF (lo hi:Option Int)(n:Nat):(sliceBounds lo hi none n).1=((HT.sIx n 0 lo:Nat):Int)/\(sliceBounds lo hi none n).2.1=((HT.sIx n n hi:Nat):Int)/\(sliceBounds lo hi none n).2.2=1:=by
 refine⟨?_,?_,rfl⟩
 ·cases lo with
  | none=>simp[sliceBounds,HT.sIx]
  | some i=>
   simp only[sliceBounds,HT.sIx,Option.getD_none,show(1:Int) > 0 by decide,if_true];by_cases h:i < 0
   ·simp only[h,if_true] <;> omega
   ·simp only[h,if_false] <;> omega
 ·cases hi with
  | none=>simp[sliceBounds,HT.sIx]
  | some i=>
   simp only[sliceBounds,HT.sIx,Option.getD_none,show(1:Int) > 0 by decide,if_true];by_cases h:i < 0
   ·simp only[h,if_true] <;> omega
   ·simp only[h,if_false] <;> omega
theorem znE (its:List Value)(lo hi:Option Int):slicePick its.toArray lo hi none=((its.drop (HT.sIx its.length 0 lo)).take (HT.sIx its.length its.length hi - HT.sIx its.length 0 lo)).toArray:=by
 obtain⟨h1,h2,h3⟩:=znF lo hi its.toArray.size;unfold slicePick;rw[h1,h2,h3];simp only[sliceRange_one,pick_run,List.size_toArray] <;> rfl
def znh (K:Frag):V->Option Int->Option Int->Hp->VK->Prop:=λx lo hi H Q=> ∃a xs,x= .ref a/\yW K H a xs/\∀p,H p=none->Q (.ref p) (zJ H p (.lst (qE xs lo hi)))
theorem znB:nV X (znh X.K):=by
 (first | refine⟨?_⟩ | skip)
 intro pins s σ H x v vl vu lo hi sl Q I rx hs pl pu h;obtain⟨a,xs,rfl,hx,q⟩:=h;cases rx;obtain⟨its,r,ht,hz⟩:=I.list hx;have hlen:=r.length;refine⟨"list",_,slot_list_getitem.lookup,ht.isList.typeIs,?_⟩;refine wpAny_getItem_list_slice ht.isList hs pl pu .none (by simp) ?_ (by rw[List.size_toArray] <;> omega);rw[znE,<- hlen];refine⟨.ref s.heap.objs.size,_,I.laid (t':=s.toks) (o:= .lst (qE xs lo hi)) (λb ob q=>Heap.get?_push_of_some _ q) (Nat.le_refl _) ?_,rfl,q _ (I.hok.fresh (Nat.le_refl _))⟩;exact⟨Nat.le_trans (kX xs lo hi) hz,_,0,(r.drop (HT.sIx xs.length 0 lo)).take (HT.sIx xs.length xs.length hi - HT.sIx xs.length 0 lo),Heap.get?_push_size _ rfl⟩
def sP:V->Bool
 | .non=>true
 | .bl _=>true
 | .int _=>true
 | .str _=>true
 | _=>false
def sO:V->V->Bool
 | .non,.non=>true
 | .bl a,.bl b=>a==b
 | .bl a,.int b=>(if a then 1 else 0)==b
 | .int a,.bl b=>a==(if b then 1 else 0)
 | .int a,.int b=>a==b
 | .str a,.str b=>a==b
 | _,_=>false
theorem ziF {A:Around}{s:Shared}{y x:V}{u v:Value}(ry:zT y u)(rx:zT x v)(fy:sP y=true)(fx:sP x=true):SeqAt.EqAt A s u v (sO y x):=by
 cases y with
 | non=>
  cases ry;cases x with
  | non=>cases rx;exact SeqAt.EqAt.same _
  | bl b=>cases rx;exact SeqAt.EqAt.none_bool b
  | int b=>obtain⟨t,rfl⟩:=rx;exact SeqAt.EqAt.none_int b t
  | str b=>obtain⟨t,rfl⟩:=rx;exact SeqAt.EqAt.none_str b t
  | _=>exact absurd (show false=true from fx) Bool.false_ne_true
 | bl a=>
  cases ry;cases x with
  | non=>cases rx;exact SeqAt.EqAt.bool_none a
  | bl b=>cases rx;exact SeqAt.EqAt.bool_bool a b
  | int b=>obtain⟨t,rfl⟩:=rx;exact SeqAt.EqAt.bool_int a b t
  | str b=>obtain⟨t,rfl⟩:=rx;exact SeqAt.EqAt.bool_str a b t
  | _=>exact absurd (show false=true from fx) Bool.false_ne_true
 | int a=>
  obtain⟨t',rfl⟩:=ry;cases x with
  | non=>cases rx;exact SeqAt.EqAt.int_none a t'
  | bl b=>cases rx;exact SeqAt.EqAt.int_bool a t' b
  | int b=>obtain⟨t,rfl⟩:=rx;exact SeqAt.EqAt.int_int a t' b t
  | str b=>obtain⟨t,rfl⟩:=rx;exact SeqAt.EqAt.int_str a t' b t
  | _=>exact absurd (show false=true from fx) Bool.false_ne_true
 | str a=>
  obtain⟨t',rfl⟩:=ry;cases x with
  | non=>cases rx;exact SeqAt.EqAt.str_none a t'
  | bl b=>cases rx;exact SeqAt.EqAt.str_bool a t' b
  | int b=>obtain⟨t,rfl⟩:=rx;exact SeqAt.EqAt.str_int a t' b t
  | str b=>obtain⟨t,rfl⟩:=rx;exact SeqAt.EqAt.str_str a t' b t
  | _=>exact absurd (show false=true from fx) Bool.false_ne_true
 | _=>exact absurd (show false=true from fy) Bool.false_ne_true
def vY (x:V)(u:Value):Bool:=match u with
 | .none=>sO .non x
 | .bool b=>sO (.bl b) x
 | .int i _=>sO (.int i) x
 | .str z _=>sO (.str z) x
 | _=>false
theorem zcL {x y:V}{u:Value}(r:zT y u)(f:sP y=true):vY x u=sO y x:=by
 cases y with
 | non=>cases r;rfl
 | bl b=>cases r;rfl
 | int i=>obtain⟨t,rfl⟩:=r;rfl
 | str z=>obtain⟨t,rfl⟩:=r;rfl
 | _=>exact absurd (show false=true from f) Bool.false_ne_true
theorem nY {x:V} : ∀{xs:List V} {us:List Value},zH xs us->xs.all sP=true->us.any (vY x)=xs.any λy=>sO y x
 | _,_,.nil,_=>rfl
 | y::xs,u::us,.cons r t,f=>by
  rw[List.all_cons,Bool.and_eq_true]at f;rw[List.any_cons,List.any_cons,zcL r f.1,nY t f.2]
theorem mQ {A:Around}{s:Shared}{x:V}{v:Value}(rx:zT x v)(fx:sP x=true): ∀{xs:List V} {us:List Value},zH xs us->xs.all sP=true->∀u∈us,SeqAt.EqAt A s u v (vY x u)
 | _,_,.nil,_=>λu hu=>by cases hu
 | y::xs,u::us,.cons r t,f=>λu' hu=>by
  rw[List.all_cons,Bool.and_eq_true]at f;rcases List.mem_cons.mp hu with rfl | hu
  ·rw[zcL r f.1];exact ziF r rx f.1 fx
  ·exact mQ rx fx t f.2 u' hu
def qH (x:V)(xs:List V):Bool:=xs.any λy=>sO y x
def rIn (K:Frag)(neg:Bool):R2:=λx y H Q=> ∃p xs,y= .ref p/\(yW K H p xs∨xQ K H p xs)/\sP x=true/\xs.all sP=true/\Q (.bl (if neg then !qH x xs else qH x xs)) H
theorem zl3:yG X (compareOp .In) (rIn X.K false):=by
 (first | refine⟨?_⟩ | skip)
 intro pins s σ H x y v u Q I rx ry h;obtain⟨p,xs,rfl,hq,fx,fs,q⟩:=h;cases ry;rcases hq with hq | hq
 ·obtain⟨its,r,pl,hz⟩:=I.list hq
  refine SeqAt.in_listAt (vY x) pl.isList (λw hw=>mQ rx fx r fs w (by simpa using hw)) ⟨.bl _,H,I,rfl,?_⟩;rw[show its.toArray.any (vY x)=its.any (vY x) by simp,nY r fs];exact q
 ·obtain⟨its,r,pl,hz⟩:=I.tuple hq
  refine SeqAt.in_tupleAt (vY x) pl (λw hw=>mQ rx fx r fs w (by simpa using hw)) ⟨.bl _,H,I,rfl,?_⟩;rw[show its.toArray.any (vY x)=its.any (vY x) by simp,nY r fs];exact q
theorem zl9:yG X (compareOp .NotIn) (rIn X.K true):=by
 (first | refine⟨?_⟩ | skip)
 intro pins s σ H x y v u Q I rx ry h;obtain⟨p,xs,rfl,hq,fx,fs,q⟩:=h;cases ry;rcases hq with hq | hq
 ·obtain⟨its,r,pl,hz⟩:=I.list hq
  refine SeqAt.notIn_listAt (vY x) pl.isList (λw hw=>mQ rx fx r fs w (by simpa using hw)) ⟨.bl _,H,I,rfl,?_⟩;rw[show its.toArray.any (vY x)=its.any (vY x) by simp,nY r fs];exact q
 ·obtain⟨its,r,pl,hz⟩:=I.tuple hq
  refine SeqAt.notIn_tupleAt (vY x) pl (λw hw=>mQ rx fx r fs w (by simpa using hw)) ⟨.bl _,H,I,rfl,?_⟩;rw[show its.toArray.any (vY x)=its.any (vY x) by simp,nY r fs];exact q
theorem zl_:yG X (compareOp .NotIn) (λx y H Q=> ∃i j,x= .str i/\y= .str j/\Q (.bl (!(!(Builtin.Str.occurrences j i 0 j.length 1).isEmpty))) H):=by
 (first | refine⟨?_⟩ | skip)
 intro pins s σ H x y v u Q I rx ry h;obtain⟨i,j,rfl,rfl,q⟩:=h;obtain⟨t,rfl⟩:=rx;obtain⟨t',rfl⟩:=ry;exact notIn_str ⟨.bl _,H,I,rfl,q⟩
theorem gW:vD X (.type "tuple") (λxs H Q=> ∃p ys,xs= [.ref p]/\((yW X.K H p ys/\∀l,H l=none->Q (.ref l) (zJ H l (.tup ys)))∨(xQ X.K H p ys/\Q (.ref p) H))):=by
 (first | refine⟨?_⟩ | skip)
 intro pins s σ H xs us Q I r h;obtain⟨p,ys,rfl,h⟩:=h;obtain⟨u,rfl,rx⟩:=qY r;cases rx;rcases h with⟨hq,q⟩ | ⟨hq,q⟩
 ·obtain⟨its,r',pl,hz⟩:=I.list hq
  have hlen:=r'.length;refine call_tuple_list pl.isList (λh' kp=> ?_) (by simp only[List.size_toArray] <;> omega);have I1:z5 X pins σ H {s with heap:=h'} :=I.kept (t':=s.toks) kp;have I2:z5 X pins σ (zJ H h'.objs.size (.tup ys)) {s with heap:=h'.push {cls:= .type "tuple",data:= .seq its.toArray}} :=
   I1.laid (t':=s.toks) (λb o e=>Heap.get?_push_of_some _ e) (Nat.le_refl _) (show wA X.prog X.w _ _ _ (.tup ys)from⟨hz,its,r',tD.new _ _⟩)
  exact⟨.ref h'.objs.size,_,I2,rfl,q _ (I1.hok.fresh (Nat.le_refl _))⟩
 ·obtain⟨its,r',pl,hz⟩:=I.tuple hq
  exact call_tuple_same pl ⟨.ref p,H,I,rfl,q⟩
def iM (K:Frag)(T:String)(x:V)(H:Hp):Prop:=match x with
 | .str _=>T= "str"
 | .int _=>T= "int"
 | .ref p=>(T= "list" /\∃xs,yW K H p xs)∨(T= "tuple" /\∃o,K.lookup p=some o/\o.cls= .type "tuple" /\o.dict=none)∨
   (T= "dict" /\((∃kvs,H p=some (.dK kvs))∨∃kvs,H p=some (.dT kvs)))∨(T= "set" /\∃S n,H p=some (.set S n))
 | _=>False
theorem zg5 {pins:List (Addr×Obj)}{σ:St}{H:Hp}{s:Shared}{T:String}{x:V}{v:Value}(I:z5 X pins σ H s)(r:zT x v)(ty:iM X.K T x H):
  s.TypeIs v T/\∀a,v= .ref a->∃ob,s.heap.get? a=some ob/\ob.dict=none:=by
 cases x with
 | str z=>
  obtain⟨t,rfl⟩:=r;cases(show T= "str" from ty);exact⟨typeIs_str s z t,λ_ e=>nomatch e⟩
 | int i=>
  obtain⟨t,rfl⟩:=r;cases(show T= "int" from ty);exact⟨typeIs_int s i t,λ_ e=>nomatch e⟩
 | ref p=>
  cases r;rcases ty with⟨rfl,xs,hq⟩ | ⟨rfl,o,hk,hc,hd⟩ | ⟨rfl,hk⟩ | ⟨rfl,S,n,hk⟩
  ·obtain⟨its,_,pl,_⟩:=I.list hq
   refine⟨pl.isList.typeIs,λa e=> ?_⟩;cases e;obtain⟨o,n,e,c,hd,_⟩:=pl;exact⟨o,e,hd⟩
  ·refine⟨⟨o,I.kIn p o hk,hc⟩,λa e=> ?_⟩
   cases e;exact⟨o,I.kIn _ o hk,hd⟩
  ·have z: ∃o,s.heap.get? p=some o/\o.ExactDict:=by
    rcases hk with⟨kvs,hk⟩ | ⟨kvs,hk⟩
    ·obtain⟨_,_,_,_,o,_,_,e,ex,_⟩:=I.hok p _ hk
     exact⟨o,e,ex⟩
    ·obtain⟨_,_,_,_,o,_,_,e,ex,_⟩:=I.hok p _ hk
     exact⟨o,e,ex⟩
   obtain⟨o,e,ex⟩:=z;refine⟨⟨o,e,ex.1⟩,λa e2=> ?_⟩;cases e2;exact⟨o,e,ex.2.1⟩
  ·obtain⟨o,_,_,_,e,ex,_⟩:=I.hok p _ hk
   refine⟨⟨o,e,ex.1⟩,λa e2=> ?_⟩;cases e2;exact⟨o,e,ex.2.1⟩
 | _=>exact False.elim ty
def znN (K:Frag)(T:String)(r:V->List V->Hp->VK->Prop)(to:TE):TE:=λσ H Q=>to σ H λx H1=>iM K T x H1/\r x [] H1 Q
def tBM (K:Frag)(T:String)(r:V->List V->Hp->VK->Prop)(to:TE)(t:TA):TE:=λσ H Q=>to σ H λx H1=>iM K T x H1/\t σ H1 λxs H2=>r x xs H2 Q
variable {o e:Expr} {es:List Expr} {to:TE} {t:TA} {name:Str} {apos cpos:Pos} {T id:String} {r:V->List V->Hp->VK->Prop}
theorem zlM (pa:PlainAttrs T)(slot:Slot T name id)(hty:typeOf (.builtin id)=pure (.type "method_descriptor"))(hm:tG X id r)(ho:PE X o to)
  (hbase:attributeBase o name X.env (eval o X.env)=eval o X.env:=by rfl) (hline:(apos.endLine==cpos.line)=true:=by rfl):PE X (.Call (.Attribute o name apos) [] [] cpos) (znN X.K T r to):=by
 (first | refine⟨?_⟩ | skip)
 intro pins s σ H Q I h;refine wpAny_Call_method0_late hbase hline (zU (ho pins s σ H _ I h) λv s1 ⟨x,H1,I1,r1,ty,q1⟩=> ?_);obtain⟨h1,h2⟩:=zg5 I1 r1 ty;exact⟨T,id,pa,slot,hty,h1,h2,Calls.callWith_builtin rfl (PySem.evalArgs_none (hm pins s1 σ H1 x [] v [] Q I1 r1 .nil q1))⟩
theorem zlL (pa:PlainAttrs T)(slot:Slot T name id)(hty:typeOf (.builtin id)=pure (.type "method_descriptor"))(hm:tG X id r)(ho:PE X o to)(ha:PA X (e::es) t)
  (hbase:attributeBase o name X.env (eval o X.env)=eval o X.env:=by rfl)
  (hfew:((backTo cpos (starEach (e::es) X.env)).all (λx=> !x.1)&&(backToKw cpos (keywordEach [] X.env)).all (λx=>x.1.isSome)
   &&decide ((e::es).length+([]:List Keyword).length+(if([]:List Keyword).isEmpty then 0 else 1) < 30))=true:=by rfl)
  (hline:(apos.endLine==cpos.line)=true:=by rfl) (hs:starEach (e::es) X.env=(false,eval e X.env)::starEach es X.env:=by rfl) (hplain:(backTo cpos (starEach es X.env)).any (·.1)=false:=by rfl):
  PE X (.Call (.Attribute o name apos) (e::es) [] cpos) (tBM X.K T r to t):=by
 (first | refine⟨?_⟩ | skip)
 intro pins s σ H Q I h;refine wpAny_Call_method_late hbase hfew hline rfl (zU (ho pins s σ H _ I h) λv s1 ⟨x,H1,I1,r1,ty,q1⟩=> ?_);obtain⟨h1,h2⟩:=zg5 I1 r1 ty;refine⟨T,id,pa,slot,hty,h1,h2,?_⟩;have hA:=ha cpos pins s1 σ H1 _ I1 q1;rw[hs]at hA⊢
 refine Calls.callWith_builtin (by show(false||(backTo cpos (starEach es X.env)).any (·.1))=false;rw[hplain] <;> rfl) (Calls.evalArgs_plain ?_);exact zU hA λus s2 ⟨vs,H2,I2,r2,q2⟩=>hm pins s2 σ H2 x vs v us Q I2 r1 r2 q2
end
end L2
namespace L2
open PySem PySem.Spec PyProof.Rows
def gC (X:Cx)(id:String)(r:V->List V->Hp->VK->Prop):Prop:=
 ∀(pins:List (Addr×Obj)) (s:Shared) (σ:St) (H:Hp) (x:V) (xs:List V) (v:Value) (us:List Value) (Q:VK),z5 X pins σ H s->zT x v->zH xs us->r x xs H Q->
  wpAny (model X.prog X.w) X.A (call (.builtin id) (v::us)) (EP X pins σ Q) X.xe s
theorem zH.one: ∀{x:V} {us:List Value},zH [x] us->∃u,us= [u]/\zT x u
 | _,_,.cons r .nil=>⟨_,rfl,r⟩
theorem zH.two {x y:V}{us:List Value}(h:zH [x,y] us): ∃u v,us= [u,v]/\zT x u/\zT y v:=by
 cases h with | cons r t=>cases t with | cons q t2=>cases t2;exact⟨_,_,rfl,r,q⟩
theorem zH.zero: ∀{us:List Value},zH [] us->us= []
 | _,.nil=>rfl
theorem zH.dropLast {xs:List V}{us:List Value}(h:zH xs us):zH xs.dropLast us.dropLast:=by
 induction h with
 | nil=>exact .nil
 | cons r t ih=>
  cases t with
  | nil=>exact .nil
  | cons q t'=>exact .cons r ih
theorem zH.eraseIdx: ∀{xs:List V} {us:List Value} (i:Nat),zH xs us->zH (xs.eraseIdx i) (us.eraseIdx i)
 | _,_,_,.nil=> .nil
 | _,_,0,.cons _ t=>t
 | _,_,i+1,.cons r t=> .cons r (zH.eraseIdx i t)
theorem zH.reverse {xs:List V}{us:List Value}(h:zH xs us):zH xs.reverse us.reverse:=by
 induction h with
 | nil=>exact .nil
 | cons r t ih=>rw[List.reverse_cons,List.reverse_cons];exact zH.append ih (.cons r .nil)
theorem ziJ {α:Type}(l:List α):l.eraseIdx (l.length - 1)=l.dropLast:=by
 induction l with
 | nil=>rfl
 | cons a r ih=>
  cases r with
  | nil=>rfl
  | cons b r=>
   have e:(a::b::r).length - 1=((b::r).length - 1)+1:=by
    have h1:(a::b::r).length=r.length+2:=rfl;have h2:(b::r).length=r.length+1:=rfl;omega
   rw[e,List.eraseIdx_cons_succ,ih]
   all_goals rfl
theorem ze5 {α:Type} : ∀(l:List α) (i:Nat),(l.eraseIdx i).length<=l.length
 | [],_=>Nat.le_refl _
 | _::_,0=>Nat.le_succ _
 | _::r,i+1=>Nat.succ_le_succ (ze5 r i)
section
variable {X:Cx} {pins:List (Addr×Obj)} {σ:St} {H:Hp} {s:Shared} {l b:Addr} {xs ys zs:List V}
theorem z5.lset {its its':List Value}{n:Nat}{f:Array Value->Array Value}{t':Nat}(I:z5 X pins σ H s)(hH:H l=some (.lst xs))
  (e:s.heap.get? l=some {cls:= .type "list",data:= .seq its.toArray n}) (hf:f its.toArray=its'.toArray) (hv:zH ys its') (hz:ys.length<=sizeLine):
  z5 X pins σ (zJ H l (.lst ys)) {s with heap:=s.heap.update l (Obj.mapSeq f),toks:=t'} :=by
 have q:=PySem.IsL.update e f;rw[hf]at q;refine I.write (x:=l) (e:=l) (by rw[hH];exact trivial) (.inl rfl) (λb' u hb hu=>(Heap.get?_update_other s.heap (Obj.mapSeq f) (Ne.symm hb)).trans hu) ⟨_,q⟩ ?_;exact⟨hz,its',_,hv,q⟩
theorem z5.lnew {its:List Value}{t':Nat}(I:z5 X pins σ H s)(hv:zH ys its)(hz:ys.length<=sizeLine):
  z5 X pins σ (zJ H s.heap.objs.size (.lst ys)) {s with heap:=s.heap.push {cls:= .type "list",data:= .seq its.toArray},toks:=t'} :=
 I.laid (λ_ _ q=>Heap.get?_push_of_some _ q) (Nat.le_refl _) ⟨hz,its,0,hv,Heap.get?_push_size _ rfl⟩
theorem z5.fresh (I:z5 X pins σ H s):H s.heap.objs.size=none:=I.hok.fresh (Nat.le_refl _)
theorem z5.lstM (I:z5 X pins σ H s)(hH:H l=some (.lst xs)):xs.length<=sizeLine/\∃(its:List Value) (n:Nat),zH xs its/\xs.length=its.length/\s.heap.get? l=some {cls:= .type "list",data:= .seq its.toArray n} :=by
 obtain⟨z,its,n,r,e⟩:=I.hok l _ hH;exact⟨z,its,n,r,r.length,e⟩
theorem zkO {n:Nat}(h:n<=sizeLine):Builtin.List.listTooLong n=false:=by
 unfold Builtin.List.listTooLong;exact decide_eq_false (by omega)
end
section
variable {X:Cx}
def zmS:V->List V->Hp->VK->Prop:=λx vs H Q=> ∃l xs y,x= .ref l/\vs= [y]/\H l=some (.lst xs)/\xs.length < sizeLine/\Q .non (zJ H l (.lst (xs++ [y])))
theorem zk_:gC X "list.append" zmS:=by
 (first | refine⟨?_⟩ | skip)
 intro pins s σ H x vs v us Q I rx rv h;obtain⟨l,xs,y,rfl,rfl,hH,hz,q⟩:=h;cases rx;obtain⟨u,rfl,ru⟩:=rv.one;obtain⟨z,its,n,r,hl,e⟩:=I.lstM hH;refine call_meets F.slot_list_append ⟨_,e,rfl⟩ F.entry_list_append (F.args_list_append_2 _ _) (PySem.list_append l its.toArray n u (by rw[List.size_toArray];omega)) ⟨e,?_⟩;refine⟨.non,_,I.lset (its':=its++ [u]) hH e (by simp) (r.append (.cons ru .nil)) ?_,rfl,q⟩;rw[List.length_append,List.length_singleton];omega
def zne:V->List V->Hp->VK->Prop:=λx vs H Q=> ∃l xs y,x= .ref l/\vs= []/\H l=some (.lst xs)/\xs[xs.length - 1]?=some y/\Q y (zJ H l (.lst xs.dropLast))
theorem zkB:gC X "list.pop" zne:=by
 (first | refine⟨?_⟩ | skip)
 intro pins s σ H x vs v us Q I rx rv h;obtain⟨l,xs,y,rfl,rfl,hH,hy,q⟩:=h;cases rx;have hus:=rv.zero;subst hus;obtain⟨z,its,n,r,hl,e⟩:=I.lstM hH;obtain⟨u,hu,ru⟩:=r.get hy;have hy':its.toArray[its.toArray.size - 1]?=some u:=by
  show its.toArray[its.length - 1]?=some u;rw[<- Array.getElem?_toList,<- hl];exact hu
 refine call_meets F.slot_list_pop ⟨_,e,rfl⟩ F.entry_list_pop (F.args_list_pop_1 _) (MeetsSeq.list_pop_last l its.toArray n u hy' (by rw[List.size_toArray];omega)) ⟨e,?_⟩;refine⟨y,_,I.lset (its':=its.dropLast) hH e ?_ r.dropLast ?_,ru,q⟩
 ·show its.toArray.eraseIdxIfInBounds (its.toArray.size - 1)=its.dropLast.toArray
  rw[List.size_toArray,List.eraseIdxIfInBounds_toArray,ziJ]
 ·rw[List.length_dropLast]
  omega
def znf:V->List V->Hp->VK->Prop:=λx vs H Q=> ∃l xs i k y,x= .ref l/\vs= [.int i]/\H l=some (.lst xs)/\ -(2 ^ 63)<=i/\i < 2 ^ 63/\seqIndex? i xs.length=some k/\xs[k]?=some y/\Q y (zJ H l (.lst (xs.eraseIdx k)))
theorem zkC:gC X "list.pop" znf:=by
 (first | refine⟨?_⟩ | skip)
 intro pins s σ H x vs v us Q I rx rv h;obtain⟨l,xs,i,k,y,rfl,rfl,hH,h1,h2,hk,hy,q⟩:=h;cases rx;obtain⟨u,rfl,ru⟩:=rv.one;obtain⟨t,rfl⟩:=ru;obtain⟨z,its,n,r,hl,e⟩:=I.lstM hH;obtain⟨w,hw,rw'⟩:=r.get hy;refine call_meets F.slot_list_pop ⟨_,e,rfl⟩ F.entry_list_pop (F.args_list_pop_2 _ _)
  (MeetsSeq.list_pop_at l its.toArray n i t k w (fitsIndex_both h1 h2) (by rw[List.size_toArray,<- hl];exact hk) (by rw[<- Array.getElem?_toList];exact hw) (by rw[List.size_toArray];omega)) ⟨e,?_⟩
 refine⟨y,_,I.lset (its':=its.eraseIdx k) hH e ?_ (r.eraseIdx k) ?_,rw',q⟩
 ·show its.toArray.eraseIdxIfInBounds k=(its.eraseIdx k).toArray
  rw[List.eraseIdxIfInBounds_toArray]
 ·have:=ze5 xs k
  omega
end
section
variable {prog:Program} {w:World} {A:Around} {E:Value->Shared->Prop} {s:Shared}
end
section
variable {X:Cx}
end
end L2
namespace Att
open PySem PySem.W PySem.Calls PyProof.Rows
theorem zjK {P:Params}{h:Heap} : ∀(ns:List Int) (vs:List Value),WellAll P h vs (ns.map WData.int)->IntsAre vs ns:=by
 intro ns
 induction ns with
 | nil=>
  intro vs w;rw[List.map_nil]at w;cases w;exact .nil
 | cons n ns ih=>
  intro vs w;rw[List.map_cons]at w;cases w with
  | cons a b=>
   cases a;exact .cons _ _ (ih _ b)
theorem znx {l:OpenLaw}{n:Nat}(hn:l.most=some n){P:Params}{h:Heap}{args:List WData}{vals:List Value}
  (hpre:l.row.toRowW.claim.pre args=true) (hwl:WellAll P h vals args):
  ∃a vs ns,vals= [Value.ref a]/\args= [WData.list (ns.map WData.int)]/\h.get? a=some {cls:= .type "list",data:= .seq vs.toArray} /\IntsAre vs ns/\ns.length<=n:=by
 have hsh:WShape.hasAll [] args [.list .int]=true:=(pre_splitW hpre).1;have hc:l.pre.holds [] {args:=args} =true:=(pre_splitW hpre).2;obtain⟨d,r,rfl,h1,h2⟩:=hasAllW_cons hsh;obtain rfl:=hasAllW_nil h2;obtain⟨xs,rfl,h3⟩:=hasW_list h1;obtain⟨ns,rfl⟩:=items_int h3;have hlen:ns.length<=n:=by
  unfold OpenLaw.pre at hc;have h4:(WTm.not (.lt (.lit (.int (n:Int))) (.len (.arg 0)))).holds [] {args:= [.list (ns.map .int)]} =true:=by
   have h4:=(holds_andW hc).1;rw[hn]at h4;exact h4
  have h5:=condW_of h4 (w_not (w_lt w_lit (w_len_list (w_arg rfl))));rw[List.length_map]at h5;refine Nat.le_of_not_lt λq=> ?_;have q':(n:Int) < ((ns.length:Nat):Int):=by omega
  first
   | (rw[decide_eq_true q']at h5;exact absurd h5 (by decide))
   | (simp at h5;omega)
 cases hwl with
 | cons w1 w2=>
  cases w2;cases w1 with
  | list ho hall=>exact⟨_,_,ns,rfl,rfl,ho,zjK ns _ hall,hlen⟩
theorem zmv (l:OpenLaw)(args:List WData):l.row.toRowW.claim.post args (.bool true) args=true:=
 postW_of (r:=l.row.toRowW) (X:=(true==true))
  (show WShape.has [] (.bool true) .bool=true by first | rfl | decide | simp[WShape.has,WShape.arms,WShape.armsAll])
  (show(WTm.eq .res (.lit (.bool true))).value [] {args:=args,res:=some (.bool true),after:=args} =some (.bool (true==true))from w_eq_bool (w_res rfl) w_lit) rfl
theorem attach_call {l:OpenLaw}{n:Nat}{q:Program}{loose:List Str}{XP:(Str->Option Value)->Heap->Prop}{YP:World->Heap->Prop}{d:DefRec}
  (hn:l.most=some n) (hdf:d.params.defaults= [])
  (call: ∀(w:World) (s₀ s₁:Shared) (mg mb:Str->Option Value) (fa:Addr) (o:Obj) (pm cd doc:Value) (a:Addr) (vs:List Value) (ns:List Int),
   Ground q loose [] XP w s₀ mg mb s₁.heap->YP w s₁.heap->
   s₁.heap.get? fa=some o->o.data= .func (docDef d.name d.params d.body d.scope pm cd doc)->s₁.heap.CodeRec cd d.name->mg d.name=some (.ref fa)->
   s₁.heap.get? a=some {cls:= .type "list",data:= .seq vs.toArray} ->IntsAre vs ns->ns.length<=n->s₁.gens= #[]->
   codeAny (model l.prog w) callerA (.call (.ref fa) ⟨[.ref a],[]⟩) (λr s'=>r= .ok (.ret (.bool true))/\OldK s₁.heap s'.heap/\s'.os=s₁.os/\AllBare s'.gens) s₁):
  WalkO q loose XP YP l.row.toRowW d [] (λf vs=>PySem.call f vs):=by
 intro w s₀ s₁ mg mb G Y fa o pm cd doc dV kV ho hd hcd hD hmg hg args vals as hpre hlay hrd hwl hlo;obtain rfl:dV= .none:=Dflts.none hD hdf;obtain rfl:kV= .none:=Dflts.noKw hD;obtain⟨a,vs,ns,rfl,rfl,hobj,hints,hlen⟩:=znx hn hpre hwl;refine enter_call (codeAny_mono (call w s₀ s₁ mg mb fa o pm cd doc a vs ns G Y ho (fd_plain hd) hcd hmg hobj hints hlen hg) λr s' hq=> ?_);obtain⟨rfl,h2,h3,h4⟩:=hq;exact⟨.inl ⟨.bool true,.bool true,[],rfl,λ_=>rfl,.bool true,zmv l _,λ_=>⟨List.Pairwise.nil,λ_ hm=>(nomatch hm)⟩⟩,h2,h3,h4⟩
section
variable {prog:Program} {w:World} {A:Around} {E:Value->Shared->Prop} {s:Shared} {K:Frag}
end
end Att
namespace L2
open PySem PySem.Spec PyProof.Rows
theorem zgT: ∀{vs:List Value} {ns:List Int},IntsAre vs ns->zH (ns.map V.int) vs
 | _,_,.nil=> .nil
 | _,_,.cons n t h=> .cons ⟨t,rfl⟩ (zgT h)
def gD (H:Hp):Prop:= ∀b,H b=none∨∃o xs,H b=some (.frz o (.lst xs))
theorem zkj {P:Program}{w:World}{K:Frag}{mg mb:Str->Option Value}{CX:t6}{k:Nat}{fa a:Addr}{fd:FuncData}{x:Str}{sp:Sp}{s₁:Shared}{vs:List Value}{ns:List Int}
  (KX:K.In s₁.heap) (hns:s₁.heap.Ns mainGlobals mg) (hb:s₁.heap.Ns builtinsNs mb) (hbb: ∀x:Str,x≠ "__name__" ->mb x=bootBuiltins x) (hlim:s₁.heap.NoLimit) (hg:s₁.gens= #[])
  (ha:s₁.heap.get? a=some {cls:= .type "list",data:= .seq vs.toArray}) (hi:IntsAre vs ns) (hl:ns.length<=sizeLine) (hr:y4 k callerA)
  (F: ∀base:Heap,K.In base->base.Ns mainGlobals mg->zP P w K mg base CX k fa fd [x] sp) (hbind: ∀(s:Shared) (u:Value),BindsTo s fd ⟨[u],[]⟩ [(x,u)])
  (hsp: ∀H:Hp,gD H->yW K H a (ns.map V.int)->sp [.ref a] H (λv _=>v= .bl true) λ_ _ _=>False)
  (hCX: ∀H e s',CX [] H s₁ (λ_ _ _=>False) e s'->False):
  codeAny (model P w) callerA (.call (.ref fa) ⟨[.ref a],[]⟩) (λr s'=>r= .ok (.ret (.bool true))/\OldK s₁.heap s'.heap/\s'.os=s₁.os/\AllBare s'.gens) s₁:=by
 have rv:=zgT hi;have lenV:=hi.length;have core: ∀H:Hp,gD H->yW K H a (ns.map V.int)->xD P w H s₁.heap->(∀b,H b≠none->b=a)->(H a≠none->K.lookup a=none)->
   codeAny (model P w) callerA (.call (.ref fa) ⟨[.ref a],[]⟩) (λr s'=>r= .ok (.ret (.bool true))/\OldK s₁.heap s'.heap/\s'.os=s₁.os/\AllBare s'.gens) s₁:=by
  intro H hO hS hok hA hK;have base_of: ∀{b:Addr} {o:Obj},s₁.heap.get? b=some o->H b=none->(rK s₁.heap H).get? b=some o:=λe n=>zjA e n;have noA: ∀{b:Addr} {o:Obj} {es:Array DictEntry} {ep:Nat},s₁.heap.get? b=some o->o.data= .dict es ep->H b=none:=λ{b o es ep} e d=>by
   cases q:H b with
   | none=>rfl
   | some u=>
    have e':b=a:=hA b (by rw[q];simp);subst e';rw[ha]at e;cases e;have d':Data.seq vs.toArray _=Data.dict es ep:=d;cases d'
  have nsK: ∀{b:Addr} {m:Str->Option Value},s₁.heap.Ns b m->(rK s₁.heap H).Ns b m:=λ{b m} ⟨o,es,ep,e,d,r⟩=>⟨o,es,ep,base_of e (noA e d),d,r⟩;have hKb:K.In (rK s₁.heap H):=λb o e=>base_of (KX b o e) (by
   cases q:H b with
   | none=>rfl
   | some u=>
    have e':b=a:=hA b (by rw[q];simp);subst e';rw[hK (by rw[q];simp)]at e;cases e)
  have hM:Mod K mg (rK s₁.heap H):=⟨hKb,nsK hns,⟨mb,nsK hb,hbb⟩,let⟨mc,h1,h2⟩:=hlim;⟨mc,nsK h1,h2⟩⟩;have e0:lW P w K mg (rK s₁.heap H) callerA [] s₁ H:=⟨rfl,hM,λb o e=>zla e,Nat.le_of_eq (zjB _ _),trivial,λb hb=>absurd (show b∈([]:List Addr)from hb) (by simp),hok,.of_eq hg⟩;refine codeAny_mono ((F _ hKb (nsK hns)).run callerA [] s₁ H ⟨[.ref a],[]⟩ [.ref a] [.ref a] _ _ hr e0 (hbind s₁ (.ref a)) (.cons rfl .nil) (hsp H hO hS)) λr s' h=> ?_;cases r with
  | error e=>exact(hCX H e s' h).elim
  | ok fl=>
   cases fl with
   | next=>exact False.elim h
   | brk=>exact False.elim h
   | cont=>exact False.elim h
   | ret u=>
    obtain⟨v,H',os,bare,un,hok',r',q⟩:=h;have q':v= .bl true:=q;subst q';obtain rfl:u=Value.bool true:=r';refine⟨rfl,OldK.of_keep λb o e=> ?_,os,bare⟩;cases q:H b with
    | none=>exact un.keep b o e q (by intro z;exact absurd (show b∈([]:List Addr)from z) (by simp)) (by simp)
    | some u=>
     rcases hO b with z | ⟨ob,xs,z⟩
     ·rw[q]at z;cases z
     ·have z2:=un.frzs b ob _ z
      obtain⟨e1,_⟩:=hok b _ z;obtain⟨e2,_⟩:=hok' b _ z2;rw[e]at e1;cases e1;exact e2
 cases hk:K.lookup a with
 | some o=>
  have e:=KX a o hk;rw[ha]at e;cases e;refine core (λ_=>none) (λ_=> .inl rfl) (.inr ⟨_,vs.toArray,_,hk,rfl,rfl,rfl,by rw[List.size_toArray,lenV];exact hl,by simpa using rv,rfl⟩) (λb u z=>by have z':(none:Option HO)=some u:=z;cases z') (λb z=>absurd rfl z) λz=>absurd rfl z
 | none=>
  refine core (λb=>if b=a then some (.frz {cls:= .type "list",data:= .seq vs.toArray} (.lst (ns.map V.int)))else none) (λb=> ?_) (.inl (.inr ⟨{cls:= .type "list",data:= .seq vs.toArray},if_pos rfl⟩)) (λb u z=> ?_) (λb z=> ?_) λ_=>hk
  ·by_cases hb:b=a
   ·exact .inr ⟨_,_,if_pos hb⟩
   ·exact .inl (if_neg hb)
  ·by_cases hb:b=a
   ·have z':=(if_pos hb).symm.trans z
    cases z';subst hb;exact⟨ha,by rw[List.length_map];exact hl,vs,_,rv,ha⟩
   ·have z':=(if_neg hb).symm.trans z
    cases z'
  ·by_cases hb:b=a
   ·exact hb
   ·exact absurd (if_neg hb) z
end L2
namespace L2
open PySem PySem.Spec PyProof.Rows
theorem walk_of {l:PySem.W.OpenLaw}{n k:Nat}{q:Program}{loose:List Str}{XP:(Str->Option Value)->Heap->Prop}{YP:World->Heap->Prop}{d:DefRec}{K:Params->Frag}{CX:World->t6}{sp:World->Sp}{x:Str}
  (hn:l.most=some n) (hn2:n<=sizeLine) (hdf:d.params.defaults= []) (hr:y4 k callerA)
  (hY: ∀(w:World) (h:Heap),YP w h->(K w.params).In h)
  (F: ∀(w:World) (mg:Str->Option Value) (fa:Addr) (h:Heap),(K w.params).In h->h.Ns mainGlobals mg->mg d.name=some (.ref fa)->
   ∃fd:FuncData,(∀(s:Shared) (u:Value),BindsTo s fd ⟨[u],[]⟩ [(x,u)])/\
    ∀base:Heap,(K w.params).In base->base.Ns mainGlobals mg->zP l.prog w (K w.params) mg base (CX w) k fa fd [x] (sp w))
  (hsp: ∀(w:World) (H:Hp) (a:Addr) (ns:List Int),ns.length<=n->gD H->yW (K w.params) H a (ns.map V.int)->sp w [.ref a] H (λv _=>v= .bl true) λ_ _ _=>False)
  (hCX: ∀(w:World) (H:Hp) (s:Shared) (e:Value) (s':Shared),CX w [] H s (λ_ _ _=>False) e s'->False):
  PySem.W.WalkO q loose XP YP l.row.toRowW d [] (λf vs=>PySem.call f vs):=by
 refine Att.attach_call hn hdf λw s₀ s₁ mg mb fa o pm cd doc a vs ns G Y ho hd hcd hmg hobj hints hlen hg=> ?_;have KX:=hY w _ Y;obtain⟨fd,hb,hF⟩:=F w mg fa _ KX G.T.g hmg;exact zkj KX G.T.g G.T.b G.T.builtins G.T.nolimit hg hobj hints (Nat.le_trans hlen hn2) hr hF hb (λH hO hS=>hsp w H a ns hlen hO hS) λH e s'=>hCX w H s₁ e s'
end L2
namespace L2
open PySem PySem.Spec PyProof.Rows
def zjI (s:Stmt)(j:Nat):Stmt:=match s with
 | .ClassDef _ _ _ body _ _ _ _ _ _ _=>body.getD j (.Pass ⟨0,0,0,0⟩)
 | _=> .Pass ⟨0,0,0,0⟩
def xC (s:Stmt):Arguments:=match s with
 | .FunctionDef _ a _ _ _ _ _ _ _ _=>a
 | _=> {posonlyargs:= [],args:= [],vararg:=none,kwonlyargs:= [],kw_defaults:= [],kwarg:=none,defaults:= []}
def yX (s:Stmt):List Stmt:=match s with
 | .FunctionDef _ _ b _ _ _ _ _ _ _=>b
 | _=> []
def zS (s:Stmt):Scope:=match s with
 | .FunctionDef _ _ _ _ _ _ sc _ _ _=>sc
 | _=> {kind:= .function,names:= [],isGenerator:=false,isCoroutine:=false}
abbrev zQ:t6:=λ_ _ _ _ _ _=>False
abbrev E0:XK:=λ_ _ _=>False
theorem zlG {X:Cx} :gF zQ X E0:=λ_ _ _ _ _ _ _ h=>h.elim
structure yC (K:Frag)(x qual:Str)(st:Stmt)(f:Addr)(fd:FuncData):Prop where
 ex: ∃(oc:Value) (od:Option Addr) (kV doc pm:Value) (an:Option Addr) (cdv ct:Value) (osl:Array (Option Value)),
  fd=fnOf x qual (xC st) (yX st) (zS st) .none kV doc pm an cdv ct/\K.lookup f=some ⟨oc,od,.func fd,osl⟩/\codeIn K cdv qual=true
 kp:keepIn K (.ref f)=true
section
variable {P:Program} {w:World} {K:Frag} {mg:Str->Option Value} {base:Heap}
theorem yC.ok {x qual:Str}{st:Stmt}{f:Addr}{fd:FuncData}{N ps:List Str}{k:Nat}{sp:Sp}(F:yC K x qual st f fd)(S:xH N ps (zS st))(len: ∀vs H Q E,sp vs H Q E->vs.length=ps.length)
  (hbody: ∀(cdv:Value) (A:Around) (outer:List Env) (s:Shared) (H:Hp) (vs:List V) (Q:VK) (E:XK),y4 k (A.deeper (envOfC qual (zS st) s.heap.objs.size f cdv))->sp vs H Q E->
   ∃t,xI (pA zQ P w K mg base N qual (zS st) f cdv A outer s H E).nox (yX st) t/\t {nx:=λ_ H'=>Q .non H',rt:=Q} (start N vs) H):zP P w K mg base zQ (k+1) f fd ps sp:=by
 obtain⟨oc,od,kV,doc,pm,an,cdv,ct,osl,rfl,lk,hcd⟩:=F.ex;refine zj0 lk hcd S len λA outer s H vs Q E hr hsp=> ?_;obtain⟨t,h,q⟩:=hbody cdv A outer s H vs Q E hr hsp;exact⟨t,h.nox,q⟩
theorem yC.binds {x qual:Str}{st:Stmt}{f:Addr}{fd:FuncData}{ps:List Str}(F:yC K x qual st f fd)
  (h: ∀(kV doc pm:Value) (an:Option Addr) (cdv ct:Value) (us:List Value),us.length=ps.length->bindArgs (fnOf x qual (xC st) (yX st) (zS st) .none kV doc pm an cdv ct) ⟨us,[]⟩=pure (ps.zip us)):x5 K fd ps []:=by
 obtain⟨oc,od,kV,doc,pm,an,cdv,ct,osl,rfl,lk,hcd⟩:=F.ex;exact .all (h kV doc pm an cdv ct)
theorem xS {x qual:Str}{st:Stmt}{f:Addr}{oc:Value}{od an:Option Addr}{osl:Array (Option Value)}{kV doc pm cdv ct:Value}(l:K.lookup f=some ⟨oc,od,.func (fnOf x qual (xC st) (yX st) (zS st) .none kV doc pm an cdv ct),osl⟩)
  (c:codeIn K cdv qual=true) (k:keepIn K (.ref f)=true):yC K x qual st f (fnOf x qual (xC st) (yX st) (zS st) .none kV doc pm an cdv ct):=⟨⟨oc,od,kV,doc,pm,an,cdv,ct,osl,rfl,l,c⟩,k⟩
end
section
variable {X:Cx}
end
theorem zad {c A B:Prop}[Decidable c](h1:c->A)(h2: ¬ c->B):if c then A else B:=by
 by_cases h:c
 ·rw[if_pos h]
  exact h1 h
 ·rw[if_neg h]
  exact h2 h
end L2
namespace L2
open PySem PySem.Spec PyProof.Rows
section
variable {κ:Type} [DecidableEq κ]
def vT (kvs:List (κ×V))(k:κ):Option V:=(kvs.find? λkv=>decide (kv.1=k)).map (·.2)
def wL (kvs:List (κ×V))(k:κ)(v:V):List (κ×V):=
 if(kvs.any λkv=>decide (kv.1=k))=true then kvs.map (λkv=>if kv.1=k then(kv.1,v)else kv)else kvs++ [(k,v)]
def oM (kvs:List (κ×V))(k:κ):List (κ×V):=kvs.filter λkv=>decide (kv.1≠k)
theorem lQ {p:κ×V}{r:List (κ×V)}{k:κ}(e:p.1=k):vT (p::r) k=some p.2:=by simp[vT,List.find?_cons,e]
theorem lP {p:κ×V}{r:List (κ×V)}{k:κ}(e: ¬ p.1=k):vT (p::r) k=vT r k:=by simp[vT,List.find?_cons,e]
theorem zgR (k:κ): ∀kvs:List (κ×V),(kvs.any λkv=>decide (kv.1=k))=(vT kvs k).isSome
 | []=>rfl
 | p::r=>by
  rw[List.any_cons];by_cases e:p.1=k
  ·simp only[lQ e,decide_eq_true e,Bool.true_or,Option.isSome_some]
  ·rw[lP e,decide_eq_false e,Bool.false_or];exact zgR k r
theorem jC (kvs:List (κ×V))(k:κ)(v:V):(wL kvs k v).length<=kvs.length+1:=by
 unfold wL
 split
 ·rw[List.length_map];omega
 ·rw[List.length_append,List.length_cons,List.length_nil];omega
theorem tQ.isSome_eq {o:Option V}{u:Option Value}(r:tQ o u):o.isSome=u.isSome:=by
 cases o with
 | none=>cases u with
  | none=>rfl
  | some _=>exact(show False from r).elim
 | some _=>cases u with
  | none=>exact(show False from r).elim
  | some _=>rfl
theorem KV.val {kvs:List (κ×V)}{vs:List (κ×Value)}(r:KV kvs vs)(k:κ):tQ (vT kvs k) (valueAt vs k):=by
 unfold KV at r
 induction r with
 | nil=>exact True.intro
 | @cons p q ps qs h t ih=>
  obtain⟨h1,h2⟩:=h;by_cases e:p.1=k
  ·have e':q.1=k:=h1.symm.trans e
   have b:valueAt (q::qs) k=some q.2:=by simp[valueAt,List.find?_cons,e']
   rw[lQ e,b];exact h2
  ·have e': ¬ q.1=k:=λz=>e (h1.trans z)
   have b:valueAt (q::qs) k=valueAt qs k:=by simp[valueAt,List.find?_cons,e']
   rw[lP e,b];exact ih
theorem KV.any {kvs:List (κ×V)}{vs:List (κ×Value)}(r:KV kvs vs)(k:κ):(kvs.any λkv=>decide (kv.1=k))=vs.any λkv=>decide (kv.1=k):=by
 unfold KV at r
 induction r with
 | nil=>rfl
 | cons h t ih=>rw[List.any_cons,List.any_cons,ih,h.1]
theorem KV.repl {kvs:List (κ×V)}{vs:List (κ×Value)}(r:KV kvs vs)(k:κ){y:V}{u:Value}(ry:zT y u):
  KV (kvs.map λkv=>if kv.1=k then(kv.1,y)else kv) (vs.map λkv=>if kv.1=k then(kv.1,u)else kv):=by
 unfold KV at r⊢
 induction r with
 | nil=>exact .nil
 | @cons p q ps qs h t ih=>
  rw[List.map_cons,List.map_cons];refine .cons ?_ ih;obtain⟨h1,h2⟩:=h;by_cases e:p.1=k
  ·rw[if_pos e,if_pos (h1.symm.trans e)];exact⟨h1,ry⟩
  ·rw[if_neg e,if_neg (λz=>e (h1.trans z))];exact⟨h1,h2⟩
theorem KV.put {kvs:List (κ×V)}{vs:List (κ×Value)}(r:KV kvs vs)(k:κ){y:V}{u:Value}(ry:zT y u):KV (wL kvs k y) (stored vs k u):=by
 unfold wL stored;rw[r.any k];by_cases e:(vs.any λkv=>decide (kv.1=k))=true
 ·rw[if_pos e,if_pos e];exact r.repl k ry
 ·rw[if_neg e,if_neg e];exact Paired.snoc r ⟨rfl,ry⟩
theorem KV.drop {kvs:List (κ×V)}{vs:List (κ×Value)}(r:KV kvs vs)(k:κ):KV (oM kvs k) (without vs k):=by
 unfold KV at r⊢
 unfold oM without
 induction r with
 | nil=>exact .nil
 | @cons p q ps qs h t ih=>
  obtain⟨h1,h2⟩:=h;rw[List.filter_cons,List.filter_cons];by_cases e:p.1=k
  ·have a: ¬ decide (p.1≠k)=true:=by simp[e]
   have b: ¬ decide (q.1≠k)=true:=by simp[h1.symm.trans e]
   rw[if_neg a,if_neg b];exact ih
  ·have e': ¬ q.1=k:=λz=>e (h1.trans z)
   have a:decide (p.1≠k)=true:=by simp[e]
   have b:decide (q.1≠k)=true:=by simp[e']
   rw[if_pos a,if_pos b];exact .cons ⟨h1,h2⟩ ih
theorem KV.length {kvs:List (κ×V)}{vs:List (κ×Value)}(r:KV kvs vs):kvs.length=vs.length:=Paired.length r
theorem zcG (kvs:List (κ×V))(k:κ):(oM kvs k).length<=kvs.length:=List.length_filter_le _ _
end
theorem qJ {P:Program}{w:World}{k:z7}{u:Value}(r:zT (kV k) u):(x6 P w).is k u=true:=by
 cases k with
 | inl i=>obtain⟨t,e⟩:=(show ∃t,u=Value.int i t from r);subst e;exact zk7 P w i t
 | inr x=>obtain⟨t,e⟩:=(show ∃t,u=Value.str x t from r);subst e;exact zk8 P w x t
theorem zev {P:Program}{w:World} : ∀{ks:List z7} {us:List Value},zH (ks.map kV) us->ItemsAre (x6 P w) ks us
 | [],_,r=>by rw[List.map_nil]at r;cases r;exact .nil
 | k::ks,_,r=>by
  rw[List.map_cons]at r;cases r with
  | cons h t=>exact .cons (qJ h) (zev t)
abbrev KT (H:Hp):List (List z7×V)->List (List z7×Addr×Value)->Prop:=Paired λp q=>p.1=q.1/\H q.2.1=some (.tup (p.1.map kV))/\zT p.2 q.2.2
theorem KT.val {H:Hp}{kvs:List (List z7×V)}{xs:List (List z7×Addr×Value)}(r:KT H kvs xs)(k:List z7):tQ (vT kvs k) ((atKey xs k).map (·.2)):=by
 induction r with
 | nil=>exact True.intro
 | @cons p q ps qs h t ih=>
  obtain⟨h1,_,h2⟩:=h;by_cases e:p.1=k
  ·have e':q.1=k:=h1.symm.trans e
   have b:atKey (q::qs) k=some q.2:=by simp[atKey,List.find?_cons,e']
   rw[lQ e,b];exact h2
  ·have e': ¬ q.1=k:=λz=>e (h1.trans z)
   have b:atKey (q::qs) k=atKey qs k:=by simp[atKey,List.find?_cons,e']
   rw[lP e,b];exact ih
theorem KT.repl {H:Hp}{kvs:List (List z7×V)}{xs:List (List z7×Addr×Value)}(r:KT H kvs xs)(k:List z7){y:V}{u:Value}(ry:zT y u):
  KT H (kvs.map λkv=>if kv.1=k then(kv.1,y)else kv) (xs.map (putAt k u)):=by
 induction r with
 | nil=>exact .nil
 | @cons p q ps qs h t ih=>
  rw[List.map_cons,List.map_cons];refine .cons ?_ ih;obtain⟨h1,h2,h3⟩:=h;unfold putAt;by_cases e:p.1=k
  ·rw[if_pos e,if_pos (h1.symm.trans e)];exact⟨h1,h2,ry⟩
  ·rw[if_neg e,if_neg (λz=>e (h1.trans z))];exact⟨h1,h2,h3⟩
theorem KT.put {H:Hp}{kvs:List (List z7×V)}{xs:List (List z7×Addr×Value)}(r:KT H kvs xs)(k:List z7){b:Addr}{y:V}{u:Value}(hb:H b=some (.tup (k.map kV)))(ry:zT y u):
  KT H (wL kvs k y) (storedH xs k b u):=by
 have e:(kvs.any λkv=>decide (kv.1=k))=(atKey xs k).isSome:=by
  rw[zgR,(r.val k).isSome_eq,Option.isSome_map]
 unfold wL storedH;rw[e];by_cases q:(atKey xs k).isSome=true
 ·rw[if_pos q,if_pos q];exact r.repl k ry
 ·rw[if_neg q,if_neg q];exact Paired.snoc r ⟨rfl,hb,ry⟩
theorem KT.keeps {H H':Hp}{kvs:List (List z7×V)}{xs:List (List z7×Addr×Value)}(r:KT H kvs xs)(ht: ∀b ys,H b=some (.tup ys)->H' b=some (.tup ys)):KT H' kvs xs:=
 Paired.mapP r λ_ _ z=>⟨z.1,ht _ _ z.2.1,z.2.2⟩
section
variable {P:Program} {w:World} {H:Hp} {h:Heap} {a:Addr}
theorem zf5 {u:HO}(ok:xD P w H h)(e:Rd H a u):wA P w H h a u:=e.ok ok
theorem oJ {kvs:List (z7×V)}(ok:xD P w H h)(e:Rd H a (.dK kvs)):kvs.length<=sizeLine/\(a==sysModules)=false/\∃vs,KV kvs vs/\h.DictOf (x6 P w) a vs:=
 show wA P w H h a (.dK kvs)from zf5 ok e
theorem oI {kvs:List (z7×V)}(ok:xD P w H h)(e:H a=some (.dK kvs)):kvs.length<=sizeLine/\(a==sysModules)=false/\∃vs,KV kvs vs/\h.DictOf (x6 P w) a vs:=oJ ok (.inl e)
theorem mM {ks:List z7}(ok:xD P w H h)(e:H a=some (.tup (ks.map kV))):(tupleKind (x6 P w)).is h ks a:=by
 obtain⟨_,its,r,o,h1,h2,n,h3,_⟩:=(show wA P w H h a (.tup (ks.map kV))from ok a _ e);exact⟨o,its.toArray,n,h1,h2,h3,by simpa using zev r⟩
theorem mI {kvs:List (List z7×V)}(ok:xD P w H h)(e:Rd H a (.dT kvs)):kvs.length<=sizeLine/\(a==sysModules)=false/\
  ∃xs,KT H kvs xs/\h.DictOfH (tupleKind (x6 P w)) a xs:=by
 obtain⟨z,y,xs,r,o,es,ep,h1,h2,h3,h4,h5⟩:=(show wA P w H h a (.dT kvs)from zf5 ok e);refine⟨z,y,xs,r,o,es,ep,h1,h2,h3,h4,λx hx=> ?_,h5⟩;have all: ∀{l:List (List z7×V)} {m:List (List z7×Addr×Value)},KT H l m->∀x∈m,(tupleKind (x6 P w)).is h x.1 x.2.1:=by
  intro l m q
  induction q with
  | nil=>intro x hx;exact nomatch hx
  | @cons p q ps qs hq t ih=>
   intro x hx;rcases List.mem_cons.mp hx with e | hx
   ·subst e
    exact mM ok (by rw[<- hq.1];exact hq.2.1)
   ·exact ih x hx
 exact all r x hx
theorem zi8 {kvs:List (List z7×V)}(ok:xD P w H h)(e:H a=some (.dT kvs)):kvs.length<=sizeLine/\(a==sysModules)=false/\
  ∃xs,KT H kvs xs/\h.DictOfH (tupleKind (x6 P w)) a xs:=mI ok (.inl e)
end
def nL (H:Hp)(a:Addr)(y:V)(r:Option V):Prop:=
 (∃kvs k,Rd H a (.dK kvs)/\y=kV k/\r=vT kvs k)∨∃kvs k b,Rd H a (.dT kvs)/\y= .ref b/\H b=some (.tup (k.map kV))/\r=vT kvs k
def zgX (H:Hp)(a:Addr)(y v:V)(H':Hp):Prop:=
 (∃kvs k,H a=some (.dK kvs)/\y=kV k/\kvs.length < sizeLine/\H'=zJ H a (.dK (wL kvs k v)))∨
 ∃kvs k b,H a=some (.dT kvs)/\y= .ref b/\H b=some (.tup (k.map kV))/\kvs.length < sizeLine/\H'=zJ H a (.dT (wL kvs k v))
section
variable {X:Cx} {pins:List (Addr×Obj)} {σ:St} {H:Hp} {s:Shared} {a:Addr} {y v:V} {u r:Value} {o:Option V} {A:Around} {E:Value->Shared->Prop}
theorem z5.big (I:z5 X pins σ H s):sysModules < s.heap.objs.size:=by
 have h:mainGlobals < s.heap.objs.size:=(I.mod.glob.keeps I.bk).lt;exact Nat.lt_trans (by decide) h
theorem ziz {Q:Value->Shared->Prop}(hu:A.units+1 < cLine)(I:z5 X pins σ H s)(g:nL H a y (some v))(ry:zT y u)(h: ∀w' s',z5 X pins σ H s'->zT v w'->Q w' s'):
  wpAny (model X.prog X.w) A (getItem (.ref a) u) Q E s:=by
 rcases g with⟨kvs,k,e,ey,l⟩ | ⟨kvs,k,b,e,ey,eb,l⟩
 ·subst ey
  obtain⟨z,hd,vs,rel,dd⟩:=oJ I.hok e;obtain⟨w',hw,rw'⟩:=tQ.some_of (v:=v) (o:=valueAt vs k) (by rw[l];exact rel.val k);exact wpAny_getItem_of (qJ ry) dd.mapOf hw (h w' _ (I.tok _) rw')
 ·subst ey
  cases(show u=Value.ref b from ry);obtain⟨z,hd,xs,rel,dd⟩:=mI I.hok e;obtain⟨w',hw,rw'⟩:=tQ.some_of (v:=v) (o:=(atKey xs k).map (·.2)) (by rw[l];exact rel.val k);obtain⟨p,hp,hp2⟩:=Option.map_eq_some_iff.mp hw;refine wpAny_getItem_heap (tupleKind_room_in1 hu) (mM I.hok eb) dd hp ?_;rw[hp2];exact h w' _ (I.tok _) rw'
theorem zi0 {Q:Value->Shared->Prop}(hu:A.units+1 < cLine)(I:z5 X pins σ H s)(g:nL H a y o)(ry:zT y u)(h: ∀s',z5 X pins σ H s'->Q (.bool o.isSome) s'):
  wpAny (model X.prog X.w) A (compareOp .In u (.ref a)) Q E s:=by
 rcases g with⟨kvs,k,e,ey,l⟩ | ⟨kvs,k,b,e,ey,eb,l⟩
 ·subst ey
  obtain⟨z,hd,vs,rel,dd⟩:=oJ I.hok e;refine wpAny_in_of (qJ ry) hd dd.mapOf ?_;rw[<- (rel.val k).isSome_eq,<- l];exact h _ (I.tok _)
 ·subst ey
  cases(show u=Value.ref b from ry);obtain⟨z,hd,xs,rel,dd⟩:=mI I.hok e;refine wpAny_in_heap (tupleKind_room_in1 hu) (mM I.hok eb) hd dd ?_;have q:=(rel.val k).isSome_eq;rw[Option.isSome_map]at q;rw[<- q,<- l];exact h _ (I.tok _)
theorem zi2 {Q:Value->Shared->Prop}(hu:A.units+1 < cLine)(I:z5 X pins σ H s)(g:nL H a y o)(ry:zT y u)(h: ∀s',z5 X pins σ H s'->Q (.bool (!o.isSome)) s'):
  wpAny (model X.prog X.w) A (compareOp .NotIn u (.ref a)) Q E s:=by
 rcases g with⟨kvs,k,e,ey,l⟩ | ⟨kvs,k,b,e,ey,eb,l⟩
 ·subst ey
  obtain⟨z,hd,vs,rel,dd⟩:=oJ I.hok e;refine wpAny_notIn_of (qJ ry) hd dd.mapOf ?_;rw[<- (rel.val k).isSome_eq,<- l];exact h _ (I.tok _)
 ·subst ey
  cases(show u=Value.ref b from ry);obtain⟨z,hd,xs,rel,dd⟩:=mI I.hok e;refine wpAny_notIn_heap (tupleKind_room_in1 hu) (mM I.hok eb) hd dd ?_;have q:=(rel.val k).isSome_eq;rw[Option.isSome_map]at q;rw[<- q,<- l];exact h _ (I.tok _)
theorem mG {h':Heap}{t':Nat}{ob:HO}(I:z5 X pins σ H s)(mu:nS (H a))(hs:Heap.SameBut a s.heap h')(he: ∃q,h'.get? a=some q)(new:wA X.prog X.w (zJ H a ob) h' a ob):
  z5 X pins σ (zJ H a ob) {s with heap:=h',toks:=t'} :=
 I.write (x:=a) (e:=a) mu (.inl rfl) (λb q hb z=>(hs.2 b hb).trans z) he new
theorem mH {P:Program}{w:World}{H':Hp}{h':Heap}{kvs:List (z7×V)}{vs:List (z7×Value)}(z:kvs.length<=sizeLine)(hd:(a==sysModules)=false)(rel:KV kvs vs)(dd:h'.DictOf (x6 P w) a vs):
  wA P w H' h' a (.dK kvs):=⟨z,hd,vs,rel,dd⟩
theorem zc7 {H':Hp}{Q:Unit->Shared->Prop}(hu:A.units+1 < cLine)(I:z5 X pins σ H s)(g:zgX H a y v H')(ry:zT y u)(rv:zT v r)(h: ∀s',z5 X pins σ H' s'->Q () s'):
  wpAny (model X.prog X.w) A (setItem (.ref a) u r) Q E s:=by
 rcases g with⟨kvs,k,e,ey,l,eH⟩ | ⟨kvs,k,b,e,ey,eb,l,eH⟩
 ·subst ey eH
  obtain⟨z,hd,vs,rel,dd⟩:=oI I.hok e;have hz:vs.length<=sizeLine:=by rw[<- rel.length];exact z
  have hl:(wL kvs k v).length<=sizeLine:=by have:=jC kvs k v;omega
  refine wpAny_setItem_pairs (hsz:=hz) (qJ ry) dd λh' dd' hs=>h _ ?_;have he: ∃q,h'.get? a=some q:=let⟨q,_,_,hq,_⟩:=dd';⟨q,hq⟩;exact mG I (by rw[e];exact True.intro) hs he (mH hl hd (rel.put k rv) dd')
 ·subst ey eH
  cases(show u=Value.ref b from ry);obtain⟨z,hd,xs,rel,dd⟩:=zi8 I.hok e;have hz:xs.length<=sizeLine:=by rw[<- Paired.length rel];exact z
  have hl:(wL kvs k v).length<=sizeLine:=by have:=jC kvs k v;omega
  refine wpAny_setItem_heap (hsz:=hz) (tupleKind_room_in1 hu) (mM I.hok eb) dd λh' dd' hs=>h _ ?_;obtain⟨q,es,ep,hq,h2,h3,h4,_,h5⟩:=dd';refine mG I (by rw[e];exact True.intro) hs ⟨q,hq⟩ ⟨hl,hd,_,(rel.put k eb rv).keeps λc ys ec=> ?_,q,es,ep,hq,h2,h3,h4,h5⟩;rw[yK (zeJ ec e (λz=>nomatch z))];exact ec
end
section
variable {X:Cx} {pins:List (Addr×Obj)} {σ:St} {H:Hp} {s:Shared} {a:Addr} {kvs:List (z7×V)} {k:z7} {u:Value} {A:Around} {E:Value->Shared->Prop}
theorem zi3 {v:V}{more:List Value}{Q:Value->Shared->Prop}(I:z5 X pins σ H s)(e:H a=some (.dK kvs))(ry:zT (kV k) u)(l:vT kvs k=some v)(hm:more= []∨∃x,more= [x])
  (h: ∀w' s',z5 X pins σ (zJ H a (.dK (oM kvs k))) s'->zT v w'->Q w' s'):wpAny (model X.prog X.w) A (call (.builtin "dict.pop") (.ref a::u::more)) Q E s:=by
 obtain⟨z,hd,vs,rel,dd⟩:=oI I.hok e;obtain⟨w',hw,rw'⟩:=tQ.some_of (v:=v) (o:=valueAt vs k) (by rw[<- l];exact rel.val k);have hp:(keyPart u).isSome=true:=by
  cases k with
  | inl i=>obtain⟨t,q⟩:=(show ∃t,u=Value.int i t from ry);subst q;rfl
  | inr x=>obtain⟨t,q⟩:=(show ∃t,u=Value.str x t from ry);subst q;rfl
 have ha:argsOk "dict.pop" ⟨.ref a::u::more,[]⟩:=by
  rcases hm with q | ⟨x,q⟩
  ·subst q;exact PySem.F.args_dict_pop_2 _ _
  ·subst q;exact PySem.F.args_dict_pop_3 _ _ _
 refine call_meetsIn PySem.F.slot_dict_pop dd.typeIs PySem.F.entry_dict_pop ha (meets_dict_pop_there (x6 X.prog X.w) a (qJ ry) more hm hp)
  ⟨vs,w',dd,by rw[<- rel.length];exact z,hw,λh' dd' hs=>h w' _ ?_ rw'⟩
 have he: ∃q,h'.get? a=some q:=let⟨q,_,_,hq,_⟩:=dd';⟨q,hq⟩;exact mG I (by rw[e];exact True.intro) hs he (mH (Nat.le_trans (zcG kvs k) z) hd (rel.drop k) dd')
theorem zi1 {Q:Value->Shared->Prop}(I:z5 X pins σ H s)(e:Rd H a (.dK kvs))(h: ∀t s',z5 X pins σ H s'->Q (.int kvs.length t) s'):wpAny (model X.prog X.w) A (call (.builtin "len") [.ref a]) Q E s:=by
 obtain⟨z,hd,vs,rel,dd⟩:=oJ I.hok e;refine call_len_dict hd dd (by rw[<- rel.length];rw[sizeLine_eq]at z;omega) ?_;rw[<- rel.length];exact h _ _ (I.tok _)
end
theorem zi5 {X:Cx}{pins:List (Addr×Obj)}{σ:St}{H:Hp}{s:Shared}{a:Addr}{y:V}{o:Option V}(I:z5 X pins σ H s)(g:nL H a y o):s.TypeIs (.ref a) "dict" :=by
 rcases g with⟨kvs,k,e,_,_⟩ | ⟨kvs,k,b,e,_,_,_⟩
 ·obtain⟨_,_,vs,_,dd⟩:=oJ I.hok e
  exact dd.typeIs
 ·obtain⟨_,_,xs,_,dd⟩:=mI I.hok e
  exact dd.typeIs
section
variable {X:Cx} {o i e value:Expr} {pos pos' tpos:Pos} {td ty tv:TE}
end
theorem zc9 {P:Program}{w:World}{H:Hp}(h:Heap)(hb:sysModules < h.objs.size):wA P w H (h.push {cls:= .type "dict",data:= .dict #[]}) h.objs.size (.dK []):=
 ⟨Nat.zero_le _,beq_eq_false_iff_ne.mpr (Ne.symm (Nat.ne_of_lt hb)),[],.nil,Heap.DictOf.new h⟩
def zbi:TE:=λ_ H Q=> ∀p,H p=none->Q (.ref p) (zJ H p (.dK []))
section
variable {X:Cx} {pos:Pos}
theorem zaw:PE X (.Dict [] [] pos) zbi:=⟨λpins s σ H Q I h=>
 wpAny_Dict_empty ⟨.ref s.heap.objs.size,_,I.laid (a:=s.heap.objs.size) (o:= .dK []) (t':=s.toks) (λ_ _ q=>Heap.get?_push_of_some _ q) (Nat.le_refl _) (zc9 s.heap I.big),rfl,h _ (I.hok.fresh (Nat.le_refl _))⟩⟩
end
def iI:List (TE×TE)->St->Hp->(List (V×V)->Hp->Prop)->Prop
 | [],_,H,Q=>Q [] H
 | (tk,tv)::r,σ,H,Q=>tk σ H λx H1=>tv σ H1 λy H2=>iI r σ H2 λps H3=>Q ((x,y)::ps) H3
abbrev VV:List (V×V)->List (Value×Value)->Prop:=Paired λp q=>zT p.1 q.1/\zT p.2 q.2
def qB (X:Cx)(pos:Pos)(keys:List (Option Expr))(values:List Expr)(trs:List (TE×TE)):Prop:=
 ∀(pins:List (Addr×Obj)) (s:Shared) (σ:St) (H:Hp) (Q:List (V×V)->Hp->Prop),z5 X pins σ H s->iI trs σ H Q->
  wpAny (model X.prog X.w) X.A (evalPairs (pairTrees keys values X.env pos)) (λvs s'=> ∃ps H',z5 X pins σ H' s'/\VV ps vs/\Q ps H') X.xe s
theorem zmx {X:Cx}{pos:Pos} :qB X pos [] [] []:=λpins s σ H Q I h=>pairTrees_nil_walk ⟨[],H,I,.nil,h⟩
theorem zmw {X:Cx}{pos:Pos}{k v:Expr}{ks:List (Option Expr)}{vs:List Expr}{tk tv:TE}{trs:List (TE×TE)}(hk:PE X k tk)(hv:PE X v tv)(hr:qB X pos ks vs trs):
  qB X pos (some k::ks) (v::vs) ((tk,tv)::trs):=λpins s σ H Q I h=>
 pairTrees_cons_walk (zU (hk pins s σ H _ I h) λu s1 ⟨x,H1,I1,rx,q1⟩=>zU (hv pins s1 σ H1 _ I1 q1) λw2 s2 ⟨y,H2,I2,ry,q2⟩=>
  zU (hr pins s2 σ H2 _ I2 q2) λws s3 ⟨ps,H3,I3,rel,q3⟩=>⟨(x,y)::ps,H3,I3,.cons ⟨rx,ry⟩ rel,q3⟩)
def uQ (kvs more:List (z7×V)):List (z7×V):=more.foldl (λacc kv=>wL acc kv.1 kv.2) kvs
theorem KV.merge: ∀{more:List (z7×V)} {rs:List (z7×Value)} {kvs:List (z7×V)} {vs:List (z7×Value)},KV more rs->KV kvs vs->KV (uQ kvs more) (merged vs rs):=by
 intro more rs kvs vs r;unfold KV at r
 induction r generalizing kvs vs with
 | nil=>intro q;exact q
 | @cons p q ps qs h t ih=>
  intro r0;have e:KV (wL kvs p.1 p.2) (stored vs q.1 q.2):=by
   have:=r0.put p.1 h.2;rw[<- h.1];exact this
  exact ih e
theorem mO: ∀(more kvs:List (z7×V)),(uQ kvs more).length<=kvs.length+more.length
 | [],kvs=>by show kvs.length<=kvs.length+0;omega
 | p::r,kvs=>by
  have h1:=mO r (wL kvs p.1 p.2);have h2:=jC kvs p.1 p.2;show(uQ (wL kvs p.1 p.2) r).length<=_;rw[List.length_cons];omega
theorem zcx {P:Program}{w:World} : ∀{kvs:List (z7×V)} {ws:List (Value×Value)},VV (kvs.map λkv=>(kV kv.1,kv.2)) ws->∃rs,Carries (x6 P w) ws rs/\KV kvs rs
 | [],_,r=>by rw[List.map_nil]at r;cases r;exact⟨[],True.intro,.nil⟩
 | p::kvs,_,r=>by
  rw[List.map_cons]at r;cases r with
  | @cons a b as bs h t=>
   obtain⟨rs,c,q⟩:=zcx (P:=P) (w:=w) t;obtain⟨b1,b2⟩:=b;exact⟨(p.1,b2)::rs,⟨qJ h.1,rfl,c⟩,.cons ⟨rfl,h.2⟩ q⟩
def znP (trs:List (TE×TE)):TE:=λσ H Q=> ∀p,H p=none->iI trs σ (zJ H p (.dK [])) λps H2=>H2 p=some (.dK [])/\∃kvs:List (z7×V),ps=kvs.map (λkv=>(kV kv.1,kv.2))/\kvs.length<=15/\Q (.ref p) (zJ H2 p (.dK (uQ [] kvs)))
theorem zlT {X:Cx}{pos:Pos}{keys:List (Option Expr)}{values:List Expr}{trs:List (TE×TE)}(h:qB X pos keys values trs)(hall:keys.all (·.isSome)=true)(hl:keys.length=values.length)(h0:keys≠ [])
  (h15:keys.length<=15):PE X (.Dict keys values pos) (znP trs):=by
 (first | refine⟨?_⟩ | skip)
 intro pins s σ H Q I q;have hn:=I.hok.fresh (Nat.le_refl s.heap.objs.size);have I1:=I.laid (a:=s.heap.objs.size) (o:= .dK []) (h':=s.heap.push {cls:= .type "dict",data:= .dict #[]}) (t':=s.toks) (λ_ _ q=>Heap.get?_push_of_some _ q) (Nat.le_refl _) (zc9 s.heap I.big);refine wpAny_Dict_walk (knd:=x6 X.prog X.w) hall hl h0 h15 (zU (h pins _ σ _ _ I1 (q _ hn)) λws s2 ⟨ps,H2,I2,rel,e,kvs,ep,lk,q2⟩=> ?_);subst ep;obtain⟨rs,c,rk⟩:=zcx (P:=X.prog) (w:=X.w) rel;obtain⟨z,hd,vs0,r0,dd⟩:=oI I2.hok e;cases r0;refine⟨rs,c,dd,λh' dd' hs=>⟨.ref s.heap.objs.size,_,?_,rfl,q2⟩⟩;have hz:(uQ [] kvs).length<=sizeLine:=by
  have h1:=mO kvs [];rw[List.length_nil]at h1;rw[sizeLine_eq];omega
 have he: ∃q,h'.get? s.heap.objs.size=some q:=let⟨q,_,_,hq,_⟩:=dd';⟨q,hq⟩;exact mG I2 (by rw[e];exact True.intro) hs he (mH hz hd (rk.merge .nil) dd')
section
variable {X:Cx} {pins:List (Addr×Obj)} {σ:St} {H:Hp} {s:Shared} {a:Addr} {y d:V} {u r:Value} {o:Option V} {A:Around} {E:Value->Shared->Prop}
end
section
variable {X:Cx} {o e f:Expr} {apos cpos:Pos} {td ty tx:TE}
end
section
variable {X:Cx} {pins:List (Addr×Obj)} {σ:St} {H:Hp} {s:Shared} {a:Addr} {kvs:List (z7×V)} {A:Around} {E:Value->Shared->Prop}
end
section
variable {X:Cx} {pins:List (Addr×Obj)} {σ:St} {H:Hp} {s:Shared} {a:Addr} {y:V} {u:Value} {A:Around} {E:Value->Shared->Prop}
end
end L2
namespace L2
open PySem PySem.Spec PyProof.Rows
section
variable {X:Cx}
theorem zid:vD X (.builtin "len") (λxs H Q=> ∃a kvs,xs= [V.ref a]/\H a=some (.dK kvs)/\Q (.int kvs.length) H):=by
 (first | refine⟨?_⟩ | skip)
 intro pins s σ H xs us Q I r h;obtain⟨a,kvs,rfl,ha,q⟩:=h;obtain⟨u,rfl,ru⟩:=qY r;cases ru;exact zi1 I (.inl ha) λt s' I'=>⟨.int kvs.length,H,I',⟨t,rfl⟩,q⟩
end
section
variable {κ:Type} [DecidableEq κ]
end
end L2
set_option maxHeartbeats 4000000
namespace L2
open PySem PySem.Spec PyProof.Rows
theorem zep {X:Cx}{pins:List (Addr×Obj)}{σ:St}{H:Hp}{s:Shared}{D:Addr}{o:HO}(I:z5 X pins σ H s)(hn:H D=none)(hs:X.s₀.heap.objs.size<=D)(hL:D≠X.env.locals)
  (hc: ∀x c,X.env.cells.lookup x=some c->c≠D) (hp: ∀p∈X.pn++pins,p.1≠D) (new:wA X.prog X.w (zJ H D o) s.heap D o):z5 X pins σ (zJ H D o) s:=by
 have low: ∀{b:Addr} {u:Obj},X.s₀.heap.get? b=some u->b≠D:=λe=>Nat.ne_of_lt (Nat.lt_of_lt_of_le (Heap.lt_size e) hs);refine⟨I.ok,I.os,I.bare,⟨I.base.keep,I.base.slot,λb u e n hx=> ?_,I.base.there,λb xs e=> ?_,λb u v e=> ?_,λb ps e=> ?_⟩,I.loc,I.cell,?_,λx c e=> ?_,λp hm=> ?_,λb u e=> ?_,I.len⟩
 ·rw[yK (low e)];exact I.base.free b u e n hx
 ·have q:=I.base.tups b xs e
  rw[yK (tY q hn)];exact q
 ·have q:=I.base.frzs b u v e
  rw[yK (tY q hn)];exact q
 ·obtain⟨more,q⟩:=I.base.tbls b ps e
  exact⟨more,by rw[yK (tY q hn)];exact q⟩
 ·rw[yK (Ne.symm hL)];exact I.free
 ·rw[yK (hc x c e)];exact I.freeC x c e
 ·obtain⟨e,n,r⟩:=I.pin p hm
  exact⟨e,by rw[yK (hp p hm)];exact n,r⟩
 ·by_cases hb:b=D
  ·subst hb;rw[yQ]at e;cases e;exact new
  ·rw[yK hb]at e
   exact(I.hok b u e).stay (λc v _ q=>q) (λc q=>by rw[yK (tY q hn)];exact q) λc xs q=>by rw[yK (tY q hn)];exact q
theorem zj2 {α β:Type}{l:List α}{f:α->β->Sem (ForInStep β)}{g:α->β->β}(h: ∀x∈l,∀b,f x b=pure (.yield (g x b)))(b:β):forIn l b f=pure (l.foldl (λb x=>g x b) b):=by
 induction l generalizing b with
 | nil=>rfl
 | cons x l ih=>
  rw[List.forIn_cons,h x List.mem_cons_self,pure_bind];exact ih (λy hy=>h y (List.mem_cons_of_mem _ hy)) _
def p9 (cells:List (Str×Addr))(p:Str×NameKind)(cs:List (Str×Addr)):List (Str×Addr):=if p.2== .free then(p.1,(cells.lookup p.1).getD 0)::cs else cs
def uC (names:List (Str×NameKind))(cells:List (Str×Addr)):List (Str×Addr):=names.foldl (λcs p=>p9 cells p cs) []
theorem zc4 {scope:Scope}{env:Env}(h: ∀p∈scope.names,p.2= .free->∃c,env.cells.lookup p.1=some c):closureFor scope env=pure (uC scope.names env.cells):=by
 unfold closureFor;dsimp only;rw[zj2 (g:=λp cs=>p9 env.cells p cs) (λp hp cs=> ?_)]
 ·rfl
 ·obtain⟨n,k⟩:=p
  unfold p9;by_cases hk:k= .free
  ·obtain⟨c,e⟩:=h _ hp hk
   subst hk;simp only[cellOf,e,beq_self_eq_true,if_true,Option.getD_some]
   rfl
  ·have:(k==NameKind.free)=false:=by simpa using hk
   simp only[this,Bool.false_eq_true,if_false]
theorem zeC {cells:List (Str×Addr)} : ∀(names:List (Str×NameKind)) (acc:List (Str×Addr)) (p:Str×Addr),p∈names.foldl (λcs q=>p9 cells q cs) acc->p∈acc∨((p.1,NameKind.free)∈names/\p.2=(cells.lookup p.1).getD 0)
 | [],acc,p,h=> .inl h
 | q::r,acc,p,h=>by
  rw[List.foldl_cons]at h;rcases zeC r _ p h with h | ⟨h1,h2⟩
  ·unfold p9 at h
   obtain⟨n,k⟩:=q
   split at h
   ·rename_i hk
    rcases List.mem_cons.mp h with e | h
    ·refine .inr ⟨?_,by rw[e]⟩
     have hk':k= .free:=by simpa using hk
     rw[e,hk'];exact List.mem_cons_self
    ·exact .inl h
   ·exact .inl h
  ·exact .inr ⟨List.mem_cons_of_mem _ h1,h2⟩
theorem zc0 {cells:List (Str×Addr)}{x:Str} : ∀(names:List (Str×NameKind)) (acc:List (Str×Addr)),((x,NameKind.free)∈names∨∃c,(x,c)∈acc)->∃c,(x,c)∈names.foldl (λcs q=>p9 cells q cs) acc
 | [],acc,h=>by
  rcases h with h | h
  ·cases h
  ·exact h
 | q::r,acc,h=>by
  rw[List.foldl_cons];refine zc0 r _ ?_;rcases h with h | ⟨c,h⟩
  ·rcases List.mem_cons.mp h with e | h
   ·refine .inr ⟨(cells.lookup x).getD 0,?_⟩
    rw[<- e];show _∈(if(NameKind.free==NameKind.free)=true then _ else _);rw[if_pos (by rfl)];exact List.mem_cons_self
   ·exact .inl h
  ·refine .inr ⟨c,?_⟩
   unfold p9
   split
   ·exact List.mem_cons_of_mem _ h
   ·exact h
theorem ze8 {β:Type}{x:Str} : ∀{l:List (Str×β)} {c:β},(x,c)∈l->∃d,l.lookup x=some d
 | [],_,h=>nomatch h
 | (y,d)::r,c,h=>by
  rw[List.lookup_cons];by_cases e:x=y
  ·subst e;exact⟨d,by simp⟩
  ·rcases List.mem_cons.mp h with q | q
   ·cases q;exact absurd rfl e
   ·obtain⟨d',q'⟩:=ze8 q
    have:(x==y)=false:=by simpa using e
    rw[this];exact⟨d',q'⟩
theorem zc1 {names:List (Str×NameKind)}{cells:List (Str×Addr)}{x:Str}{c:Addr}(h:(uC names cells).lookup x=some c):(x,NameKind.free)∈names/\c=(cells.lookup x).getD 0:=by
 rcases zeC names [] (x,c) (PySem.mem_of_lookup h)with h | h
 ·cases h
 ·exact h
theorem zc2 {names:List (Str×NameKind)}{cells:List (Str×Addr)}{x:Str}(h:(x,NameKind.free)∈names):(uC names cells).lookup x=some ((cells.lookup x).getD 0):=by
 obtain⟨c,hc⟩:=zc0 (cells:=cells) names [] (.inl h);obtain⟨d,hd⟩:=ze8 hc;rw[show(uC names cells).lookup x=some d from hd,(zc1 hd).2]
abbrev xJ (X:Cx)(scope:Scope)(Nc:List Str)(C:Addr)(s:Shared)(H:Hp)(fp:List Addr)(pins:List (Addr×Obj)):Cx:=
 {X with N:=Nc,s₀:=s,H₀:=H,env:=compEnvC scope (uC scope.names X.env.cells) C X.env,outer:=X.stack,stack:=X.stack,ex:=fp,fn:=λ_=>false,pn:=X.pn++pins,xe:=λ_ _=>False}
structure sF (X:Cx)(scope:Scope)(N' own:List Str):Prop where
 kind:scope.kind= .function
 nocell: ∀y∈scope.names,y.2≠ .cell
 names: ∀y∈scope.names,y.2= .local->scope.names.lookup y.1=some .local
 frees: ∀y∈scope.names,y.2= .free->X.env.scope.names.lookup y.1=some .cell∨X.env.scope.names.lookup y.1=some .free
 len:N'.length=X.N.length
 pre: ∀(i:Nat) (y:Str),N'[i]?=some y->X.N[i]?=some y∨(y,NameKind.free)∉scope.names
 nol: ∀y∈N',scope.names.lookup y≠some .local
theorem i9 {env:Env}{x:Str} : ∀{names:List (Str×NameKind)} {k:NameKind},
  (names.map λ(n,k)=>if(k==NameKind.free&&env.scope.kind== .function&&env.kindOf n==some .cell)then(n,NameKind.cell)else(n,k)).lookup x=some k->
  names.lookup x=some k∨(k= .cell/\names.lookup x=some .free)
 | [],k,h=>by simp at h
 | (n,j)::r,k,h=>by
  have h':List.lookup x ((if(j==NameKind.free&&env.scope.kind== .function&&env.kindOf n==some .cell)=true then(n,NameKind.cell)else(n,j))::
   r.map λ(n,k)=>if(k==NameKind.free&&env.scope.kind== .function&&env.kindOf n==some .cell)then(n,NameKind.cell)else(n,k))=some k:=h
  cases hx:x==n with
  | true=>
   by_cases hc:(j==NameKind.free&&env.scope.kind== .function&&env.kindOf n==some .cell)=true
   ·rw[if_pos hc]at h'
    simp only[List.lookup_cons,hx]at h'⊢
    simp only[Bool.and_eq_true,beq_iff_eq]at hc;cases h';exact .inr ⟨rfl,by rw[hc.1.1]⟩
   ·rw[if_neg hc]at h'
    simp only[List.lookup_cons,hx]at h'⊢
    exact .inl h'
  | false=>
   have q:(r.map λ(n,k)=>if(k==NameKind.free&&env.scope.kind== .function&&env.kindOf n==some .cell)then(n,NameKind.cell)else(n,k)).lookup x=some k:=by
    by_cases hc:(j==NameKind.free&&env.scope.kind== .function&&env.kindOf n==some .cell)=true
    ·rw[if_pos hc]at h';simpa only[List.lookup_cons,hx]using h'
    ·rw[if_neg hc]at h';simpa only[List.lookup_cons,hx]using h'
   simp only[List.lookup_cons,hx];exact i9 q
section
variable {X:Cx} {pins:List (Addr×Obj)} {σ:St} {H:Hp} {s:Shared} {scope:Scope} {N' own:List Str}
theorem sF.cells (S:sF X scope N' own)(I:z5 X pins σ H s): ∀p∈scope.names,p.2= .free->∃c,X.env.cells.lookup p.1=some c:=λp hp hk=>I.ok.has p.1 (S.frees p hp hk)
theorem rH (S:sF X scope N' own)(I:z5 X pins σ H s){x:Str}{c:Addr}(h:(uC scope.names X.env.cells).lookup x=some c):X.env.cells.lookup x=some c:=by
 obtain⟨hm,e⟩:=zc1 h;obtain⟨d,hd⟩:=S.cells I _ hm rfl;rw[hd]at e;rw[hd,e]
 rfl
theorem zeo (S:sF X scope N' own)(I:z5 X pins σ H s){C D:Addr}{oD:Obj}{fp:List Addr}{h4:Heap}{tk:Nat}{m:Str->Option Value}(k: ∀b u,s.heap.get? b=some u->h4.get? b=some u)(hC:s.heap.objs.size<=C)(hD:s.heap.objs.size<=D)(hDC:D≠C)(eD:h4.get? D=some oD)(cD: ∀v,oD.data≠ .cell v)
  (ns:h4.Ns C m) (ff: ∀b∈fp,rA X pins H b) (fl: ∀b∈fp,b < s.heap.objs.size):
  z5 (xJ X scope (N'++own) C s H fp pins) [(D,oD)] (σ++List.replicate own.length none) H {s with heap:=h4,toks:=tk} :=by
 have nostk: ∀{b:Addr},s.heap.objs.size<=b->b∉vJ X.stack:=λ{b} hb hm=>by
  rcases List.mem_cons.mp (I.stkSub b hm)with e | hm
  ·rw[e]at hb;exact absurd (Nat.lt_of_lt_of_le I.lt hb) (Nat.lt_irrefl _)
  ·exact I.nofs hb hm
 have lk: ∀x,((compEnvC scope (uC scope.names X.env.cells) C X.env).kindOf x=some .cell∨(compEnvC scope (uC scope.names X.env.cells) C X.env).kindOf x=some .free)->(x,NameKind.free)∈scope.names:=λx hx=>by
  have q:scope.names.lookup x=some .cell∨scope.names.lookup x=some .free:=by
   rcases hx with hx | hx
   ·rcases i9 (env:=X.env) (names:=scope.names) hx with q | ⟨_,q⟩
    ·exact .inl q
    ·exact .inr q
   ·rcases i9 (env:=X.env) (names:=scope.names) hx with q | ⟨z,_⟩
    ·exact .inr q
    ·cases z
  rcases q with q | q
  ·exact absurd rfl (S.nocell _ (PySem.mem_of_lookup q))
  ·exact PySem.mem_of_lookup q
 refine⟨⟨I.ok.mod,S.kind,I.ok.glob,I.ok.blt,hC,λx y c h1 h2=> ?_,λx hx=> ?_,λx c h=> ?_,I.ok.hd,I.ok.frames,.inl rfl,λb hb=>⟨?_,λx c h=> ?_⟩,I.bs,Nat.le_trans I.ok.bsz I.sz,λb o e hb=> ?_,λb hb hm=> ?_,I.stack,I.stkFree⟩,
  rfl,I.bare,Un.kept k,⟨m,ns,λi x v e1 e2 e3=> ?_⟩,λx c h=> ?_,I.hok.fresh hC,λx c h=> ?_,λp hp=> ?_,I.hok.kept k,?_⟩
 ·exact I.ok.inj x y c (rH S I h1) (rH S I h2)
 ·exact⟨_,zc2 (lk x hx)⟩
 ·cases h
 ·have:=fl b hb;intro e;rw[e]at this;exact absurd (Nat.lt_of_lt_of_le this hC) (Nat.lt_irrefl _)
 ·exact(ff b hb).2.2.2.2.1 x c (rH S I h)
 ·rcases(ff b hb).2.2.2.1 with z | z
  ·exact I.ok.noex b o e z
  ·exact absurd (Nat.lt_of_lt_of_le (Heap.lt_size e) (Nat.le_trans I.ok.bsz z)) (Nat.lt_irrefl _)
 ·rcases List.mem_cons.mp (I.stkSub b hm)with e | hm
  ·exact(ff b hb).2.1 e
  ·exact(ff b hb).2.2.1 hm
 ·-- names
  have hi:i < σ.length:=by
   by_cases hi:i < σ.length
   ·exact hi
   ·rw[List.getElem?_append_right (by omega),List.getElem?_replicate]at e2
    split at e2 <;> cases e2
  rw[List.getElem?_append_left hi]at e2;have hN:N'[i]?=some x:=by
   have e1':(N'++own)[i]?=some x:=e1;rw[List.getElem?_append_left (by rw[S.len,<- I.len];exact hi)]at e1';exact e1'
  have e3':((compEnvC scope (uC scope.names X.env.cells) C X.env).kindOf x=some .cell∨(compEnvC scope (uC scope.names X.env.cells) C X.env).kindOf x=some .free)∨(compEnvC scope (uC scope.names X.env.cells) C X.env).kindOf x=some .local:=by
   rcases e3 with z | z | z
   ·exact .inr z
   ·exact .inl (.inl z)
   ·exact .inl (.inr z)
  rcases e3' with e3' | e3'
  ·have hm:=lk x e3'
   rcases S.pre i x hN with hX | hX
   ·have fr:=S.frees _ hm rfl
    obtain⟨m0,hn0,hl0⟩:=I.loc;obtain⟨u,r,l⟩:=hl0 i x v hX e2 (by rcases fr with z | z;exact .inr (.inl z);exact .inr (.inr z));refine⟨u,r,.inr ⟨e3',?_⟩⟩;rcases l with⟨z,_⟩ | ⟨_,c,ec,⟨o,ho,hd⟩⟩
    ·rcases fr with f | f <;> (have z':X.env.scope.names.lookup x=some .local:=z;rw[f]at z';cases z')
    ·refine⟨c,?_,⟨o,k _ _ ho,hd⟩⟩
     show(uC scope.names X.env.cells).lookup x=some c;rw[zc2 hm,ec]
     rfl
   ·exact absurd hm hX
  ·-- a local of the block among the outer names:hidden
   rcases i9 (env:=X.env) (names:=scope.names) e3' with q | ⟨z,_⟩
   ·exact absurd q (S.nol x (List.mem_of_getElem? hN))
   ·cases z
 ·obtain⟨v,o,ho,hd⟩:=I.cell x c (rH S I h)
  exact⟨v,o,k _ _ ho,hd⟩
 ·exact I.freeC x c (rH S I h)
 ·have hp':p∈(X.pn++pins)++ [(D,oD)]:=hp
  rcases List.mem_append.mp hp' with hp' | hp'
  ·obtain⟨e,n,ne,nf,d⟩:=I.pin p hp'
   refine⟨k _ _ e,n,Nat.ne_of_lt (Nat.lt_of_lt_of_le (Heap.lt_size e) hC),λhm=> ?_,d⟩;rcases List.mem_cons.mp (I.stkSub p.1 hm)with z | z
   ·exact ne z
   ·exact nf z
  ·have e:p=(D,oD):=by simpa using hp'
   subst e;exact⟨eD,I.hok.fresh hD,hDC,nostk hD,cD⟩
 ·show(σ++List.replicate own.length none).length=(N'++own).length
  rw[List.length_append,List.length_append,List.length_replicate,S.len,I.len]
abbrev fA (ifs:List Expr)(env:Env):Sem Bool:=forIn ifs true λc r=>if r=true then do let ok <- isTrue c env (eval c env);pure (ForInStep.yield ok)else pure (ForInStep.yield r)
theorem zc5 {prog:Program}{w:World}{A:Around}{R:Result->Shared->Prop}{s:Shared}{elt target iter:Expr}{ifs:List Expr}{scope:Scope}{pos:Pos}{it acc:Value}{env:Env}(I:Nat->Shared->Prop)
  (turn: ∀n s,I n s->wpAny (model prog w) A (pyNext it) (λr s₁=>match r with
   | none=>R (.ok .next) s₁
   | some v=>wpAny (model prog w) A (letOwnedTupleGo target it v) (λ_ s₁'=>wpAny (model prog w) A (assign target env v) (λ_ s₂=>
     wpAny (model prog w) A (fA ifs env) (λok s₃=>
      if ok=true then wpAny (model prog w) A (eval elt env) (λx s₄=>
       wpAny (model prog w) A (call (.builtin "list.append") [acc,x]) (λ_ s₅=> ∃m,m < n/\I m s₅) (notedBy (model prog w) A env λe s'=>R (.error e) s') s₄) (notedBy (model prog w) A env λe s'=>R (.error e) s') s₃
      else ∃m,m < n/\I m s₃) (notedBy (model prog w) A env λe s'=>R (.error e) s') s₂) (notedBy (model prog w) A env λe s'=>R (.error e) s') s₁') (notedBy (model prog w) A env λe s'=>R (.error e) s') s₁) (notedBy (model prog w) A env λe s'=>R (.error e) s') s)
  (n:Nat) (h:I n s):
  codeAny (model prog w) A (.compLoop (.ListComp elt [⟨target,iter,ifs,0⟩] scope pos) 0 it acc env) R s:=by
 refine codeAny_loop rfl I (λn s hI=> ?_) n h;show wpAny _ A ((compTurn (.ListComp elt [⟨target,iter,ifs,0⟩] scope pos) 0 it acc env).onRaise (λx=>do noteFrame x env;theTreesLotGoes x)) _ _ s;refine wpAny_noted ?_;rw[compTurn_list];refine wpAny_bind (wpAny_standAt (wpAny_bind (wpAny_mono (turn n s hI) (λr s₁ h₁=> ?_) λ_ _ h'=>h')));cases r with
 | none=>exact wpAny_pure h₁
 | some v=>
  refine wpAny_bind (wpAny_mono h₁ (λ_ s₁' h₁'=> ?_) λ_ _ h'=>h');refine wpAny_bind (wpAny_mono h₁' (λ_ s₂ h₂=>wpAny_bind (wpAny_mono h₂ (λok s₃ h₃=> ?_) λ_ _ h'=>h')) λ_ _ h'=>h');cases ok with
  | false=>exact wpAny_pure ⟨rfl,h₃⟩
  | true=>
   exact wpAny_bind (wpAny_bind (wpAny_mono h₃ (λx s₄ h₄=>wpAny_bind (wpAny_mono h₄ (λ_ s₅ h₅=>wpAny_pure (wpAny_pure ⟨rfl,h₅⟩)) λ_ _ h'=>h')) λ_ _ h'=>h'))
structure PF (X:Cx)(ifs:List Expr)(t:TT):Prop where
 run:
  ∀(pins:List (Addr×Obj)) (s:Shared) (σ:St) (H:Hp) (Q:Bool->Hp->Prop),z5 X pins σ H s->t σ H Q->wpAny (model X.prog X.w) X.A (fA ifs X.env) (TP X pins σ Q) X.xe s
instance {X:Cx} {ifs:List Expr} {t:TT} :CoeFun (PF X ifs t) λ_=>
 ∀(pins:List (Addr×Obj)) (s:Shared) (σ:St) (H:Hp) (Q:Bool->Hp->Prop),z5 X pins σ H s->t σ H Q->wpAny (model X.prog X.w) X.A (fA ifs X.env) (TP X pins σ Q) X.xe s
  :=⟨PF.run⟩
def zoi:TT:=λ_ H Q=>Q true H
theorem zme {X:Cx} :PF X [] zoi:=⟨λ_ _ _ H _ I h=>wpAny_tests_nil ⟨H,I,h⟩⟩
theorem zmf {X:Cx}{c:Expr}{t:TT}(h:PT X c t):PF X [c] t:=⟨λpins s σ H Q I q=>wpAny_tests_one (h pins s σ H Q I q)⟩
theorem oX {α:Type}{M:Model}{A:Around}{E:Value->Shared->Prop}{s:Shared}{t:Sem α}{Q Q':α->Shared->Prop}(h:wpAny M A t Q (λ_ _=>False) s)(k: ∀a s,Q a s->Q' a s):wpAny M A t Q' E s:=wpAny_mono h k λ_ _ z=>z.elim
def zb9 (own:Nat)(J:It)(g:TG)(tt:TT)(te:TE)(Q:VK)(σ:St)(H1:Hp):Prop:= ∃W:Nat->Nat->List V->St->Hp->Prop,(∃m,W 0 m [] (σ++List.replicate own none) H1)/\∀i m ys σ' H',W i m ys σ' H'->
 (J.stop i H'/\ys.length<=sizeLine/\∀D,H' D=none->Q (.ref D) (zJ H' D (.lst ys)))∨
 (J.go i H'/\ys.length < sizeLine/\∃N:List V->St->Hp->Prop,(∀ys σ3 H3,N ys σ3 H3->∃m',m' < m/\W (i+1) m' ys σ3 H3)/\
  ∀x H2,J.yld i H' x H2->g x σ' H2 λσ3 H3=>tt σ3 H3 λb H4=>if b=true then te σ3 H4 λy H5=>N (ys++ [y]) σ3 H5 else N ys σ3 H4)
def iH (own:Nat)(wi:TI)(g:TG)(tt:TT)(te:TE):TE:=λσ H Q=>wi σ H λJ H1=>zb9 own J g tt te Q σ H1
theorem zlS {elt target iter:Expr}{ifs:List Expr}{pos:Pos}{wi:TI}{g:TG}{tt:TT}{te:TE}(S:sF X scope N' own)(hc:X.calm=true)(hi:PI X target iter wi)
  (hg: ∀C s H fp pins,PG (xJ X scope (N'++own) C s H fp pins) target g) (ht: ∀C s H fp pins,PF (xJ X scope (N'++own) C s H fp pins) ifs tt) (he: ∀C s H fp pins,PE (xJ X scope (N'++own) C s H fp pins) elt te)
  (hs: ∀x,foldedSetIterable iter X.env x=pure x:=by intro _;rfl):
  PE X (.ListComp elt [⟨target,iter,ifs,0⟩] scope pos) (iH own.length wi g tt te):=by
 (first | refine⟨?_⟩ | skip)
 intro pins s σ H Q I h;rw[eval_ListComp];refine wpAny_comprehension_free (use:=none) rfl hs (zc4 (S.cells I)) S.kind S.names ?_;refine zU (hi pins s σ H _ I h) λv s1 h1=>zU h1 λitv s2 h2=> ?_;obtain⟨it,fp,tn,J,H2,e,I2,T,st2,f2,W,⟨m0,w0⟩,turn⟩:=h2;subst e;have fl: ∀b∈fp,b < s2.heap.objs.size:=λb hb=>by obtain⟨o,e,_⟩:=T.obj _ _ st2 b hb;exact Heap.lt_size e
 refine wpAny_newObj_type (wpAny_newFunctionEnv S.nocell (by intro y hy;simp at hy) (λh4 ns4 sb4=> ?_) S.kind);dsimp only at ns4 sb4⊢
 generalize hH3:s2.heap.push {cls:= .type "list",dict:=none,data:= .seq ([]:List Value).toArray} =h3 at ns4 sb4⊢
 have hC:h3.objs.size=s2.heap.objs.size+1:=by rw[<- hH3,Heap.size_push]
 have hDC:s2.heap.objs.size≠h3.objs.size:=by rw[hC];exact Nat.ne_of_lt (Nat.lt_succ_self _)
 have hCle:s2.heap.objs.size<=h3.objs.size:=by rw[hC];exact Nat.le_succ _
 have eD3:h3.get? s2.heap.objs.size=some {cls:= .type "list",data:= .seq ([]:List Value).toArray} :=hH3▸Heap.get?_push_size _ rfl;have k4: ∀b u,s2.heap.get? b=some u->h4.get? b=some u:=λb u e=>
  (sb4.2 b (Nat.ne_of_lt (Nat.lt_of_lt_of_le (Heap.lt_size e) hCle))).trans (Heap.get?_push_of_some _ (hH3▸Heap.get?_push_of_some _ e))
 have eD4:h4.get? s2.heap.objs.size=some {cls:= .type "list",data:= .seq ([]:List Value).toArray} :=(sb4.2 _ hDC).trans (Heap.get?_push_of_some _ eD3);generalize hDd:s2.heap.objs.size=D at *;generalize hCd:h3.objs.size=C at *;have I4:=zeo S I2 (C:=C) (D:=D) (fp:=fp) (h4:=h4) (tk:=s2.toks+([]:List (Str×Value)).length) k4 (by rw[hDd];exact hCle) (by rw[hDd];exact Nat.le_refl _) hDC eD4 (by intro v z;cases z) ns4 f2 (by rw[hDd];exact fl);have lowC: ∀(b:Addr) (u:Obj),s2.heap.get? b=some u->b≠C:=λb u e=>Nat.ne_of_lt (Nat.lt_of_lt_of_le (Heap.lt_size e) (by rw[hDd];exact hCle));have nofp: ∀b∈fp,b∉vJ X.stack:=λb hb hm=>by
  rcases List.mem_cons.mp (I2.stkSub b hm)with z | z
  ·exact(f2 b hb).2.1 z
  ·exact(f2 b hb).2.2.1 z
 have fpD: ∀b∈fp,b≠D:=λb hb=>Nat.ne_of_lt (fl b hb);have stat: ∀{H':Hp} {o:Obj},(∀b∈fp,H' b=none)->∀b∈fp,rA (xJ X scope (N'++own) C s2 H2 fp pins) [(D,o)] H' b:=λ{H' o} hn b hb=>
  ⟨hn b hb,Nat.ne_of_lt (Nat.lt_of_lt_of_le (fl b hb) hCle),nofp b hb,.inl hb,λx c e=>(f2 b hb).2.2.2.2.1 x c (rH S I2 e),λp hp=>by
   have hp':p∈(X.pn++pins)++ [(D,o)]:=hp;rcases List.mem_append.mp hp' with z | z
   ·exact(f2 b hb).2.2.2.2.2 p z
   ·have e:p=(D,o):=by simpa using z
    rw[e];exact Ne.symm (fpD b hb)⟩
 have loop: ∀s3:Shared,z5 (xJ X scope (N'++own) C s2 H2 fp pins) [(D,{cls:= .type "list",data:= .seq ([]:List Value).toArray})] (σ++List.replicate own.length none) H2 s3->tn 0 s3.heap->
   codeAny (model X.prog X.w) X.A (.compLoop (.ListComp elt [⟨target,iter,ifs,0⟩] scope pos) 0 (.ref it) (.ref D) (compEnvC scope (uC scope.names X.env.cells) C X.env))
    (compPost (model X.prog X.w) X.A X.xe none (EP X pins σ Q) (.ref D) C) s3:=by
  intro s3 I3 st3;refine zc5 (λn s'=> ∃(i:Nat) (ys:List V) (σ':St) (H':Hp) (vals:List Value) (cnt:Nat),z5 (xJ X scope (N'++own) C s2 H2 fp pins) [(D,{cls:= .type "list",data:= .seq vals.toArray cnt})] σ' H' s'/\
   tn i s'.heap/\(∀b∈fp,H' b=none)/\zH ys vals/\W i n ys σ' H') ?_ m0 ⟨0,[],_,H2,[],0,I3,st3,λb hb=>(f2 b hb).1,.nil,w0⟩
  rintro n s3 ⟨i,ys,σ3,H3,vals,cnt,I3,st3,fr3,rv,w3⟩;rcases turn i n ys σ3 H3 w3 with⟨stop,hz,q⟩ | ⟨go,hz,N,hN,step⟩
  ·refine zU (T.done (xJ X scope (N'++own) C s2 H2 fp pins) rfl rfl rfl hc i _ s3 σ3 H3 _ I3 (stat fr3) st3 stop) λr s4 ⟨hr,I4⟩=> ?_
   subst hr;obtain⟨m,ns,_⟩:=id I4.loc;refine⟨m,ns,λh' sb=> ?_⟩;have u4:Un (vJ X.stack) fp H2 H3 s2.heap s4.heap:=I4.base;have nC:H3 C=none:=I4.free;have keepC: ∀(b:Addr) (u:Obj),b≠C->s4.heap.get? b=some u->h'.get? b=some u:=λb u hb e=>(sb.2 b hb).trans e;have u':Un (vJ X.stack) fp H2 H3 s2.heap h':=
    ⟨λb o e n hb hx=>keepC b o (lowC b o e) (u4.keep b o e n hb hx),λb o e n hb hx=>let⟨sl,q⟩:=u4.slot b o e n hb hx;⟨sl,keepC _ _ (lowC b o e) q⟩,u4.free,λb o e hx=>let⟨o',q⟩:=u4.there b o e hx;⟨o',keepC _ _ (lowC b o e) q⟩,u4.tups,u4.frzs,u4.tbls⟩
   have hok':xD X.prog X.w H3 h':=λb u e=>(I4.hok b u e).stay (λc v hc' q=>keepC c v (by
    rintro rfl;rcases hc' with z | z
    ·rw[<- z,nC]at e;cases e
    ·rw[nC]at z;cases z) q) (λ_ q=>q) λ_ _ q=>q
   have I5:z5 X pins σ H3 {s4 with heap:=h'} :=I2.call' (ch:=fp) (s':= {s4 with heap:=h'}) I4.os u' hok' I4.bare λb hb=>⟨(f2 b hb).2.2.2.1,(f2 b hb).2.1,(f2 b hb).2.2.2.2.1,(f2 b hb).2.2.2.2.2⟩;obtain⟨eD,nD,_⟩:=I4.pin (D,_) (List.mem_append_right _ List.mem_cons_self);refine⟨.ref D,zJ H3 D (.lst ys),zep I5 nD (by rw[<- hDd];exact I2.sz) ?_ ?_ ?_ ⟨hz,vals,cnt,rv,keepC D _ hDC eD⟩,rfl,q D nD⟩
   ·have:=I2.lt;rw[hDd]at this;exact Nat.ne_of_gt this
   ·intro x c e z
    obtain⟨v,o,ho,_⟩:=I2.cell x c e;have:=Heap.lt_size ho;rw[hDd,z]at this;exact Nat.lt_irrefl _ this
   ·intro p hp z
    have:=Heap.lt_size (I2.pin p hp).1;rw[hDd,z]at this;exact Nat.lt_irrefl _ this
  ·refine zU (T.item (xJ X scope (N'++own) C s2 H2 fp pins) rfl rfl rfl hc i _ s3 σ3 H3 _ I3 (stat fr3) st3 go) λr s4 ⟨u,hr,h4⟩=> ?_
   subst hr;refine zU h4 λ_ s5 ⟨x,H5,I5,r5,y5,st5,fr5⟩=> ?_;have I5':=I5.pinned (stat fr5) (T.obj _ _ st5);have keepT: ∀{σ7:St} {H7:Hp} {s7:Shared} {pl:List (Addr×Obj)},z5 (xJ X scope (N'++own) C s2 H2 fp pins) (pl++sV fp s5.heap) σ7 H7 s7->tn (i+1) s7.heap/\∀b∈fp,H7 b=none:=λ{σ7 H7 s7 pl} I7=>
    ⟨T.keep _ _ _ st5 λb hb o e=>(I7.pin (b,o) (List.mem_append_right _ (List.mem_append_right _ (oV hb e)))).1,λb hb=>by
     obtain⟨o,e,d⟩:=T.obj _ _ st5 b hb;exact(I7.pin (b,o) (List.mem_append_right _ (List.mem_append_right _ (oV hb e)))).2.1⟩
   refine oX (hg C s2 H2 fp pins _ s5 σ3 H5 x u _ I5' r5 (step x H5 y5)) λ_ s6 ⟨σ6,H6,I6,q6⟩=> ?_;refine oX (ht C s2 H2 fp pins _ s6 σ6 H6 _ I6 q6) λb s7 ⟨H7,I7,q7⟩=> ?_;cases b with
   | false=>
    obtain⟨m',hm,w7⟩:=hN _ _ _ q7;obtain⟨t7,fr7⟩:=keepT I7;exact⟨m',hm,i+1,ys,σ6,H7,vals,cnt,I7.unpinned,t7,fr7,rv,w7⟩
   | true=>
    refine oX (he C s2 H2 fp pins _ s7 σ6 H7 _ I7 q7) λy s8 ⟨yv,H8,I8,r8,q8⟩=> ?_;obtain⟨m',hm,w8⟩:=hN _ _ _ q8;obtain⟨eD,nD,neD,nfD,cD⟩:=I8.pin (D,_) (List.mem_append_right _ (List.mem_append_left _ List.mem_cons_self));have hvl:=rv.length;refine call_meets F.slot_list_append ⟨_,eD,rfl⟩ F.entry_list_append (F.args_list_append_2 _ _) (PySem.list_append D vals.toArray cnt y (by rw[List.size_toArray];omega)) ⟨eD,?_⟩;have I8':z5 (xJ X scope (N'++own) C s2 H2 fp pins) (sV fp s5.heap) σ6 H8 s8:=I8.pins_of λp hp=>I8.pin p (List.mem_append_right _ (List.mem_append_right _ hp));have hno: ∀p∈(X.pn++pins)++sV fp s5.heap,p.1≠D:=λp hp=>by
     rcases List.mem_append.mp hp with z | z
     ·intro q
      have:=Heap.lt_size (I2.pin p z).1;rw[hDd,q]at this;exact Nat.lt_irrefl _ this
     ·exact fpD _ (zar z).1
    have I9:=I8'.turned (t':=s8.toks) (it:=D) (h':=s8.heap.update D (Obj.mapSeq λx=>x.push y)) (λb o hb e=>(Heap.get?_update_other s8.heap _ (Ne.symm hb)).trans e) nD neD (.inr (by show s2.heap.objs.size<=D;rw[hDd];exact Nat.le_refl _))
     (λx c e z=>by
      obtain⟨v,o,ho,_⟩:=I2.cell x c (rH S I2 e);have:=Heap.lt_size ho;rw[hDd,z]at this;exact Nat.lt_irrefl _ this) hno
    obtain⟨t9,fr9⟩:=keepT (pl:= []) I9;have qD: ∃n',(s8.heap.update D (Obj.mapSeq λx=>x.push y)).get? D=some {cls:= .type "list",data:= .seq (vals++ [y]).toArray n'} :=by
     have q:=PySem.IsL.update (l:=D) (items:=vals.toArray) (n:=cnt) (h:=s8.heap) eD λx=>x.push y;have e:vals.toArray.push y=(vals++ [y]).toArray:=by simp
     rw[<- e];exact⟨_,q⟩
    obtain⟨n',qD⟩:=qD;refine⟨m',hm,i+1,ys++ [yv],σ6,H8,vals++ [y],n',I9.pins_of λp hp=> ?_,t9,fr9,rv.append (.cons r8 .nil),w8⟩;have e:=List.mem_singleton.mp hp;rw[e];exact⟨qD,nD,neD,nfD,by intro v z;cases z⟩
 have t4:tn 0 h4:=T.keep _ _ _ st2 λb _ o e=>k4 b o e;exact codeAny_compStart_list (loop _ I4 t4) (T.self _ 0 _ _ _ t4 (loop _ I4 t4))
end
end L2
namespace L2
open PySem PySem.Spec PyProof.Rows
def kF (x:Str):It:=⟨λi _=>i < x.cps.size,λi H v H'=>H'=H/\∃c,x.cps[i]?=some c/\v= .str ⟨#[c]⟩,λi _=>i=x.cps.size⟩
theorem zg4 {P:Program}{w:World}{K:Frag}{tg:Expr}{n:String}(it:Addr)(x:Str)(t:Tok)(hn: ["enumerate","zip","dict_itemiterator","dict_reverseitemiterator","odict_iterator","itertools.zip_longest","itertools.pairwise"].contains n=false)
  (W: ∀A:Around,A.handled=none->Walks P w A it [it] [it] x.cps.size (SignAt x) (λi h=>h.IsStrIter it n x t i))
  (hself: ∀(A:Around) (i:Nat) (s:Shared) (Q:Value->Shared->Prop) (E:Value->Shared->Prop),s.heap.IsStrIter it n x t i->Q (.ref it) s->wpAny (model P w) A (pyIter (.ref it)) Q E s):
  p7 P w K tg (kF x) [it] it (λi h=>h.IsStrIter it n x t i) where
 mem:=by simp
 obj:=λi h st b hb=>by
  have e:b=it:=by simpa using hb
  subst e;obtain⟨o,e,c,d⟩:=st;exact⟨o,e,λv z=>by rw[d]at z;cases z⟩
 keep:=λi h h' st k=>by
  obtain⟨o,e,r⟩:=st;exact⟨o,k it (by simp) o e,r⟩
 item:=by
  intro X hP hw hK hc i pins s σ H E I hf st hg;subst hP hw hK;obtain⟨f0,f1,f2,f3,f4,f5⟩:=hf it (by simp);refine(W X.A (I.ok.hd hc)).item i s _ _ hg st λv h' tk hv st' kk=> ?_;obtain⟨c,u,ec,rfl⟩:=hv;have I1:z5 X pins σ H {s with heap:=h',toks:=tk} :=I.turned (λb o hb e=>kk b o (by simpa using hb) e) f0 f1 f3 f4 f5;obtain⟨o,e,c',d⟩:=id st';exact⟨_,rfl,mK (s:= {s with heap:=h',toks:=tk}) e c' d hn ⟨.str ⟨#[c]⟩,H,I1,⟨u,rfl⟩,⟨rfl,c,ec,rfl⟩,st',λb hb=>(hf b hb).1⟩⟩
 done:=by
  intro X hP hw hK hc i pins s σ H E I hf st hg;subst hP hw hK;obtain⟨f0,f1,f2,f3,f4,f5⟩:=hf it (by simp);have hg':i=x.cps.size:=hg;subst hg';exact(W X.A (I.ok.hd hc)).done s _ _ st λh' tk kk=>⟨rfl,I.turned (λb o hb e=>kk b o (by simpa using hb) e) f0 f1 f3 f4 f5⟩
 self:=hself
section
variable {X:Cx} {tg:Expr}
theorem zgi {bs:List Str} : ∀{us:List Value},zH (bs.map V.str) us->StrsAre us bs:=by
 induction bs with
 | nil=>intro us r;rw[List.map_nil]at r;cases r;exact .nil
 | cons n ns ih=>
  intro us r;rw[List.map_cons]at r;cases r with
  | cons r1 r2=>
   obtain⟨t,e⟩:=r1;subst e;exact .cons n t (ih r2)
def zmY (K:Frag):V->List V->Hp->VK->Prop:=λx vs H Q=> ∃(sep:Str) (l:Addr) (ys:List Str),x= .str sep/\vs= [.ref l]/\yW K H l (ys.map V.str)/\(ys.map (·.length)).sum+ys.length * sep.length<=16777216/\Q (.str (Txt.join sep ys)) H
theorem zkA:tG X "str.join" (zmY X.K):=by
 (first | refine⟨?_⟩ | skip)
 intro pins s σ H x xs v us Q I rx rv h;obtain⟨sep,l,ys,rfl,rfl,hl,hz,q⟩:=h;obtain⟨t,rfl⟩:=rx;obtain⟨u,rfl,ru⟩:=zH.one rv;cases ru;obtain⟨its,r,p,_⟩:=I.list hl;exact join_list p.isList (by simpa using zgi r) hz λt' k=>⟨.str (Txt.join sep ys),H,I.tok _,⟨t',rfl⟩,q⟩
theorem zjX (sep:Str)(ys:List Str):(Txt.join sep ys).length<=(ys.map (·.length)).sum+ys.length * sep.length:=by
 show(Builtin.Str.glued sep ys).length<=_;rw[StrLaws.glued_eq_join];exact StrLaws.join_length_le sep ys
def zni:V->Option Int->Option Int->Hp->VK->Prop:=λx lo hi H Q=> ∃z,x= .str z/\z.length<=sizeLine/\((Txt.slice z lo hi).length<=z.length->Q (.str (Txt.slice z lo hi)) H)
theorem znC:nV X zni:=by
 (first | refine⟨?_⟩ | skip)
 intro pins s σ H x v vl vu lo hi sl Q I rx hs pl pu h;obtain⟨z,rfl,hz,q⟩:=h;obtain⟨t,rfl⟩:=rx;obtain⟨o,e,c,d⟩:=hs;have fin: ∀t' k,EP X pins σ Q (.str (Txt.slice z lo hi) t') {s with toks:=k} :=λt' k=>⟨.str (Txt.slice z lo hi),H,I.tok k,⟨t',rfl⟩,q (Txt.slice_le z _ _)⟩;refine⟨"str",_,F.slot_str_getitem.lookup,typeIs_str _ _ _,?_⟩;cases pl with
 | none=>
  cases pu with
  | none=>exact wpAny_getItem_str_slice (l:=none) (u:=none) (st:=none) ⟨o,e,c,d⟩ rfl (post_val_or_str ⟨Nat.le_trans (Txt.slice_le z _ _) hz,fin⟩)
  | int j uj=>exact wpAny_getItem_str_slice (l:=none) (u:=some (j,uj)) (st:=none) ⟨o,e,c,d⟩ rfl (post_val_or_str ⟨Nat.le_trans (Txt.slice_le z _ _) hz,fin⟩)
 | int i ui=>
  cases pu with
  | none=>exact wpAny_getItem_str_slice (l:=some (i,ui)) (u:=none) (st:=none) ⟨o,e,c,d⟩ rfl (post_val_or_str ⟨Nat.le_trans (Txt.slice_le z _ _) hz,fin⟩)
  | int j uj=>exact wpAny_getItem_str_slice (l:=some (i,ui)) (u:=some (j,uj)) (st:=none) ⟨o,e,c,d⟩ rfl (post_val_or_str ⟨Nat.le_trans (Txt.slice_le z _ _) hz,fin⟩)
end
end L2
namespace L2
open PySem PySem.Spec PyProof.Rows
def zcz (fsc scope:Scope)(N N':List Str):Bool:=
 scope.kind== .function&&scope.names.all (λy=>y.2 != .cell&&(y.2 != .local||scope.names.lookup y.1==some .local)&&(y.2 != .free||(fsc.names.lookup y.1==some .cell||fsc.names.lookup y.1==some .free)))
  &&N'.length==N.length&&(N'.zip N).all (λp=>p.1==p.2|| !(scope.names.any λq=>q.1==p.1&&q.2== .free))&&N'.all (λy=>scope.names.lookup y !=some .local)
theorem tI {X:Cx}{scope fsc:Scope}{N N' own:List Str}(hX:X.env.scope=fsc)(hN:X.N=N)(h:zcz fsc scope N N'=true):sF X scope N' own:=by
 unfold zcz at h;simp only[Bool.and_eq_true,List.all_eq_true,beq_iff_eq,bne_iff_ne,Bool.or_eq_true,ne_eq]at h;obtain⟨⟨⟨⟨h1,h2⟩,h3⟩,h4⟩,h5⟩:=h;subst hX hN;refine⟨h1,λy hy=>(h2 y hy).1.1,λy hy e=> ?_,λy hy e=> ?_,h3,λi y e=> ?_,λy hy=>h5 y hy⟩
 ·rcases(h2 y hy).1.2 with z | z
  ·exact absurd e z
  ·exact z
 ·rcases(h2 y hy).2 with z | z
  ·exact absurd e z
  ·exact z
 ·have hi:i < N'.length:=(List.getElem?_eq_some_iff.mp e).1
  have e2:X.N[i]?=some X.N[i]:=List.getElem?_eq_getElem (by omega);have m:(y,X.N[i])∈N'.zip X.N:=by
   refine List.mem_iff_getElem?.mpr ⟨i,?_⟩;rw[List.getElem?_zip_eq_some];exact⟨e,e2⟩
  rcases h4 _ m with z | z
  ·left
   rw[e2];have z':y=X.N[i]:=z;rw[<- z']
  ·right
   intro q;have z':(!(scope.names.any λq=>q.1==y&&q.2== .free))=true:=z;rw[Bool.not_eq_true',List.any_eq_false]at z';exact z' _ q (by simp)
theorem zhJ {α:Type}(xs:List α){d:Int}(h0:0<=d)(h1:d < xs.length): ∃y,y∈xs/\atI xs d=some y:=by
 have hn:d.toNat < xs.length:=by omega
 refine⟨xs[d.toNat],List.getElem_mem hn,?_⟩;unfold atI xT;rw[if_pos h0,if_pos h1];exact List.getElem?_eq_getElem hn
end L2
namespace L2
open PySem PySem.Spec PyProof.Rows
section
variable {X:Cx}
end
section
variable {prog:Program} {w:World} {A:Around} {J:Addr} {fp wr:List Addr} {n:Nat} {P:Nat->Value->Prop} {Sn:Nat->Heap->Prop}
end
end L2
namespace L2
open PySem PySem.Spec PyProof.Rows
section
variable {prog:Program} {w:World} {A:Around} {E:Value->Shared->Prop} {s:Shared}
end
section
variable {X:Cx} {e e2:Expr} {t:TA} {tk:TA} {p pos kpos:Pos}
end
end L2
namespace L2
open PySem PySem.Spec PyProof.Rows
theorem zi4:typeLookup (.type "dict") "__len__" =pure (some (.builtin "dict.__len__")):=by rw[typeLookup_type,builtinLookup_eq_fast];kernel_rfl
section
variable {prog:Program} {w:World} {A:Around} {E:Value->Shared->Prop} {s:Shared}
theorem ziw {d:Addr}{kvs:List (z7×Value)}{Q:List Value->Shared->Prop}(hh:A.handled=none)(hd:(d==sysModules)=false)(hm:s.heap.DictOf (x6 prog w) d kvs)(hn:kvs.length<=sizeLine)
  (hQ: ∀s' acc,(∀b o,s.heap.get? b=some o->s'.heap.get? b=some o)->s'.gens=s.gens->s'.drawn=s.drawn->s'.os=s.os->ItemsOf (λi v=> ∃k x,kvs[i]?=some (k,x)/\(x6 prog w).is k v=true) acc kvs.length->Q acc.toList s'):
  wpAny (model prog w) A (collect (.ref d)) Q E s:=by
 have hdl:d < s.heap.objs.size:=by obtain⟨o,es,ep,ho,_⟩:=id hm;exact Heap.lt_size ho
 unfold collect;refine wpAny_bind (wpAny_runValue (codeAny_builtin F.entry_proto_collect ?_));rw[Around.under_plainId F.plain_proto_collect _];show wpAny _ A.in1 (newList [] >>= λl=>again (.builtin "list.__iadd__" ⟨[l,.ref d],[]⟩)) _ _ s;refine wpAny_bind (wpAny_newObj_type ?_);refine wpAny_pure ⟨plainId_quiet F.plain_list_iadd _,codeAny_builtin F.entry_list_iadd ?_⟩;rw[Around.under_plainId F.plain_list_iadd _];show wpAny _ A.in1 (Builtin.List.listExtendWith (.ref s.heap.objs.size) (.ref d) (.ref s.heap.objs.size)) _ _ _;generalize hH:s.heap.push {cls:= .type "list",data:= .seq ([]:List Value).toArray} =H;have hHs:H.objs.size=s.heap.objs.size+1:=by rw[<- hH,Heap.size_push]
 have kH: ∀b o,s.heap.get? b=some o->H.get? b=some o:=λb o e=>hH▸Heap.get?_push_of_some _ e;have hm1:H.DictOf (x6 prog w) d kvs:=hm.at λo e=>kH d o e;obtain⟨ep,at1⟩:=hm1.dictAt;have hS:H.get? s.heap.objs.size=some {cls:= .type "list",data:= .seq ([]:List Value).toArray} :=hH▸Heap.get?_push_size _ rfl;unfold Builtin.List.listExtendWith;have hT:Shared.TypeIs {s with heap:=H} (.ref d) "dict" :=Heap.DictOf.typeIs (s:= {s with heap:=H}) hm1;refine wpAny_bind (wpAny_typeOf hT ?_);have h1:Builtin.List.listSameRef (.ref s.heap.objs.size) (.ref d)=false:=by
  have:s.heap.objs.size≠d:=Nat.ne_of_gt hdl;simp[Builtin.List.listSameRef,this]
 have h2:(Value.type "dict" ==Value.type "list")=false:=by decide
 have h3:(Value.type "dict" ==Value.type "tuple")=false:=by decide
 simp only[h1,h2,h3,Bool.or_false,Bool.false_eq_true,if_false];refine wpAny_bind (wpAny_pyIter_dict (s:= {s with heap:=H}) hd at1 ?_);refine wpAny_bind (wpAny_holding ?_);unfold Builtin.List.listLengthHint;have hT2:Shared.TypeIs {s with heap:=H.push {cls:= .type "dict_keyiterator",data:= .fields #[.ref d,.int 0 0,.int kvs.length 0,.int ep 0]}} (.ref d) "dict" :=by
  obtain⟨o,ho,hc⟩:=hT;exact⟨o,Heap.get?_push_of_some _ ho,hc⟩
 refine wpAny_bind (wpAny_specialOf hT2 zi4 ?_)
 wp_delta
 refine wpAny_bind (wpAny_isInstance (b:=true) hT2 (by rw[isSubtype_type];kernel_rfl) ?_);show wpAny _ A.in1 (typeOf (Value.ref d) >>= _) _ _ _;refine wpAny_bind (wpAny_typeOf hT2 ?_);refine wpAny_pure ?_;rw[if_pos (by decide)];refine wpAny_bind (wpAny_rule ?_);generalize hG:H.push {cls:= .type "dict_keyiterator",data:= .fields #[.ref d,.int 0 0,.int kvs.length 0,.int ep 0]} =G at hT2⊢
 have hI:G.get? H.objs.size=some {cls:= .type "dict_keyiterator",data:= .fields #[.ref d,.int 0 0,.int kvs.length 0,.int ep 0]} :=hG▸Heap.get?_push_size _ rfl;have kG: ∀b o,H.get? b=some o->G.get? b=some o:=λb o e=>hG▸Heap.get?_push_of_some _ e;have hS2:=kG _ _ hS;refine wpAny_bind ?_;show wpAny _ A.in1 (updateSeq s.heap.objs.size (·.push .none) >>= λ_=>updateSeq s.heap.objs.size (·.pop)) _ _ {s with heap:=G};refine wpAny_bind (wpAny_updateSeq (s:= {s with heap:=G}) hS2 rfl ?_);have hS3:=Heap.get?_update_self (Obj.mapSeq (·.push .none)) hS2 rfl;refine(wpAny_updateSeq (s:= {s with heap:=G.update s.heap.objs.size (Obj.mapSeq (·.push .none))}) hS3 rfl ?_);have hS4:=Heap.get?_update_self (Obj.mapSeq (·.pop)) hS3 rfl;generalize hG2:(G.update s.heap.objs.size (Obj.mapSeq (·.push .none))).update s.heap.objs.size (Obj.mapSeq (·.pop))=G2 at hS4⊢
 have kG2: ∀b o,b≠s.heap.objs.size->G.get? b=some o->G2.get? b=some o:=λb o hb e=>by
  rw[<- hG2];exact(Heap.get?_update_other _ _ (Ne.symm hb)).trans ((Heap.get?_update_other _ _ (Ne.symm hb)).trans e)
 have nI:H.objs.size≠s.heap.objs.size:=by rw[hHs];exact Nat.succ_ne_self _
 have nd:d≠s.heap.objs.size:=Nat.ne_of_lt hdl;have ndI:d≠H.objs.size:=by rw[hHs];exact Nat.ne_of_lt (Nat.lt_succ_of_lt hdl)
 have W:=Walks.dictKeys (knd:=x6 prog w) (A:=A.in1) hh H.objs.size d ndI kvs ep;have st0:G2.IsKeyIter H.objs.size d 0 kvs.length ep/\G2.DictAt (x6 prog w) d kvs ep:=⟨⟨_,kG2 _ _ nI hI,rfl,rfl⟩,at1.at' λo e=>kG2 d o nd (kG d o e)⟩;have hSf:s.heap.objs.size∉ [H.objs.size,d]:=by
  intro z;rcases List.mem_cons.mp z with z | z
  ·exact nI z.symm
  ·exact nd (List.mem_singleton.mp z).symm
 refine wpAny_pure ⟨plainId_quiet F.plain_extend_loop _,codeAny_extend_loopS W.toS hn _ hSf _ kvs.length 0 {s with heap:=G2} #[] _ rfl (Nat.zero_le _) st0 hS4 (ItemsOf.nil _) λs' acc' c' hm' hS' hacc=> ?_⟩;show wpAny _ A (load s.heap.objs.size >>= _) _ _ s';refine wpAny_bind (wpAny_load hS' ?_);refine wpAny_pure (hQ s' acc' (λb ob e=>hm'.heap b ob (λhb=> ?_) (kG2 b ob (Nat.ne_of_lt (Heap.lt_size e)) (kG b ob (kH b ob e)))) hm'.gens hm'.drawn hm'.os hacc);have hlt:=Heap.lt_size e;rcases List.mem_cons.mp hb with h | h
 ·exact absurd hlt (h▸Nat.lt_irrefl _)
 ·rw[List.mem_singleton.mp h,hHs]at hlt;exact absurd hlt (Nat.not_lt.mpr (Nat.le_succ _))
theorem ziv {d:Addr}{kvs:List (z7×Value)}{Q₁:Value->Shared->Prop}(hh:A.handled=none)(hd:(d==sysModules)=false)(hm:s.heap.DictOf (x6 prog w) d kvs)(hn:kvs.length<=sizeLine)
  (h: ∀(s':Shared) (acc:Array Value),(∀b o,s.heap.get? b=some o->s'.heap.get? b=some o)->s'.gens=s.gens->s'.drawn=s.drawn->s'.os=s.os->ItemsOf (λi v=> ∃k x,kvs[i]?=some (k,x)/\(x6 prog w).is k v=true) acc kvs.length->
   Q₁ (.ref s'.heap.objs.size) {s' with heap:=s'.heap.push {cls:= .type "tuple",data:= .seq acc}}):
  codeAny (model prog w) A (.call (.builtin "tuple.__new__") ⟨[.type "tuple",.ref d],[]⟩) (wants Q₁ E) s:=by
 refine codeAny_of_tree ?_;show wpAny _ A.in1 (do checkBuiltinCall "tuple.__new__" ⟨[.type "tuple",.ref d],[]⟩;again (.builtin "tuple.__new__" ⟨[.type "tuple",.ref d],[]⟩)) _ _ s;refine wpAny_bind (wpAny_of_eq (F.newCall_tuple_1 _) (wpAny_pure ⟨plainId_quiet F.plain_tuple_new _,codeAny_builtin F.entry_tuple_new ?_⟩));rw[Around.under_plainId F.plain_tuple_new _];have hsub:=sub_tuple_self;have hinit:=init_tuple_lookup;have hmh:=madeHere_tuple;have hTI:s.TypeIs (.ref d) "dict" :=hm.typeIs
 wp_walk using wpAny_typeOf hTI,ziw (A:=A.in1) hh hd hm hn
 intro s' acc k1 k2 k3 k4 hacc;show wpAny _ _ (Builtin.Tuple.tupleExact acc.toList.toArray >>= λv=>ret v) _ _ _;unfold Builtin.Tuple.tupleExact;refine wpAny_bind (wpAny_newObj_type ?_ (by show acc.toList.toArray.size<=sizeLine;simp only[Array.toArray_toList];rw[hacc.1];exact hn));refine wpAny_pure ?_;have e:acc.toList.toArray=acc:=by simp
 rw[e];exact h s' acc k1 k2 k3 k4 hacc
theorem zij {d:Addr}{kvs:List (z7×Value)}{Q:Value->Shared->Prop}(hh:A.handled=none)(hd:(d==sysModules)=false)(hm:s.heap.DictOf (x6 prog w) d kvs)(hn:kvs.length<=sizeLine)
  (h: ∀(s':Shared) (acc:Array Value),(∀b o,s.heap.get? b=some o->s'.heap.get? b=some o)->s'.gens=s.gens->s'.drawn=s.drawn->s'.os=s.os->ItemsOf (λi v=> ∃k x,kvs[i]?=some (k,x)/\(x6 prog w).is k v=true) acc kvs.length->
   Q (.ref s'.heap.objs.size) {s' with heap:=s'.heap.push {cls:= .type "tuple",data:= .seq acc}}):
  wpAny (model prog w) A (call (.type "tuple") [.ref d]) Q E s:=by
 refine callType_codes (Q₁:=λobj s₁=>s₁.TypeIs obj "tuple" /\Q obj s₁) F.called_tuple (F.typeCall_tuple_1 _) F.entry_object_init
  (ziv hh hd hm hn λs' acc k1 k2 k3 k4 hacc=>⟨⟨_,Heap.get?_push_size _ rfl,rfl⟩,h s' acc k1 k2 k3 k4 hacc⟩) λobj s₁ h₁=> ?_
 exact⟨h₁.1,F.args_object_init_2 obj _,object_init_meets F.called_tuple.init.lookup F.called_tuple.made (by decide) prog w A.in1 _ s₁ ⟨h₁.1,rfl,h₁.2⟩⟩
end
theorem lR: ∀{xs:List V} {us:List Value},xs.length=us.length->(∀(j:Nat) (v:Value) (x:V),us[j]?=some v->xs[j]?=some x->zT x v)->zH xs us
 | [],[],_,_=> .nil
 | x::xs,u::us,h,r=> .cons (r 0 u x rfl rfl) (lR (by simpa using h) λj v y a b=>r (j+1) v y a b)
theorem mN {kvs:List (z7×V)}{vs:List (z7×Value)}(r:KV kvs vs):kvs.length=vs.length:=Paired.length r
theorem zah: ∀{kvs:List (z7×V)} {vs:List (z7×Value)} {i:Nat} {k:z7} {x:Value},KV kvs vs->vs[i]?=some (k,x)->∃y,kvs[i]?=some (k,y)
 | _,_,0,k,x,.cons (a:=p) r _,h=>by
  rw[List.getElem?_cons_zero]at h;rw[Option.some.inj h]at r;have e:p.1=k:=r.1;exact⟨p.2,by rw[List.getElem?_cons_zero,<- e]⟩
 | _,_,i+1,k,x,.cons _ r,h=>by
  obtain⟨y,e⟩:=zah (i:=i) r (by simpa using h);exact⟨y,by simpa using e⟩
section
variable {X:Cx}
theorem zii (hc:X.calm=true):vD X (.type "tuple") (λxs H Q=> ∃(d:Addr) (kvs:List (z7×V)),xs= [.ref d]/\H d=some (.dK kvs)/\∀p,H p=none->Q (.ref p) (zJ H p (.tup (kvs.map λq=>kV q.1)))):=by
 intro pins s σ H xs us Q I r h;obtain⟨d,kvs,rfl,hd,q⟩:=h;obtain⟨u,rfl,ru⟩:=qY r;cases ru;obtain⟨hz,hsys,vs,kv,dd⟩:=oI I.hok hd;have hl:=mN kv;refine zij (I.ok.hd hc) hsys dd (by rw[<- hl];exact hz) λs' acc k1 k2 k3 k4 hacc=> ?_;obtain⟨hp,g,dr,tk,os⟩:=s';obtain⟨hp0,g0,dr0,tk0,os0⟩:=s;dsimp only at k1 k2 k3 k4;subst k2 k3 k4;have I1:z5 X pins σ H ⟨hp,g,dr,tk,os⟩:=I.kept (t':=tk) (h':=hp) k1;refine⟨.ref hp.objs.size,_,I1.laid (t':=tk) (o:= .tup (kvs.map λq=>kV q.1)) (λb o e=>Heap.get?_push_of_some _ e) (Nat.le_refl _) ⟨by rw[List.length_map];exact hz,acc.toList,lR ?_ λj v x hv hx=> ?_,by simpa using tD.new _ _⟩,rfl,q _ I1.fresh⟩
 ·rw[List.length_map,hl];exact hacc.1.symm.trans (Array.length_toList).symm
 ·obtain⟨k,y,e1,e2⟩:=hacc.2 j v (by simpa using hv)
  obtain⟨z,e3⟩:=zah kv e1;rw[List.getElem?_map,e3]at hx;have e4:kV k=x:=Option.some.inj hx;subst e4;rcases tW e2 with⟨i,t,rfl,rfl⟩ | ⟨z',t,rfl,rfl⟩
  ·exact⟨t,rfl⟩
  ·exact⟨t,rfl⟩
end
end L2
namespace L2
open PySem PySem.Spec PyProof.Rows
namespace RV
theorem owner:Manifest.owners.lookup (String.ofList ['d','e','s','r','e','v','e','r'].reverse)=some Manifest.sig_reversed:=by kernel_rfl
theorem slot_next:Slot "reversed" "__next__" "reversed.__next__" :=
 .of (owner:= "reversed") (n:= "__next__") (by rw[typeLookup_type,builtinLookup_eq_fast];kernel_rfl) (by decide+kernel) (by decide+kernel) (by decide+kernel)
  (by first | exact .inl (by decide+kernel) | exact .inr (by decide+kernel)) (by rw[isSubtype_type];kernel_rfl)
theorem entry_next:entryFor table "reversed.__next__" =some Builtin.«reversed.__next__»:=entryFor_of_tree (by kernel_rfl)
theorem args_next (a:Value):argsOk "reversed.__next__" ⟨[a],[]⟩:=by
 unfold argsOk;rw[signature?_of (id:= "reversed.__next__") (n:= ['_','_','t','x','e','n','_','_']) (o:= ['d','e','s','r','e','v','e','r']) (by kernel_rfl) owner];kernel_rfl
theorem slot_iter:Slot "reversed" "__iter__" "reversed.__iter__" :=
 .of (owner:= "reversed") (n:= "__iter__") (by rw[typeLookup_type,builtinLookup_eq_fast];kernel_rfl) (by decide+kernel) (by decide+kernel) (by decide+kernel)
  (by first | exact .inl (by decide+kernel) | exact .inr (by decide+kernel)) (by rw[isSubtype_type];kernel_rfl)
theorem args_iter (a:Value):argsOk "reversed.__iter__" ⟨[a],[]⟩:=by
 unfold argsOk;rw[signature?_of (id:= "reversed.__iter__") (n:= ['_','_','r','e','t','i','_','_']) (o:= ['d','e','s','r','e','v','e','r']) (by kernel_rfl) owner];kernel_rfl
theorem entry_iter:entryFor table "reversed.__iter__" =some Builtin.«dict_keyiterator.__iter__»:=
 entryFor_alias (id':= "dict_keyiterator.__iter__") (by kernel_rfl) (by first | rfl | decide+kernel | (unfold String.splitOn;simp+decide [String.splitOnAux])) (by decide+kernel) (by kernel_rfl)
theorem znG:Slot "reversed" "__init__" "object.__init__" :=
 .of (owner:= "object") (n:= "__init__") (by rw[typeLookup_type,builtinLookup_eq_fast];kernel_rfl) (by decide+kernel) (by decide+kernel) (by decide+kernel)
  (by first | exact .inl (by decide+kernel) | exact .inr (by decide+kernel)) (by rw[isSubtype_type];kernel_rfl)
theorem called:TypeCalled "reversed" "reversed.__new__" "object.__init__" :=
 ⟨by decide+kernel,by decide+kernel,⟨_,_,F.mro_reversed⟩,F.made_reversed,by decide+kernel,by rw[isSubtype_type];kernel_rfl,znG⟩
theorem no_rev:typeLookup (.type "tuple") "__reversed__" =pure none:=by rw[typeLookup_type,builtinLookup_eq_fast];kernel_rfl
theorem sub_td:isSubtype (.type "tuple") (.type "dict")=pure false:=by rw[isSubtype_type];kernel_rfl
end RV
def l0 (t:Addr)(i:Int):Obj:= {cls:= .type "reversed",data:= .fields #[.ref t,rawInt i]}
section
variable {prog:Program} {w:World} {A:Around} {E:Value->Shared->Prop} {s:Shared}
theorem ziu {t:Addr}{items:Array Value}{Q₁:Value->Shared->Prop}(ht:IsTup s.heap t items)(hz:items.size<=sizeLine)
  (h: ∀tk,Q₁ (.ref s.heap.objs.size) {s with heap:=s.heap.push (l0 t ((items.size:Int) - 1)),toks:=tk}):
  codeAny (model prog w) A (.call (.builtin "reversed.__new__") ⟨[.type "reversed",.ref t],[]⟩) (wants Q₁ E) s:=by
 refine codeAny_of_tree ?_;show wpAny _ A.in1 (do checkBuiltinCall "reversed.__new__" ⟨[.type "reversed",.ref t],[]⟩;again (.builtin "reversed.__new__" ⟨[.type "reversed",.ref t],[]⟩)) _ _ s;refine wpAny_bind (wpAny_of_eq (F.newCall_reversed_1 _) (wpAny_pure ⟨plainId_quiet F.plain_reversed_new _,codeAny_builtin F.entry_reversed_new ?_⟩));rw[Around.under_plainId F.plain_reversed_new _];unfold Builtin.«reversed.__new__»;refine wpAny_bind (wpAny_of_eq (newClass_reversed _) ?_)
 try dsimp only
 refine wpAny_bind (wpAny_of_eq (a:=()) (by first | rfl | kernel_rfl) ?_);refine wpAny_bind (wpAny_of_eq (a:=()) (by first | rfl | kernel_rfl) ?_)
 try dsimp only
 refine wpAny_bind (wpAny_specialOf ht.typeIs RV.no_rev ?_)
 try dsimp only
 refine wpAny_bind ?_;show wpAny _ A.in1 (isInstance (.ref t) (.type "dict") >>= _) _ _ s;refine wpAny_bind (wpAny_isInstance (b:=false) ht.typeIs RV.sub_td ?_);show wpAny _ A.in1 (specialOf (.ref t) "__getitem__" >>= _) _ _ s;refine wpAny_bind (wpAny_specialOf ht.typeIs slot_tuple_getitem.lookup ?_);refine wpAny_of_eq (a:=true) (by first | rfl | kernel_rfl) ?_;show wpAny _ A.in1 (call (.builtin "len") [.ref t] >>= _) _ _ s;refine wpAny_bind (PyProof.Rows.len_tuple ht (by have:=sS;omega) ?_);refine wpAny_bind (wpAny_of_eq (a:=some (items.size:Int)) (by first | rfl | kernel_rfl) ?_);refine wpAny_bind (m:=newObj (.type "reversed") (.fields #[.ref t,rawInt ((items.size:Int) - 1)])) (wpAny_newObj_type (wpAny_pure (h _)))
theorem zig {t:Addr}{items:Array Value}{Q:Value->Shared->Prop}(ht:IsTup s.heap t items)(hz:items.size<=sizeLine)
  (h: ∀tk,Q (.ref s.heap.objs.size) {s with heap:=s.heap.push (l0 t ((items.size:Int) - 1)),toks:=tk}):wpAny (model prog w) A (call (.type "reversed") [.ref t]) Q E s:=by
 refine callType_codes (Q₁:=λobj s₁=>s₁.TypeIs obj "reversed" /\Q obj s₁) RV.called (F.typeCall_reversed_1 _) F.entry_object_init
  (ziu ht hz λtk=>⟨⟨_,Heap.get?_push_size _ rfl,rfl⟩,h tk⟩) λobj s₁ h₁=> ?_
 exact⟨h₁.1,F.args_object_init_2 obj _,object_init_meets RV.called.init.lookup RV.called.made (by decide) prog w A.in1 _ s₁ ⟨h₁.1,rfl,h₁.2⟩⟩
def tB (h:Heap)(a t:Addr)(i:Int):Prop:=h.get? a=some (l0 t i)
theorem zkK {it t:Addr}{i:Nat}{items:Array Value}{x:Value}{Q:Option Value->Shared->Prop}(hit:tB s.heap it t (i:Int))(ht:IsTup s.heap t items)(hz:items.size<=sizeLine)(hx:items[i]?=some x)
  (hQ: ∀h' tk,tB h' it t ((i:Int) - 1)->Heap.SameBut it s.heap h'->Q (some x) {s with heap:=h',toks:=tk}):wpAny (model prog w) A (pyNext (.ref it)) Q E s:=by
 have hT:s.TypeIs (.ref it) "reversed" :=⟨_,hit,rfl⟩;have hil:i < items.size:=(Array.getElem?_eq_some_iff.mp hx).1;unfold pyNext;refine wpAny_bind (wpAny_attempt (wpAny_callSpecial?_slot (name:=Str.ofString "__next__") hT RV.slot_next
  (wpAny_call_entry RV.slot_next hT RV.entry_next ?_ (RV.args_next _))))
 unfold Builtin.«reversed.__next__»;refine wpAny_bind (wpAny_of_eq (a:=(Value.ref it,[])) rfl ?_)
 try dsimp only
 refine wpAny_bind (wpAny_field hit rfl (x:= .ref t) rfl ?_);refine wpAny_bind (wpAny_field hit rfl (x:=rawInt (i:Int)) rfl ?_);show wpAny _ _ (if(i:Int) < 0 then _ else _) _ _ s;rw[if_neg (by omega)];refine wpAny_bind (wpAny_specialOf ht.typeIs slot_tuple_getitem.lookup ?_);show wpAny _ _ (mkInt (i:Int) >>= _) _ _ s;refine wpAny_bind (wpAny_mkInt ?_);have hn:=sS;refine wpAny_bind (wpAny_attempt (PyProof.Rows.getItem_tuple (s:= {s with toks:=s.toks+1}) (j:=i) ht (by omega) (by omega) ?_ hx ?_))
 ·unfold seqIndex?
  have e0: ¬ (i:Int) < 0:=by omega
  simp only[if_neg e0];rw[if_pos (by simp;exact hil)];simp
 ·show wpAny _ _ (field (.ref it) 1 >>= _) _ _ _
  refine wpAny_bind (wpAny_field hit rfl (x:=rawInt (i:Int)) rfl ?_);refine wpAny_bind (wpAny_setField_rec hit (by simp) λh' he' hs'=> ?_);refine wpAny_pure ⟨x,rfl,wpAny_pure (hQ h' _ ?_ hs')⟩;exact he'
theorem zkL {it t:Addr}{Q:Option Value->Shared->Prop}(hh:A.handled=none)(hit:tB s.heap it t (-1))
  (hQ: ∀h',Heap.ExtBut it s.heap h'->Q none {s with heap:=h'}):wpAny (model prog w) A (pyNext (.ref it)) Q E s:=by
 have hT:s.TypeIs (.ref it) "reversed" :=⟨_,hit,rfl⟩;unfold pyNext;refine wpAny_bind (wpAny_attempt (wpAny_callSpecial?_slot (name:=Str.ofString "__next__") hT RV.slot_next
  (wpAny_call_entry RV.slot_next hT RV.entry_next ?_ (RV.args_next _))))
 unfold Builtin.«reversed.__next__»;refine wpAny_bind (wpAny_of_eq (a:=(Value.ref it,[])) rfl ?_)
 try dsimp only
 refine wpAny_bind (wpAny_field hit rfl (x:= .ref t) rfl ?_);refine wpAny_bind (wpAny_field hit rfl (x:=rawInt (-1)) rfl ?_);show wpAny _ _ (if(-1:Int) < 0 then _ else _) _ _ s;rw[if_pos (by decide)];refine wpAny_bind (wpAny_rule ?_);refine wpAny_bind ?_;show wpAny _ _ (setField (.ref it) 1 (rawInt (-1)) >>= λ_=>setField (.ref it) 0 .none) _ _ s;refine wpAny_bind (wpAny_setField_rec hit (by simp) λh1 he1 hs1=> ?_);refine wpAny_setField_rec he1 (by simp) λh2 he2 hs2=> ?_
 first
 | show wpAny _ _ (newExc (.type "StopIteration") [] >>= _) _ _ _
 | (refine wpAny_bind ?_;show wpAny _ _ (newExc (.type "StopIteration") [] >>= _) _ _ _)
 refine wpAny_bind ?_;simp only[newExc,newTuple];refine wpAny_bind (wpAny_newObj_type ?_ (by size_fits));refine wpAny_bind (m:=firstArgMember _ _) (wpAny_of_eq (a:=Value.none) (by first | rfl | (simp only[firstArgMember];rfl)) ?_);refine wpAny_newObj_type ?_ (by size_fits);simp only[raiseNew];refine wpAny_bind (wpAny_handled ?_)
 first | rw[show A.in1.handled=none from hh] | rw[hh]
 refine wpAny_bind (wpAny_pure (wpAny_throw ?_));refine wpAny_bind (wpAny_isInstance (T:= "StopIteration") (b:=true) ⟨_,Heap.get?_push_size _ rfl,rfl⟩ isSubtype_stop ?_);exact wpAny_pure (hQ _ (((hs1.extBut.trans hs2.extBut).push _).push _))
theorem zew {it t:Addr}{i:Int}{Q:Value->Shared->Prop}(hit:tB s.heap it t i)(h:Q (.ref it) s):wpAny (model prog w) A (pyIter (.ref it)) Q E s:=by
 have hT:s.TypeIs (.ref it) "reversed" :=⟨_,hit,rfl⟩;refine wpAny_pyIter_slot hT RV.slot_iter (wpAny_call_entry RV.slot_iter hT RV.entry_iter ?_ (RV.args_iter _));show wpAny _ _ (ret (.ref it)) _ _ s;exact wpAny_pure ⟨_,rfl,"reversed",_,hT,RV.slot_next.lookup,h⟩
end
section
variable {X:Cx} {tg:Expr}
theorem zcs:bootBuiltins "reversed" =some (.type "reversed"):=by decide+kernel
end
end L2
namespace L2
open PySem PySem.Spec PyProof.Rows
section
variable {X:Cx} {pins:List (Addr×Obj)} {σ:St} {H:Hp} {s:Shared}
theorem zfd {α β:Type}{R:α->β->Prop} : ∀{l:List α} {m:List β} {j:Nat} {a:α} {b:β},Paired R l m->l[j]?=some a->m[j]?=some b->R a b
 | _,_,0,a,b,.cons r _,h1,h2=>by
  rw[List.getElem?_cons_zero]at h1 h2;rw[<- Option.some.inj h1,<- Option.some.inj h2];exact r
 | _,_,j+1,a,b,.cons _ r,h1,h2=>zfd (j:=j) r (by simpa using h1) (by simpa using h2)
theorem zgS {xs:List V}{its:List Value}(r:zH xs its){j:Nat}(h:j < its.toArray.size): ∃x,xs[j]?=some x/\zT x its.toArray[j]:=by
 have hj:j < xs.length:=by rw[r.length];simpa using h
 obtain⟨u,e,ru⟩:=r.get (i:=j) (x:=xs[j]) (by simp[hj]);refine⟨xs[j],by simp[hj],?_⟩;have:its[j]?=some its.toArray[j]:=by simp
 rw[this]at e;rw[Option.some.inj e];exact ru
end
end L2
namespace L2
open PySem PySem.Spec PyProof.Rows
section
variable {X:Cx}
theorem zgU: ∀{us:List Value} {ss:List Str},StrsAre us ss->zH (ss.map V.str) us
 | _,_,.nil=> .nil
 | _,_,.cons _ t r=> .cons ⟨t,rfl⟩ (zgU r)
theorem zih:vD X (.builtin "sorted") (λxs H Q=> ∃(l:Addr) (ss:List Str),xs= [.ref l]/\yW X.K H l (ss.map V.str)/\ss.length < 64/\∀p ss',H p=none->ss'.Perm ss->sortedS ss'=true->Q (.ref p) (zJ H p (.lst (ss'.map V.str)))):=by
 intro pins s σ H xs us Q I r h;obtain⟨l,ss,rfl,hl,h64,q⟩:=h;obtain⟨u,rfl,ru⟩:=qY r;cases ru;obtain⟨its,rv,p,_⟩:=I.list hl;have hlen:=rv.length;rw[List.length_map]at hlen;refine sorted_strs p.isList (zgi rv) (by omega) λout ss' h1 h2 h3=> ?_;obtain⟨e,he⟩:=sortedAll_at s.heap its out;have hn:H (s.heap.objs.size+1)=none:=I.hok.fresh (Nat.le_succ _);refine⟨.ref (s.heap.objs.size+1),_,I.laid (t':=s.toks) (o:= .lst (ss'.map V.str)) (λb u z=>sortedAll_old z) (Nat.le_succ _) ⟨?_,out.toList,e,zgU h1,?_⟩,rfl,q _ ss' hn h2 h3⟩
 ·rw[List.length_map,h2.length_eq]
  exact Nat.le_trans (Nat.le_of_lt h64) (by decide)
 ·rw[Array.toArray_toList];exact he
theorem zeZ:yG X (binaryOp .Mult) (λx y H Q=> ∃(z:Str) (n:Int),x= .str z/\y= .int n/\((n=0/\Q (.str Str.empty) H)∨(n=1/\Q (.str z) H))):=by
 intro pins s σ H x y v u Q I rx ry h;obtain⟨z,n,rfl,rfl,h⟩:=h;obtain⟨t,rfl⟩:=rx;obtain⟨t',rfl⟩:=ry;rcases h with⟨rfl,q⟩ | ⟨rfl,q⟩
 ·exact PySem.P.mul_str_none (by decide) (by decide) ⟨.str Str.empty,H,I.tok _,⟨_,rfl⟩,q⟩
 ·refine PySem.P.mul_str (by decide) (λ_ h=>by cases h) (λ_ h=>by cases h) ?_
  rw[if_neg (by decide),if_pos (show((1:Int)==1||z.length==0)=true from rfl)];exact⟨.str z,H,I,⟨_,rfl⟩,q⟩
end
end L2
namespace L2
open PySem PySem.Spec PyProof.Rows
def Rw (H:Hp)(p:Addr)(xs:List Str):Prop:=H p=some (.tup (xs.map V.str))
section
variable {prog:Program} {w:World} {A:Around} {E:Value->Shared->Prop} {s:Shared}
theorem zj6 {t sl:Addr}{items:Array Value}{vl vu:Value}{lo hi:Option Int}{Q:Value->Shared->Prop}(ht:IsTup s.heap t items)(hs:s.heap.IsSliceOf sl vl vu .none)(pl:IsPart vl lo)(pu:IsPart vu hi)
  (hw:HT.sIx items.size 0 lo=0/\HT.sIx items.size items.size hi=items.size) (h:Q (.ref t) s):wpAny (model prog w) A (getItem (.ref t) (.ref sl)) Q E s:=by
 obtain⟨os,hos,hcs,hds⟩:=id hs;have hTs:s.TypeIs (.ref sl) "slice" :=⟨os,hos,hcs⟩;unfold getItem
 try with_reducible refine wpAny_holding ?_
 first | refine wpAny_bind (wpAny_pure ?_) | skip
 refine wpAny_bind (wpAny_sequenceKey ht.typeIs (by decide) ?_);refine wpAny_bind (wpAny_callSpecial?_slot (name:=Str.ofString "__getitem__") ht.typeIs PyProof.Rows.slot_tuple_getitem
  (wpAny_call_entry PyProof.Rows.slot_tuple_getitem ht.typeIs entry_tuple_getitem ?_ (args_tuple_getitem _ _)))
 show wpAny _ _ (Builtin.Tuple.tupleItemsOf (.ref t) >>= _) _ _ s;refine wpAny_bind (tupleItemsOf_ ht ?_);refine wpAny_bind (wpAny_typeOf hTs ?_);rw[if_pos (by decide)];refine wpAny_bind (HT.sliceApplied_gen hs pl pu ?_);have hyes:((((HT.sIx items.size 0 lo:Nat):Int)==0&&(1:Int)==1&&(HT.sIx items.size items.size hi - HT.sIx items.size 0 lo)==items.size)=true):=by
  rw[hw.1,hw.2];simp
 show wpAny _ _ (if(((HT.sIx items.size 0 lo:Nat):Int)==0&&(1:Int)==1&&(HT.sIx items.size items.size hi - HT.sIx items.size 0 lo)==items.size)=true then _ else _) _ _ s;rw[if_pos hyes];unfold Builtin.Tuple.tupleIsExact;refine wpAny_bind (wpAny_bind (wpAny_typeOf ht.typeIs (wpAny_pure ?_)));rw[if_pos (by decide)];refine wpAny_bind (wpAny_rule ?_)
 first
  | exact wpAny_pure ⟨_,rfl,wpAny_pure h⟩
  | exact wpAny_bind (wpAny_pure (wpAny_pure ⟨_,rfl,wpAny_pure h⟩))
  | exact wpAny_bind (wpAny_pure ⟨_,rfl,wpAny_pure h⟩)
end
section
variable {X:Cx}
def zj3 (K:Frag)(n:Nat)(t:uB):TG:=λv σ H Q=> ∃a xs,v= .ref a/\yW K H a xs/\xs.length=n/\t xs σ H Q
theorem zmh {es:List Expr}{k:Nat}{t:uB}{n:Nat}{pos:Pos}(hc:X.calm=true)(h:vU X es t)
  (hn:(assignEach es X.env).length=n:=by rfl) (hst:(assignEach es X.env).findIdx? (·.1)=none:=by rfl):PG X (.Tuple es k pos) (zj3 X.K n t):=⟨by
 intro pins s σ H v u Q I r hw;obtain⟨a,xs,e1,hq,hl,hw⟩:=hw;subst e1;cases r;obtain⟨its,rv,ht,hz⟩:=I.list hq;rw[assign_Tuple];refine wpAny_bind (wpAny_standAt ?_);unfold unpack;rw[show(assignEach es X.env).length=its.toArray.size from by simp[hn,<- hl,rv.length],hst];refine wpAny_bind (wpAny_holding (PySem.W.kun_itemsOf (I.ok.hd hc) ht.isList λh' hx=> ?_));have I1:z5 X pins σ H {s with heap:=h'} :=I.kept (t':=s.toks) λb o e=>hx b o (Nat.ne_of_lt (Heap.lt_size e)) e;exact h pins _ σ H xs _ Q I1 (by simpa using rv) hw⟩
variable {a b c d:Expr} {ta tb tc td:TE} {pos:Pos}
end
end L2
namespace L2
open PySem PySem.Spec PyProof.Rows
namespace RV
theorem no_len:typeLookup (.type "reversed") "__len__" =pure none:=by rw[typeLookup_type,builtinLookup_eq_fast];kernel_rfl
theorem slot_hint:Slot "reversed" "__length_hint__" "reversed.__length_hint__" :=
 .of (owner:= "reversed") (n:= "__length_hint__") (by rw[typeLookup_type,builtinLookup_eq_fast];kernel_rfl) (by decide+kernel) (by decide+kernel) (by decide+kernel)
  (by first | exact .inl (by decide+kernel) | exact .inr (by decide+kernel)) (by rw[isSubtype_type];kernel_rfl)
theorem entry_hint:entryFor table "reversed.__length_hint__" =some Builtin.«reversed.__length_hint__»:=entryFor_of_tree (by kernel_rfl)
theorem args_hint (a:Value):argsOk "reversed.__length_hint__" ⟨[a],[]⟩:=by
 unfold argsOk;rw[signature?_of (id:= "reversed.__length_hint__") (n:= ['_','_','t','n','i','h','_','h','t','g','n','e','l','_','_']) (o:= ['d','e','s','r','e','v','e','r']) (by kernel_rfl) owner];kernel_rfl
end RV
section
variable {prog:Program} {w:World} {A:Around} {E:Value->Shared->Prop} {s:Shared}
theorem zh7 (hh:A.handled=none)(I t:Addr)(hne:t≠I)(items:Array Value)(hz:items.size<=sizeLine):
  Walks prog w A I [I,t] [I] items.size (λi v=>items[items.size - 1 - i]?=some v) (λi h=>i<=items.size/\tB h I t ((items.size:Int) - 1 - (i:Int))/\IsTup h t items) where
 sub:=λb hb=>by simp at hb;simp[hb]
 frame:=λ_ _ _ st hk=>by
  obtain⟨h0,h1,o,e,c,n,d⟩:=st;exact⟨h0,hk I (by simp) _ h1,o,hk t (by simp) o e,c,n,d⟩
 item:=λi s Q E hi st hQ=>by
  obtain⟨h0,h1,ht⟩:=st;have e:(items.size:Int) - 1 - (i:Int)=((items.size - 1 - i:Nat):Int):=by omega
  rw[e]at h1;have hj:items.size - 1 - i < items.size:=by omega
  refine zkK h1 ht hz (x:=items[items.size - 1 - i]) (by simp[hj]) λh' tk hit' sb=> ?_;have e2:((items.size - 1 - i:Nat):Int) - 1=(items.size:Int) - 1 - ((i+1:Nat):Int):=by omega
  rw[e2]at hit';obtain⟨o,eo,c,n,d⟩:=ht;exact hQ _ h' tk (by simp[hj]) ⟨hi,hit',o,(sb.2 t hne).trans eo,c,n,d⟩ λb o hb e=>(sb.2 b λh=>hb (by simp[h])).trans e
 done:=λs Q E st hQ=>by
  obtain⟨h0,h1,ht⟩:=st;have e:(items.size:Int) - 1 - (items.size:Int)= -1:=by omega
  rw[e]at h1;exact zkL hh h1 λh' eb=>hQ h' s.toks λb o hb e=>eb b o (λh=>hb (by simp[h])) e
 self:=λ_ _ _ _ st h=>zew st.2.1 h
theorem zjD {I t:Addr}{items:Array Value}{Q:Value->Shared->Prop}(hit:tB s.heap I t ((items.size:Int) - 1))(ht:IsTup s.heap t items)(hz:items.size<=sizeLine)
  (h: ∀tk u,s.toks<=tk->Q (.int (items.size:Int) u) {s with toks:=tk}):wpAny (model prog w) A (call (.builtin "reversed.__length_hint__") [.ref I]) Q E s:=by
 have hT:s.TypeIs (.ref I) "reversed" :=⟨_,hit,rfl⟩;refine wpAny_call_entry RV.slot_hint hT RV.entry_hint ?_ (RV.args_hint _);unfold Builtin.«reversed.__length_hint__»;refine wpAny_bind (wpAny_of_eq (a:=Value.ref I) rfl ?_);refine wpAny_bind (wpAny_field hit rfl (x:= .ref t) rfl ?_);show wpAny _ _ (call (.builtin "len") [.ref t] >>= _) _ _ s;refine wpAny_bind (PyProof.Rows.len_tuple ht (by have:=sS;omega) ?_);refine wpAny_bind (wpAny_of_eq (a:=some (items.size:Int)) (by first | rfl | kernel_rfl) ?_);refine wpAny_bind (wpAny_field (s:= {s with toks:=s.toks+1+1}) hit rfl (x:=rawInt ((items.size:Int) - 1)) rfl ?_);show wpAny _ _ (if(items.size:Int) < (items.size:Int) - 1+1 then _ else _) _ _ _;rw[if_neg (by omega)];unfold retInt;refine wpAny_bind (wpAny_mkInt ?_);have e:(items.size:Int) - 1+1=items.size:=by omega
 rw[e];exact wpAny_pure ⟨_,rfl,h _ _ (by show s.toks<=s.toks+1+1+1;omega)⟩
end
section
variable {X:Cx}
end
end L2
namespace L2
open PySem PySem.Spec PyProof.Rows
def zbN (f:Addr)(o:Obj):Heap->Prop:=λh=>h.get? f=some o
def zb8 (c:Addr)(q:Str):Heap->Prop:=λh=> ∃o vs t,h.get? c=some o/\o.data= .fields vs/\vs[1]?=some (.str q t)
def less (H:Hp)(c:Addr):Hp:=λb=>if b=c then none else H b
end L2
namespace L2
open PySem PySem.Spec PyProof.Rows
section
variable {X:Cx}
end
end L2
namespace L2
open PySem PySem.Spec PyProof.Rows
end L2
namespace L2
open PySem PySem.Spec PyProof.Rows
section
variable {X:Cx} {pins:List (Addr×Obj)} {σ:St} {H:Hp} {s:Shared} {scope:Scope} {N' own:List Str}
theorem zfs {elt target iter:Expr}{ifs:List Expr}{pos spos pos':Pos}{i0:Nat}{x:Str}{wi:TI}{g:TG}{tt:TT}{te:TE}(hN:X.N.Nodup)(hi0:X.N[i0]?=some x)(hx:sH X.env.scope x)(S:sF X scope N' own)(hc:X.calm=true)(hi:PI X target iter wi)
  (hg: ∀C s H fp pins,PG (xJ X scope (N'++own) C s H fp pins) target g) (ht: ∀C s H fp pins,PF (xJ X scope (N'++own) C s H fp pins) ifs tt) (he: ∀C s H fp pins,PE (xJ X scope (N'++own) C s H fp pins) elt te)
  (hs: ∀x,foldedSetIterable iter X.env x=pure x:=by intro _;rfl) (hsw:swapsWith (.ListComp elt [⟨target,iter,ifs,0⟩] scope pos) (some (.Name x pos')) spos.line X.env=pure true:=by rfl)
  (hf:X.fn x=true∨X.env.scope.names.lookup x=some .local:=by first | exact .inl rfl | exact .inr rfl | assumption):
  PS X (.Assign [.Name x pos'] (.ListComp elt [⟨target,iter,ifs,0⟩] scope pos) spos) (lK (iH own.length wi g tt te) (j6 i0)):=by
 refine⟨?_⟩;intro pins s σ H D0 I h;rw[exec_Assign_Name_used _ _ _ _ hsw];refine wpAny_bind (wpAny_standAt (wpAny_bind ?_));show wpAny _ X.A (do let _ <- comprehension (.ListComp elt [⟨target,iter,ifs,0⟩] scope pos) scope X.env _ (newList []) false (eval iter X.env) (some (assign (.Name x pos') X.env))) _ _ s;refine wpAny_bind (wpAny_mono (wpAny_comprehension_free (use:=some (assign (.Name x pos') X.env)) (Q:=λ_ s'=>SP X pins D0 .next s') rfl hs (zc4 (S.cells I)) S.kind S.names ?_) (λ_ s' hq=>wpAny_pure (wpAny_pure hq)) λ_ _ e=>e);refine zU (hi pins s σ H _ I h) λv s1 h1=>zU h1 λitv s2 h2=> ?_;obtain⟨it,fp,tn,J,H2,e,I2,T,st2,f2,W,⟨m0,w0⟩,turn⟩:=h2;subst e;have fl: ∀b∈fp,b < s2.heap.objs.size:=λb hb=>by obtain⟨o,e,_⟩:=T.obj _ _ st2 b hb;exact Heap.lt_size e
 refine wpAny_newObj_type (wpAny_newFunctionEnv S.nocell (by intro y hy;simp at hy) (λh4 ns4 sb4=> ?_) S.kind);dsimp only at ns4 sb4⊢
 generalize hH3:s2.heap.push {cls:= .type "list",dict:=none,data:= .seq ([]:List Value).toArray} =h3 at ns4 sb4⊢
 have hC:h3.objs.size=s2.heap.objs.size+1:=by rw[<- hH3,Heap.size_push]
 have hDC:s2.heap.objs.size≠h3.objs.size:=by rw[hC];exact Nat.ne_of_lt (Nat.lt_succ_self _)
 have hCle:s2.heap.objs.size<=h3.objs.size:=by rw[hC];exact Nat.le_succ _
 have eD3:h3.get? s2.heap.objs.size=some {cls:= .type "list",data:= .seq ([]:List Value).toArray} :=hH3▸Heap.get?_push_size _ rfl;have k4: ∀b u,s2.heap.get? b=some u->h4.get? b=some u:=λb u e=>
  (sb4.2 b (Nat.ne_of_lt (Nat.lt_of_lt_of_le (Heap.lt_size e) hCle))).trans (Heap.get?_push_of_some _ (hH3▸Heap.get?_push_of_some _ e))
 have eD4:h4.get? s2.heap.objs.size=some {cls:= .type "list",data:= .seq ([]:List Value).toArray} :=(sb4.2 _ hDC).trans (Heap.get?_push_of_some _ eD3);generalize hDd:s2.heap.objs.size=D at *;generalize hCd:h3.objs.size=C at *;have I4:=zeo S I2 (C:=C) (D:=D) (fp:=fp) (h4:=h4) (tk:=s2.toks+([]:List (Str×Value)).length) k4 (by rw[hDd];exact hCle) (by rw[hDd];exact Nat.le_refl _) hDC eD4 (by intro v z;cases z) ns4 f2 (by rw[hDd];exact fl);have lowC: ∀(b:Addr) (u:Obj),s2.heap.get? b=some u->b≠C:=λb u e=>Nat.ne_of_lt (Nat.lt_of_lt_of_le (Heap.lt_size e) (by rw[hDd];exact hCle));have nofp: ∀b∈fp,b∉vJ X.stack:=λb hb hm=>by
  rcases List.mem_cons.mp (I2.stkSub b hm)with z | z
  ·exact(f2 b hb).2.1 z
  ·exact(f2 b hb).2.2.1 z
 have fpD: ∀b∈fp,b≠D:=λb hb=>Nat.ne_of_lt (fl b hb);have stat: ∀{H':Hp} {o:Obj},(∀b∈fp,H' b=none)->∀b∈fp,rA (xJ X scope (N'++own) C s2 H2 fp pins) [(D,o)] H' b:=λ{H' o} hn b hb=>
  ⟨hn b hb,Nat.ne_of_lt (Nat.lt_of_lt_of_le (fl b hb) hCle),nofp b hb,.inl hb,λx c e=>(f2 b hb).2.2.2.2.1 x c (rH S I2 e),λp hp=>by
   have hp':p∈(X.pn++pins)++ [(D,o)]:=hp;rcases List.mem_append.mp hp' with z | z
   ·exact(f2 b hb).2.2.2.2.2 p z
   ·have e:p=(D,o):=by simpa using z
    rw[e];exact Ne.symm (fpD b hb)⟩
 have loop: ∀s3:Shared,z5 (xJ X scope (N'++own) C s2 H2 fp pins) [(D,{cls:= .type "list",data:= .seq ([]:List Value).toArray})] (σ++List.replicate own.length none) H2 s3->tn 0 s3.heap->
   codeAny (model X.prog X.w) X.A (.compLoop (.ListComp elt [⟨target,iter,ifs,0⟩] scope pos) 0 (.ref it) (.ref D) (compEnvC scope (uC scope.names X.env.cells) C X.env))
    (compPost (model X.prog X.w) X.A X.xe (some (assign (.Name x pos') X.env)) (λ_ s'=>SP X pins D0 .next s') (.ref D) C) s3:=by
  intro s3 I3 st3;refine zc5 (λn s'=> ∃(i:Nat) (ys:List V) (σ':St) (H':Hp) (vals:List Value) (cnt:Nat),z5 (xJ X scope (N'++own) C s2 H2 fp pins) [(D,{cls:= .type "list",data:= .seq vals.toArray cnt})] σ' H' s'/\
   tn i s'.heap/\(∀b∈fp,H' b=none)/\zH ys vals/\W i n ys σ' H') ?_ m0 ⟨0,[],_,H2,[],0,I3,st3,λb hb=>(f2 b hb).1,.nil,w0⟩
  rintro n s3 ⟨i,ys,σ3,H3,vals,cnt,I3,st3,fr3,rv,w3⟩;rcases turn i n ys σ3 H3 w3 with⟨stop,hz,q⟩ | ⟨go,hz,N,hN,step⟩
  ·refine zU (T.done (xJ X scope (N'++own) C s2 H2 fp pins) rfl rfl rfl hc i _ s3 σ3 H3 _ I3 (stat fr3) st3 stop) λr s4 ⟨hr,I4⟩=> ?_
   subst hr;obtain⟨m,ns,_⟩:=id I4.loc;have u4:Un (vJ X.stack) fp H2 H3 s2.heap s4.heap:=I4.base;have nC:H3 C=none:=I4.free;have I5:z5 X pins σ H3 s4:=I2.call' (ch:=fp) I4.os u4 I4.hok I4.bare λb hb=>⟨(f2 b hb).2.2.2.1,(f2 b hb).2.1,(f2 b hb).2.2.2.2.1,(f2 b hb).2.2.2.2.2⟩;obtain⟨eD,nD,_⟩:=I4.pin (D,_) (List.mem_append_right _ List.mem_cons_self);have lL:X.env.locals < D:=by have:=I2.lt;rw[hDd]at this;exact this
   have lcl: ∀x c,X.env.cells.lookup x=some c->c < D:=λx c e=>by
    obtain⟨v,o,ho,_⟩:=I2.cell x c e;have:=Heap.lt_size ho;rw[hDd]at this;exact this
   have lp: ∀p∈X.pn++pins,p.1 < D:=λp hp=>by have:=Heap.lt_size (I2.pin p hp).1;rw[hDd]at this;exact this
   have lDC:D < C:=Nat.lt_of_le_of_ne hCle hDC;have I6:z5 X pins σ (zJ H3 D (.lst ys)) s4:=zep I5 nD (by rw[<- hDd];exact I2.sz) (Nat.ne_of_gt lL) (λx c e=>Nat.ne_of_lt (lcl x c e)) (λp hp=>Nat.ne_of_lt (lp p hp)) ⟨hz,vals,cnt,rv,eD⟩;refine wpAny_assign_Name (zgg I6 hN hi0 hx (v:= .ref D) rfl (λs5 I7 ⟨a,sba,ha⟩=> ?_) hf);have nCa:C≠a:=by
    rcases ha with z | z
    ·rw[z];exact Nat.ne_of_gt (Nat.lt_trans lL lDC)
    ·exact Nat.ne_of_gt (Nat.lt_trans (lcl _ _ z) lDC)
   obtain⟨oC,esC,epC,eC,rC⟩:=ns;refine⟨m,⟨oC,esC,epC,(sba.2 C nCa).trans eC,rC⟩,λh' sb=> ?_⟩;refine⟨_,_,I7.turned (t':=s5.toks) (it:=C) (λb o hb e=>(sb.2 b hb).trans e) (by rw[yK (Nat.ne_of_gt lDC)];exact nC) (Nat.ne_of_gt (Nat.lt_trans lL lDC)) (.inr (Nat.le_trans (by rw[<- hDd];exact I2.sz) (Nat.le_of_lt lDC))) (λx c e=>Nat.ne_of_lt (Nat.lt_trans (lcl x c e) lDC)) (λp hp=>Nat.ne_of_lt (Nat.lt_trans (lp p hp) lDC)),q D nD⟩
  ·refine zU (T.item (xJ X scope (N'++own) C s2 H2 fp pins) rfl rfl rfl hc i _ s3 σ3 H3 _ I3 (stat fr3) st3 go) λr s4 ⟨u,hr,h4⟩=> ?_
   subst hr;refine zU h4 λ_ s5 ⟨x,H5,I5,r5,y5,st5,fr5⟩=> ?_;have I5':=I5.pinned (stat fr5) (T.obj _ _ st5);have keepT: ∀{σ7:St} {H7:Hp} {s7:Shared} {pl:List (Addr×Obj)},z5 (xJ X scope (N'++own) C s2 H2 fp pins) (pl++sV fp s5.heap) σ7 H7 s7->tn (i+1) s7.heap/\∀b∈fp,H7 b=none:=λ{σ7 H7 s7 pl} I7=>
    ⟨T.keep _ _ _ st5 λb hb o e=>(I7.pin (b,o) (List.mem_append_right _ (List.mem_append_right _ (oV hb e)))).1,λb hb=>by
     obtain⟨o,e,d⟩:=T.obj _ _ st5 b hb;exact(I7.pin (b,o) (List.mem_append_right _ (List.mem_append_right _ (oV hb e)))).2.1⟩
   refine oX (hg C s2 H2 fp pins _ s5 σ3 H5 x u _ I5' r5 (step x H5 y5)) λ_ s6 ⟨σ6,H6,I6,q6⟩=> ?_;refine oX (ht C s2 H2 fp pins _ s6 σ6 H6 _ I6 q6) λb s7 ⟨H7,I7,q7⟩=> ?_;cases b with
   | false=>
    obtain⟨m',hm,w7⟩:=hN _ _ _ q7;obtain⟨t7,fr7⟩:=keepT I7;exact⟨m',hm,i+1,ys,σ6,H7,vals,cnt,I7.unpinned,t7,fr7,rv,w7⟩
   | true=>
    refine oX (he C s2 H2 fp pins _ s7 σ6 H7 _ I7 q7) λy s8 ⟨yv,H8,I8,r8,q8⟩=> ?_;obtain⟨m',hm,w8⟩:=hN _ _ _ q8;obtain⟨eD,nD,neD,nfD,cD⟩:=I8.pin (D,_) (List.mem_append_right _ (List.mem_append_left _ List.mem_cons_self));have hvl:=rv.length;refine call_meets F.slot_list_append ⟨_,eD,rfl⟩ F.entry_list_append (F.args_list_append_2 _ _) (PySem.list_append D vals.toArray cnt y (by rw[List.size_toArray];omega)) ⟨eD,?_⟩;have I8':z5 (xJ X scope (N'++own) C s2 H2 fp pins) (sV fp s5.heap) σ6 H8 s8:=I8.pins_of λp hp=>I8.pin p (List.mem_append_right _ (List.mem_append_right _ hp));have hno: ∀p∈(X.pn++pins)++sV fp s5.heap,p.1≠D:=λp hp=>by
     rcases List.mem_append.mp hp with z | z
     ·intro q
      have:=Heap.lt_size (I2.pin p z).1;rw[hDd,q]at this;exact Nat.lt_irrefl _ this
     ·exact fpD _ (zar z).1
    have I9:=I8'.turned (t':=s8.toks) (it:=D) (h':=s8.heap.update D (Obj.mapSeq λx=>x.push y)) (λb o hb e=>(Heap.get?_update_other s8.heap _ (Ne.symm hb)).trans e) nD neD (.inr (by show s2.heap.objs.size<=D;rw[hDd];exact Nat.le_refl _))
     (λx c e z=>by
      obtain⟨v,o,ho,_⟩:=I2.cell x c (rH S I2 e);have:=Heap.lt_size ho;rw[hDd,z]at this;exact Nat.lt_irrefl _ this) hno
    obtain⟨t9,fr9⟩:=keepT (pl:= []) I9;have qD: ∃n',(s8.heap.update D (Obj.mapSeq λx=>x.push y)).get? D=some {cls:= .type "list",data:= .seq (vals++ [y]).toArray n'} :=by
     have q:=PySem.IsL.update (l:=D) (items:=vals.toArray) (n:=cnt) (h:=s8.heap) eD λx=>x.push y;have e:vals.toArray.push y=(vals++ [y]).toArray:=by simp
     rw[<- e];exact⟨_,q⟩
    obtain⟨n',qD⟩:=qD;refine⟨m',hm,i+1,ys++ [yv],σ6,H8,vals++ [y],n',I9.pins_of λp hp=> ?_,t9,fr9,rv.append (.cons r8 .nil),w8⟩;have e:=List.mem_singleton.mp hp;rw[e];exact⟨qD,nD,neD,nfD,by intro v z;cases z⟩
 have t4:tn 0 h4:=T.keep _ _ _ st2 λb _ o e=>k4 b o e;exact codeAny_compStart_list (loop _ I4 t4) (T.self _ 0 _ _ _ t4 (loop _ I4 t4))
end
end L2
namespace L2
open PySem PySem.Spec PyProof.Rows PySem.W
section
variable {n:Nat} {rk:Nat->Nat} {cmp:Nat->Nat->(Bool->Shared->Prop)->Shared->Prop} {s:Shared} {p:Array Nat}
end
end L2
namespace L2
open PySem PySem.Spec PyProof.Rows PySem.W
end L2
namespace L2
open PySem PySem.Spec PyProof.Rows PySem.W
section
variable {prog:Program} {w:World} {A:Around} {E:Value->Shared->Prop} {s:Shared}
end
end L2
namespace L2
open PySem PySem.Spec PyProof.Rows PySem.W
section
variable {X:Cx} {pins:List (Addr×Obj)} {σ:St} {H H':Hp} {s:Shared} {h':Heap}
end
end L2
namespace L2
open PySem PySem.Spec PyProof.Rows PySem.W
section
variable {X:Cx}
end
end L2
namespace L2
open PySem PySem.Spec PyProof.Rows PySem.W
section
variable {prog:Program} {w:World} {A:Around} {E:Value->Shared->Prop} {s:Shared}
theorem zor:typeLookup (.type "tuple") "keys" =pure none:=by rw[typeLookup_type,builtinLookup_eq_fast];kernel_rfl
theorem zkh {a:Addr}{xs:Array Value}{k:Nat}{sl:Array (Option Value)}{u:Tok}{Q:Value->Shared->Prop}
  (hx:s.heap.get? a=some {cls:= .type "tuple",dict:=none,data:= .seq xs k,slots:=sl}) (hA:A.handled=none)
  (h: ∀h' tk e,Heap.NewExcOf s.heap h' e "AttributeError" ->E (.ref e) {s with heap:=h',toks:=tk}):
  wpAny (model prog w) A (getAttrBy (.ref a) (.str "keys" u) false) Q E s:=by
 obtain⟨hp,g,d,tk,os⟩:=s;have hT: ∀tk',(⟨hp,g,d,tk',os⟩:Shared).TypeIs (.ref a) "tuple" :=λ_=>⟨_,hx,rfl⟩;have f1:=sub_AttributeError;have f3:=F.slot_tuple_getattribute.lookup;have f4:=F.slot_tuple_getattribute.bind (.ref a);have f5:=am_tuple_getattr_none;unfold getAttrBy
 repeat(any_goals (first | assumption | exact hT _ | ((with_reducible show wpAny _ _ (call (Value.builtin "tuple.__getattribute__") _ _) _ _ _);refine call_meets F.slot_tuple_getattribute (hT _) am_entry_tuple_getattribute (F.args_tuple_getattribute_2 _ _) (meets_getattribute_miss_tuple a xs k sl "keys" _ zor (by decide+kernel) (by size_fits)) ⟨hx,hA,λh' tk' e hx'=> ?_⟩) | wp_step))
 obtain⟨t',u',he⟩:=hx'.there;show wpAny _ _ (getattributeRaised _ _ _ _ _ _ _) _ _ _;unfold getattributeRaised
 repeat(any_goals (first | assumption | wp_step))
 exact h _ _ _ hx'.of
theorem zki {a:Addr}{xs:Array Value}{k:Nat}{sl:Array (Option Value)}{Q:Option Value->Shared->Prop}
  (hx:s.heap.get? a=some {cls:= .type "tuple",dict:=none,data:= .seq xs k,slots:=sl}) (hA:A.handled=none)
  (h: ∀h' tk,(∀b o,s.heap.get? b=some o->h'.get? b=some o)->Q none {s with heap:=h',toks:=tk}):
  wpAny (model prog w) A (getAttr? (.ref a) "keys") Q E s:=by
 unfold getAttr? getAttrBy?;refine wpAny_bind (wpAny_mkText ?_);refine wpAny_bind (wpAny_attempt ?_);refine zkh hx hA λh' tk e x=> ?_;obtain⟨o,xs',he,hc,_⟩:=x.there;refine wpAny_bind (wpAny_isInstance (T:= "AttributeError") ⟨_,he,hc⟩ sub_AttributeError ?_);rw[if_pos rfl];exact wpAny_pure (h h' tk x.keeps)
end
end L2
namespace L2
open PySem PySem.Spec PyProof.Rows PySem.W
theorem zcK:entryFor table "dict.update.loop" =some Builtin.«dict.update.loop»:=entryFor_of_tree (by kernel_rfl)
theorem jS:plainId "dict.update.loop" =true:=by decide+kernel
section
variable {prog:Program} {w:World} {A:Around} {E:Value->Shared->Prop} {s:Shared}
theorem zlF {b:Addr}{key x:Value}{Q:List Value->Shared->Prop}(hb:IsTup s.heap b #[key,x])(h:Q [key,x] s):wpAny (model prog w) A (Builtin.Dict.pairItems (.ref b)) Q E s:=by
 obtain⟨o,ho,hc,n,hd⟩:=hb;unfold Builtin.Dict.pairItems;refine wpAny_bind (wpAny_typeOf (T:= "tuple") ⟨_,ho,hc⟩ ?_);rw[if_pos (by decide)];exact wpAny_bind (wpAny_seqItems ho hd (wpAny_pure h))
theorem zbt {h h':Heap}{b:Addr}{xs:Array Value}(x:IsTup h b xs)(k: ∀o,h.get? b=some o->h'.get? b=some o):IsTup h' b xs:=let⟨o,ho,r⟩:=x;⟨o,k o ho,r⟩
theorem zc6 {K:Type}[DecidableEq K]{knd:KeyKind prog w K}{D I t:Addr}{items:Array Value}{res:Value}{R:Result->Shared->Prop}(hh:A.handled=none)(hIt:I≠t)(hDt:D≠t)(hDI:D≠I):
  ∀(yH:List (K×Addr×Value)) (i:Nat) (kvs:List (K×Value)) (z:Int) (tok:Tok) (s:Shared),IsTupIter s.heap I t i->IsTup s.heap t items->s.heap.DictOf knd D kvs->
   items.toList.drop i=yH.map (λq=>Value.ref q.2.1)->(∀q∈yH,(∃key,knd.is q.1 key=true/\IsTup s.heap q.2.1 #[key,q.2.2])/\q.2.1≠I/\q.2.1≠D)->kvs.length+yH.length<=sizeLine->
   (∀h' tk,h'.DictOf knd D (merged kvs (yH.map λq=>(q.1,q.2.2)))->(∀b o,b≠I->b≠D->s.heap.get? b=some o->h'.get? b=some o)->R (.ok (.ret res)) {s with heap:=h',toks:=tk})->
   codeAny (model prog w) A (.builtin "dict.update.loop" ⟨[.ref D,.ref I,.int z tok,res],[]⟩) R s
 | [],i,kvs,z,tok,s,hit,ht,hm,hd,hq,hsz,h=>by
  refine codeAny_builtin zcK ?_;rw[Around.under_plainId jS _];have hx:items[i]?=none:=by
   rw[<- Array.getElem?_toList];have:items.toList.length<=i:=List.drop_eq_nil_iff.mp hd;exact List.getElem?_eq_none_iff.mpr this
  show wpAny _ A.in1 (pyNext (.ref I) >>= _) _ _ _;refine wpAny_bind (next_tuple_end (A:=A.in1) hh hit ht hx λh1 k1=> ?_);show wpAny _ A.in1 (Builtin.Dict.addKeywords D [] >>= λ_=>ret res) _ _ _;refine wpAny_bind (wpAny_pure (wpAny_pure ?_));exact h h1 s.toks (hm.at λo e=>k1 D o hDI e) λb o b1 _ e=>k1 b o b1 e
 | q::yH,i,kvs,z,tok,s,hit,ht,hm,hd,hq,hsz,h=>by
  refine codeAny_builtin zcK ?_;rw[Around.under_plainId jS _];obtain⟨⟨key,hk,hb⟩,hbI,hbD⟩:=hq q (.head _);have hx:items[i]?=some (Value.ref q.2.1):=by
   rw[<- Array.getElem?_toList];have:=congrArg (λl=>l[0]?) hd;simpa using this
  have hd':items.toList.drop (i+1)=yH.map (λq=>Value.ref q.2.1):=by
   have:=congrArg List.tail hd;simpa using this
  show wpAny _ A.in1 (pyNext (.ref I) >>= _) _ _ _;refine wpAny_bind (next_tuple_item (A:=A.in1) hit ht hx λh1 it1 sb1=> ?_);have hb1:IsTup h1 q.2.1 #[key,q.2.2]:=zbt hb λo e=>(sb1.2 _ hbI).trans e;have hm1:h1.DictOf knd D kvs:=hm.at λo e=>(sb1.2 D hDI).trans e;dsimp only;refine wpAny_bind (wpAny_holding ?_);refine wpAny_bind (wpAny_tryCatch (zlF (s:= {s with heap:=h1}) hb1 ?_));dsimp only;refine wpAny_holding (wpAny_dictSet_pairs (s:= {s with heap:=h1}) hk hm1 (λh2 hm2 sb2=> ?_) (by have:=hsz;simp only[List.length_cons]at this;omega));refine wpAny_pure ⟨plainId_quiet jS _,?_⟩;have hlen:(stored kvs q.1 q.2.2).length<=kvs.length+1:=by
   unfold stored
   split <;> simp
  refine zc6 hh hIt hDt hDI yH (i+1) (stored kvs q.1 q.2.2) _ _ _ (let⟨o,ho,r⟩:=it1;⟨o,(sb2.2 I (Ne.symm hDI)).trans ho,r⟩) ?_ hm2 hd' (λq' m=> ?_) (by simp only[List.length_cons]at hsz;omega) λh' tk a b=> ?_
  ·obtain⟨o,ho,r⟩:=ht
   exact⟨o,(sb2.2 t (Ne.symm hDt)).trans ((sb1.2 t (Ne.symm hIt)).trans ho),r⟩
  ·obtain⟨⟨key',hk',hb'⟩,hbI',hbD'⟩:=hq q' (.tail _ m)
   exact⟨⟨key',hk',zbt hb' λo e=>(sb2.2 _ hbD').trans ((sb1.2 _ hbI').trans e)⟩,hbI',hbD'⟩
  ·refine h h' tk a λc o c1 c2 e=>b c o c1 c2 ((sb2.2 c c2).trans ((sb1.2 c c1).trans e))
theorem zic {K:Type}[DecidableEq K]{knd:KeyKind prog w K}{t:Addr}{n:Nat}{sl:Array (Option Value)}{yH:List (K×Addr×Value)}{Q:Value->Shared->Prop}(hh:A.handled=none)
  (ht:s.heap.get? t=some {cls:= .type "tuple",dict:=none,data:= .seq (yH.map λq=>Value.ref q.2.1).toArray n,slots:=sl})
  (hq: ∀q∈yH,∃key,knd.is q.1 key=true/\IsTup s.heap q.2.1 #[key,q.2.2]) (hsz:yH.length<=sizeLine)
  (h: ∀h' tk,h'.DictOf knd s.heap.objs.size (merged [] (yH.map λq=>(q.1,q.2.2)))->(∀b o,s.heap.get? b=some o->h'.get? b=some o)->Q (.ref s.heap.objs.size) {s with heap:=h',toks:=tk}):
  wpAny (model prog w) A (call (.type "dict") [.ref t]) Q E s:=by
 refine callType_codes (Q₁:=λobj s₁=>obj= .ref s.heap.objs.size/\s₁= {s with heap:=s.heap.push {cls:= .type "dict",data:= .dict #[]}}) F.kt_called_dict (F.kt_typeCall_dict_1 _) F.entry_dict_init (kt_code_dict_new _ ⟨rfl,rfl⟩) ?_;rintro obj s₁ ⟨rfl,rfl⟩;have hnew:(s.heap.push {cls:= .type "dict",data:= .dict #[]}).DictOf knd s.heap.objs.size []:=Heap.DictOf.new s.heap;have ht1:(s.heap.push {cls:= .type "dict",data:= .dict #[]}).get? t=some {cls:= .type "tuple",dict:=none,data:= .seq (yH.map λq=>Value.ref q.2.1).toArray n,slots:=sl} :=Heap.get?_push_of_some _ ht;refine⟨hnew.typeIs,F.args_dict_init_2 _ _,?_⟩;unfold Builtin.«dict.__init__»;refine wpAny_bind ?_;unfold Builtin.Dict.selfAndRest;refine wpAny_bind (wpAny_notOrdered_dict hnew.typeIs ?_);show wpAny _ _ (pure (s.heap.objs.size,[Value.ref t])) _ _ _;refine wpAny_pure ?_;show wpAny _ _ (Builtin.Dict.updateFrom "dict.__init__" s.heap.objs.size (.ref t) [] .none) _ _ _;unfold Builtin.Dict.updateFrom;refine wpAny_bind (wpAny_typeOf (T:= "tuple") ⟨_,ht1,rfl⟩ ?_);rw[if_pos (by decide)];refine wpAny_bind (zki ht1 hh λh1 tk k1=> ?_);rw[if_pos (show(none:Option Value).isNone=true from rfl)];refine wpAny_bind (wpAny_rule ?_);have ht2:=k1 _ _ ht1;have hD1:h1.DictOf knd s.heap.objs.size []:=hnew.at λo e=>k1 _ o e;refine wpAny_bind (iter_tuple (s:= {s with heap:=h1,toks:=tk}) ⟨_,ht2,rfl,_,rfl⟩ ?_);have lD:s.heap.objs.size < h1.objs.size:=by obtain⟨o,es,ep,ho,_⟩:=id hD1;exact Heap.lt_size ho
 have lt:t < s.heap.objs.size:=Heap.lt_size ht;refine wpAny_pure ⟨plainId_quiet jS _,?_⟩;refine zc6 (A:=A.in1) (knd:=knd) (t:=t) (items:=(yH.map λq=>Value.ref q.2.1).toArray) hh (Nat.ne_of_gt (Nat.lt_trans lt lD)) (Nat.ne_of_gt lt) (Nat.ne_of_lt lD) yH 0 [] _ _ {s with heap:=h1.push {cls:= .type "tuple_iterator",data:= .fields #[.ref t,.int 0 0]},toks:=tk} ⟨_,Heap.get?_push_size _ rfl,rfl,rfl⟩ ⟨_,Heap.get?_push_of_some _ ht2,rfl,_,rfl⟩ (hD1.push _) (by simp) (λq m=> ?_) (by simpa using hsz) λh' tk' a b=> ?_
 ·obtain⟨key,hk,hb⟩:=hq q m
  have lb:q.2.1 < s.heap.objs.size:=hb.lt;exact⟨⟨key,hk,zbt hb λo e=>Heap.get?_push_of_some _ (k1 _ _ (Heap.get?_push_of_some _ e))⟩,Nat.ne_of_lt (Nat.lt_trans lb lD),Nat.ne_of_lt lb⟩
 ·refine⟨rfl,h h' tk' a λc o e=> ?_⟩
  have lc:=Heap.lt_size e;exact b c o (Nat.ne_of_lt (Nat.lt_trans lc lD)) (Nat.ne_of_lt lc) (Heap.get?_push_of_some _ (k1 _ _ (Heap.get?_push_of_some _ e)))
end
end L2
namespace L2
open PySem PySem.Spec PyProof.Rows PySem.W
section
variable {X:Cx} {pins:List (Addr×Obj)} {σ:St} {H:Hp} {s:Shared}
def gE (K:Frag)(H:Hp):List Addr->List (z7×V)->Prop:=Paired λa (q:z7×V)=>xQ K H a [kV q.1,q.2]
theorem zf6: ∀{as:List Addr} {its:List Value},zH (as.map V.ref) its->its=as.map Value.ref
 | [],_,.nil=>rfl
 | a::as,_,.cons r t=>by
  cases r;rw[zf6 t];rfl
theorem zf7 {pins:List (Addr×Obj)}{σ:St}(ok:z5 X pins σ H s): ∀{as:List Addr} {ps:List (z7×V)},gE X.K H as ps->
  ∃yH:List (z7×Addr×Value),yH.map (·.2.1)=as/\KV ps (yH.map λq=>(q.1,q.2.2))/\∀q∈yH,∃key,(x6 X.prog X.w).is q.1 key=true/\IsTup s.heap q.2.1 #[key,q.2.2]
 | _,_,.nil=>⟨[],rfl,.nil,λ_ m=>nomatch m⟩
 | a::as,q::ps,.cons e t=>by
  obtain⟨yH,r1,r2,r3⟩:=zf7 ok t;obtain⟨its,rv,tp,_⟩:=ok.tuple e;obtain⟨u1,u2,rfl,g1,g2⟩:=rv.two;refine⟨(q.1,a,u2)::yH,by rw[List.map_cons,r1],.cons ⟨rfl,g2⟩ r2,λq' m=> ?_⟩;rcases List.mem_cons.mp m with rfl | m
  ·exact⟨u1,qJ g1,tp⟩
  ·exact r3 q' m
theorem zib (hc:X.calm=true):vD X (.type "dict") (λxs H Q=> ∃(t:Addr) (as:List Addr) (ps:List (z7×V)),xs= [.ref t]/\xQ X.K H t (as.map V.ref)/\gE X.K H as ps/\∀p,H p=none->Q (.ref p) (zJ H p (.dK (uQ [] ps)))):=by
 intro pins s σ H xs us Q I r h;obtain⟨t,as,ps,rfl,ht,hp,q⟩:=h;obtain⟨u,rfl,ru⟩:=qY r;cases ru;obtain⟨its,rv,⟨o,e1,e3,n,e4,hd⟩,hz⟩:=I.tupleD ht;cases zf6 rv;obtain⟨yH,r1,r2,r3⟩:=zf7 I hp;have hl:=mN r2;rw[List.length_map]at hl;have hz':yH.length<=sizeLine:=by
  rw[List.length_map,<- r1,List.length_map]at hz;exact hz
 obtain⟨c,dct,dat,sl⟩:=o;dsimp only at hd e3 e4;subst hd e3 e4;have ea:as.map Value.ref=yH.map λq=>Value.ref q.2.1:=by rw[<- r1,List.map_map];rfl
 rw[ea]at e1;refine zic (knd:=x6 X.prog X.w) (I.ok.hd hc) e1 r3 hz' λh' tk dd k=> ?_;refine⟨.ref s.heap.objs.size,_,I.laid (t':=tk) (o:= .dK (uQ [] ps)) k (Nat.le_refl _) ?_,rfl,q _ I.fresh⟩;refine mH ?_ (beq_eq_false_iff_ne.mpr (Ne.symm (Nat.ne_of_lt I.big))) (KV.merge r2 .nil) dd;have:=mO ps [];simp only[List.length_nil,Nat.zero_add]at this;exact Nat.le_trans this (by rw[hl];exact hz')
end
end L2
namespace L2
open PySem PySem.Spec PyProof.Rows PySem.W
section
variable {X:Cx} {es:List Expr} {t:TA} {pos:Pos}
end
end L2
namespace L2
open PySem PySem.Spec PyProof.Rows PySem.W
def zgQ:List (Str×Int)->Str->Int
 | [],_=>0
 | q::l,x=>if q.1=x then q.2 else zgQ l x
end L2
namespace L2
open PySem PySem.Spec PyProof.Rows PySem.W
end L2
namespace L2
open PySem PySem.Spec PyProof.Rows PySem.W
end L2
namespace L2
open PySem PySem.Spec PyProof.Rows
section
variable {prog:Program} {w:World} {A:Around} {h:Heap} {g:Array GenState} {d:Drawn} {t:Nat} {os:OsState}
variable {nm q:Str} {C N f:Addr} {bs bm:List Value} {hdct:Bool} {sn:List Str} {sub:List Value} {ab:Bool} {col:Option Bool} {dd:Option Addr} {k0 k1 k2 k3 k5:Option Value}
end
end L2
namespace L2
open PySem PySem.Spec PyProof.Rows
section
variable {prog:Program} {w:World} {A:Around} {E:Value->Shared->Prop} {h:Heap} {g:Array GenState} {d:Drawn} {t:Nat} {os:OsState}
variable {nm q:Str} {C N f e:Addr} {bs bm:List Value} {hdct:Bool} {sn:List Str} {sub:List Value} {ab:Bool} {col:Option Bool} {dd od:Option Addr} {k0 k1 k2 k3 k5:Option Value} {t0:Addr}
end
end L2
namespace L2
open PySem PySem.Spec PyProof.Rows Builtin Builtin.ObjectAttr
section
variable {prog:Program} {w:World} {A:Around} {E:Value->Shared->Prop} {s:Shared} {K:Frag} {C HE e t0:Addr} {cd:ClassData} {name:Str} {v:Value}
end
end L2
namespace L2
open PySem PySem.Spec PyProof.Rows Builtin Builtin.ObjectAttr
section
variable {prog:Program} {w:World} {A:Around} {E:Value->Shared->Prop} {s:Shared} {K:Frag} {C HE e t0 dx:Addr} {cd:ClassData} {name:Str} {v:Value} {od:Obj}
end
end L2
namespace L2
open PySem PySem.Spec PyProof.Rows Builtin Builtin.ObjectAttr
section
variable {prog:Program} {w:World} {A:Around} {E:Value->Shared->Prop} {s:Shared} {K:Frag} {C HE e:Addr} {cd:ClassData} {ox:Obj} {odo:Option Obj}
end
end L2
namespace L2
open PySem PySem.Spec PyProof.Rows
abbrev TJ:=St->Hp->Str->VK->Prop
section
variable {X:Cx} {e e2:Expr} {es:List Expr} {te:TE} {t:TJ} {pos:Pos}
end
section
variable {X:Cx} {CX:t6} {k:Nat} {f C HE:Addr} {fd:FuncData} {ps:List Str} {sp:Sp} {ds:List Value} {dvs:List V} {E:XK}
variable {x:Str} {p pos apos pos':Pos} {e o value:Expr} {es:List Expr} {te ta tv:TE} {t:TA}
end
end L2
namespace L2
open PySem PySem.Spec PyProof.Rows
section
variable {X:Cx} {elts:List Expr} {k:Nat} {pos':Pos}
end
end L2
namespace L3
open PySem PySem.Spec PyProof.Rows L2
abbrev St:=L2.St
structure qZ where
 f:Addr
 o:Obj
 q:Str
 c:Addr
 c':Addr
 oz:Obj
 dd:Addr
 kvs:List (List Int×Int)
inductive PV where
 | non | bl (b:Bool) | int (i:Int) | str (x:Str) | ty (n:String)
 | tup (xs:List PV) | lst (xs:List PV) | dct (kvs:List (z7×PV)) | itb (kvs:List (List Int×Int)) | clo (D:qZ) | obj (n:Nat)
def zbl (kvs:List (List Int×Int)):List (List z7×V):=kvs.map λp=>(p.1.map Sum.inl,V.int p.2)
inductive PO where
 | lst (xs:List PV) | dct (kvs:List (z7×PV)) | tbl (T:Addr) (pos:Pos) (q:Str) | itb (kvs:List (List Int×Int)) | rcd (kvs:List (z7×PV)) | fd (o:Obj) (kvs:List (z7×PV))
abbrev z4:=List PO
abbrev zF:=List (Option PV)
abbrev K3:=PV->z4->Prop
def zh0 (K:Frag)(a:Addr)(vs:List V):Prop:= ∃(o:Obj) (its:Array Value) (n:Nat),K.lookup a=some o/\o.cls= .type "tuple" /\o.dict=none/\o.data= .seq its n/\its.size<=sizeLine/\zH vs its.toList
def zhz (K:Frag)(a:Addr)(vs:List V):Prop:= ∃(o:Obj) (its:Array Value) (n:Nat),K.lookup a=some o/\o.cls= .type "list" /\o.dict=none/\o.data= .seq its n/\its.size<=sizeLine/\zH vs its.toList/\o.slots= #[]
def sK (K:Frag)(A:List Addr)(H:Hp)(a:Addr)(vs:List V):Prop:=(Rd H a (.tup vs)/\a∉A)∨zh0 K a vs
def sI (K:Frag)(A:List Addr)(H:Hp)(a:Addr)(vs:List V):Prop:=(Rd H a (.lst vs)/\a∉A)∨zhz K a vs
def zgY (A:List Addr)(H:Hp)(a:Addr)(us:List (z7×V)):Prop:=H a=some (.dK us)/\a∉A
structure zgW (A:List Addr)(H:Hp)(D:qZ):Prop where
 fn:H D.f=some (.ext (zbN D.f D.o))/\D.f∉A
 cd:H D.c'=some (.ext (zb8 D.c' D.q))/\D.c'∉A
 cl:H D.c=some (.ext (zbN D.c D.oz))/\D.c∉A
 dt:H D.dd=some (.dT (zbl D.kvs))/\D.dd∉A
mutual
inductive RV (K:Frag)(A:List Addr)(H:Hp):PV->V->Prop
 | non:RV K A H .non .non
 | bl (b:Bool):RV K A H (.bl b) (.bl b)
 | int (i:Int):RV K A H (.int i) (.int i)
 | str (x:Str):RV K A H (.str x) (.str x)
 | ty (n:String):RV K A H (.ty n) (.ty n)
 | tup {xs:List PV} {a:Addr} {vs:List V} :sK K A H a vs->vs.length<=sizeLine->RVs K A H xs vs->RV K A H (.tup xs) (.ref a)
 | lst {xs:List PV} {a:Addr} {vs:List V} :sI K A H a vs->vs.length<=sizeLine->RVs K A H xs vs->RV K A H (.lst xs) (.ref a)
 | dct {kvs:List (z7×PV)} {a:Addr} {us:List (z7×V)} :zgY A H a us->us.length<=sizeLine->RKs K A H kvs us->RV K A H (.dct kvs) (.ref a)
 | itb {kvs:List (List Int×Int)} {a:Addr} :H a=some (.dT (zbl kvs))->a∉A->RV K A H (.itb kvs) (.ref a)
 | clo {D:qZ} :zgW A H D->RV K A H (.clo D) (.ref D.f)
inductive RVs (K:Frag)(A:List Addr)(H:Hp):List PV->List V->Prop
 | nil:RVs K A H [] []
 | cons {x:PV} {v:V} {xs:List PV} {vs:List V} :RV K A H x v->RVs K A H xs vs->RVs K A H (x::xs) (v::vs)
inductive RKs (K:Frag)(A:List Addr)(H:Hp):List (z7×PV)->List (z7×V)->Prop
 | nil:RKs K A H [] []
 | cons {k:z7} {x:PV} {v:V} {xs:List (z7×PV)} {vs:List (z7×V)} :RV K A H x v->RKs K A H xs vs->RKs K A H ((k,x)::xs) ((k,v)::vs)
end
structure zZ (A:List Addr)(H:Hp)(A':List Addr)(H':Hp):Prop where
 ext: ∃B,A'=A++B/\∀b∈B,H b=none
 keep: ∀b o,H b=some o->b∉A->H' b=some o
 live: ∀b,H b≠none->H' b≠none
theorem zZ.refl (A:List Addr)(H:Hp):zZ A H A H:=⟨⟨[],by simp,by simp⟩,λ_ _ h _=>h,λ_ h=>h⟩
theorem zZ.out {A A':List Addr}{H H':Hp}(g:zZ A H A' H'){b:Addr}{o:HO}(h:H b=some o)(n:b∉A):b∉A':=by
 obtain⟨B,rfl,hB⟩:=g.ext;intro m;rcases List.mem_append.mp m with m | m
 ·exact n m
 ·rw[hB b m]at h;cases h
theorem zZ.trans {A A1 A2:List Addr}{H H1 H2:Hp}(g:zZ A H A1 H1)(g':zZ A1 H1 A2 H2):zZ A H A2 H2:=by
 refine⟨?_,λb o h n=>g'.keep b o (g.keep b o h n) (g.out h n),λb h=>g'.live b (g.live b h)⟩;obtain⟨B,rfl,hB⟩:=g.ext;obtain⟨C,rfl,hC⟩:=g'.ext;refine⟨B++C,by simp,λb m=> ?_⟩;rcases List.mem_append.mp m with m | m
 ·exact hB b m
 ·by_cases h:H b=none
  ·exact h
  ·exact absurd (hC b m) (g.live b h)
theorem zZ.sub {A A':List Addr}{H H':Hp}(g:zZ A H A' H'){i:Nat}{a:Addr}(h:A[i]?=some a):A'[i]?=some a:=by
 obtain⟨B,rfl,_⟩:=g.ext;rw[List.getElem?_append_left (List.getElem?_eq_some_iff.mp h).1];exact h
theorem zZ.new {A:List Addr}{H:Hp}{p:Addr}{o:HO}(h:H p=none):zZ A H A (zJ H p o):=by
 refine⟨⟨[],by simp,by simp⟩,λb u e _=>by rw[yK (tY e h)];exact e,λb hb=> ?_⟩;by_cases e:b=p
 ·subst e;rw[yQ];exact Option.some_ne_none _
 ·rw[yK e];exact hb
theorem zZ.newObj {A:List Addr}{H:Hp}{p:Addr}{o:HO}(h:H p=none):zZ A H (A++ [p]) (zJ H p o):=by
 refine⟨⟨[p],rfl,λb m=>by rw[List.mem_singleton.mp m];exact h⟩,(zZ.new (A:=A) h).keep,(zZ.new (A:=A) h).live⟩
theorem zZ.put {A:List Addr}{H:Hp}{p:Addr}{o:HO}(h:p∈A):zZ A H A (zJ H p o):=by
 refine⟨⟨[],by simp,by simp⟩,λb u e n=>by rw[yK (λz=>n (by rw[z];exact h))];exact e,λb hb=> ?_⟩;by_cases e:b=p
 ·subst e;rw[yQ];exact Option.some_ne_none _
 ·rw[yK e];exact hb
section
variable {K:Frag} {A A':List Addr} {H H':Hp}
theorem sK.sq {a:Addr}{vs:List V}(h:sK K A H a vs):xQ K H a vs:=h.imp And.left id
theorem sI.sq {a:Addr}{vs:List V}(h:sI K A H a vs):yW K H a vs:=h.imp And.left id
theorem Rd.grow {a:Addr}{u:HO}(g:zZ A H A' H')(h:Rd H a u/\a∉A):Rd H' a u/\a∉A':=by
 obtain⟨h | ⟨o,h⟩,n⟩:=h
 ·exact⟨.inl (g.keep _ _ h n),g.out h n⟩
 ·exact⟨.inr ⟨o,g.keep _ _ h n⟩,g.out h n⟩
theorem sK.grow {a:Addr}{vs:List V}(g:zZ A H A' H')(h:sK K A H a vs):sK K A' H' a vs:=h.imp (Rd.grow g) id
theorem sI.grow {a:Addr}{vs:List V}(g:zZ A H A' H')(h:sI K A H a vs):sI K A' H' a vs:=h.imp (Rd.grow g) id
mutual
theorem RV.grow (g:zZ A H A' H'){x:PV}{v:V} :RV K A H x v->RV K A' H' x v
 | .non=> .non
 | .bl b=> .bl b
 | .int i=> .int i
 | .str x=> .str x
 | .ty n=> .ty n
 | .tup t z r=> .tup (t.grow g) z (RVs.grow g r)
 | .lst t z r=> .lst (t.grow g) z (RVs.grow g r)
 | .dct t z r=> .dct ⟨g.keep _ _ t.1 t.2,g.out t.1 t.2⟩ z (RKs.grow g r)
 | .itb e n=> .itb (g.keep _ _ e n) (g.out e n)
 | .clo h=> .clo ⟨⟨g.keep _ _ h.fn.1 h.fn.2,g.out h.fn.1 h.fn.2⟩,⟨g.keep _ _ h.cd.1 h.cd.2,g.out h.cd.1 h.cd.2⟩,⟨g.keep _ _ h.cl.1 h.cl.2,g.out h.cl.1 h.cl.2⟩,⟨g.keep _ _ h.dt.1 h.dt.2,g.out h.dt.1 h.dt.2⟩⟩
theorem RVs.grow (g:zZ A H A' H'){xs:List PV}{vs:List V} :RVs K A H xs vs->RVs K A' H' xs vs
 | .nil=> .nil
 | .cons r t=> .cons (RV.grow g r) (RVs.grow g t)
theorem RKs.grow (g:zZ A H A' H'){xs:List (z7×PV)}{vs:List (z7×V)} :RKs K A H xs vs->RKs K A' H' xs vs
 | .nil=> .nil
 | .cons r t=> .cons (RV.grow g r) (RKs.grow g t)
end
theorem RVs.len {xs:List PV}{vs:List V} :RVs K A H xs vs->xs.length=vs.length
 | .nil=>rfl
 | .cons _ t=>by rw[List.length_cons,List.length_cons,RVs.len t]
theorem RKs.len {xs:List (z7×PV)}{vs:List (z7×V)} :RKs K A H xs vs->xs.length=vs.length
 | .nil=>rfl
 | .cons _ t=>by rw[List.length_cons,List.length_cons,RKs.len t]
theorem RVs.append {xs ys:List PV}{vs ws:List V} :RVs K A H xs vs->RVs K A H ys ws->RVs K A H (xs++ys) (vs++ws)
 | .nil,h=>h
 | .cons r t,h=> .cons r (RVs.append t h)
theorem RVs.get {xs:List PV}{vs:List V}{i:Nat}{x:PV}(h:RVs K A H xs vs)(e:xs[i]?=some x): ∃v,vs[i]?=some v/\RV K A H x v:=by
 induction i generalizing xs vs with
 | zero=>cases h with
  | nil=>cases e
  | cons r t=>simp at e;subst e;exact⟨_,rfl,r⟩
 | succ i ih=>cases h with
  | nil=>cases e
  | cons r t=>simpa using ih t (by simpa using e)
theorem RVs.get' {xs:List PV}{vs:List V}{i:Nat}{v:V}(h:RVs K A H xs vs)(e:vs[i]?=some v): ∃x,xs[i]?=some x/\RV K A H x v:=by
 induction i generalizing xs vs with
 | zero=>cases h with
  | nil=>cases e
  | cons r t=>simp at e;subst e;exact⟨_,rfl,r⟩
 | succ i ih=>cases h with
  | nil=>cases e
  | cons r t=>simpa using ih t (by simpa using e)
theorem RVs.drop {xs:List PV}{vs:List V}(h:RVs K A H xs vs)(n:Nat):RVs K A H (xs.drop n) (vs.drop n):=by
 induction n generalizing xs vs with
 | zero=>exact h
 | succ n ih=>cases h with
  | nil=>exact .nil
  | cons r t=>exact ih t
theorem RVs.take {xs:List PV}{vs:List V}(h:RVs K A H xs vs)(n:Nat):RVs K A H (xs.take n) (vs.take n):=by
 induction n generalizing xs vs with
 | zero=>exact .nil
 | succ n ih=>cases h with
  | nil=>exact .nil
  | cons r t=>exact .cons r (ih t)
theorem RVs.reverse {xs:List PV}{vs:List V}(h:RVs K A H xs vs):RVs K A H xs.reverse vs.reverse:=by
 induction xs generalizing vs with
 | nil=>cases h;exact .nil
 | cons x xs ih=>cases h with
  | cons r t=>rw[List.reverse_cons,List.reverse_cons];exact(ih t).append (.cons r .nil)
inductive RE (K:Frag)(A:List Addr)(H:Hp):PV->V->Prop
 | val {x:PV} {v:V} :RV K A H x v->RE K A H x v
 | obj {i:Nat} {a:Addr} :A[i]?=some a->RE K A H (.obj i) (.ref a)
theorem RE.grow (g:zZ A H A' H'){x:PV}{v:V} :RE K A H x v->RE K A' H' x v
 | .val r=> .val (r.grow g)
 | .obj e=> .obj (g.sub e)
abbrev yT (K:Frag)(A:List Addr)(H:Hp):List PV->List V->Prop:=Paired (RE K A H)
theorem yT.grow (g:zZ A H A' H'){xs:List PV}{vs:List V} :yT K A H xs vs->yT K A' H' xs vs
 | .nil=> .nil
 | .cons r t=> .cons (r.grow g) (yT.grow g t)
inductive RR (K:Frag)(A:List Addr)(H:Hp)(a:Addr):PV->V->Prop
 | val {x:PV} {v:V} :RV K A H x v->RR K A H a x v
 | obj {i j:Nat} {p:Addr} :A[i]?=some a->j < i->A[j]?=some p->RR K A H a (.obj j) (.ref p)
abbrev xP (K:Frag)(A:List Addr)(H:Hp)(a:Addr):List (z7×PV)->List (z7×V)->Prop:=Paired λp q=>p.1=q.1/\RR K A H a p.2 q.2
theorem RR.grow (g:zZ A H A' H'){a:Addr}{x:PV}{v:V} :RR K A H a x v->RR K A' H' a x v
 | .val r=> .val (r.grow g)
 | .obj e l e'=> .obj (g.sub e) l (g.sub e')
theorem xP.grow (g:zZ A H A' H'){a:Addr}{xs:List (z7×PV)}{vs:List (z7×V)} :xP K A H a xs vs->xP K A' H' a xs vs
 | .nil=> .nil
 | .cons r t=> .cons ⟨r.1,r.2.grow g⟩ (xP.grow g t)
def OA (K:Frag)(A:List Addr)(H:Hp)(a:Addr):PO->Prop
 | .lst xs=> ∃vs,H a=some (.lst vs)/\RVs K A H xs vs/\vs.length<=sizeLine
 | .dct kvs=> ∃us,H a=some (.dK us)/\RKs K A H kvs us/\us.length<=sizeLine
 | .tbl T pos q=>a=T/\∃ps,H a=some (.tbl ps)/\(ps= #[]∨∃c',ps= #[rawInt pos.line,rawInt pos.col,.ref c']/\H c'=some (.ext (zb8 c' q))/\c'∉A)
 | .itb kvs=>H a=some (.dT (zbl kvs))
 | .rcd kvs=> ∃us,H a=some (.dK us)/\xP K A H a kvs us/\us.length<=sizeLine
 | .fd ob kvs=> ∃us,H a=some (.frz ob (.dK us))/\RKs K A H kvs us/\us.length<=sizeLine
structure RS (K:Frag)(A:List Addr)(H:Hp)(st:z4):Prop where
 nd:A.Nodup
 len:A.length=st.length
 at_: ∀(i:Nat) (a:Addr) (o:PO),A[i]?=some a->st[i]?=some o->OA K A H a o
structure x9 (K:Frag)(A:List Addr)(H:Hp)(σ:St)(env:zF)(st:z4):Prop where
 rs:RS K A H st
 len:env.length=σ.length
 at_: ∀(i:Nat) (x:PV),env[i]?=some (some x)->∃v,σ[i]?=some (some v)/\RE K A H x v
theorem x9.grow {σ:St}{env:zF}{st st':z4}(r:x9 K A H σ env st)(g:zZ A H A' H')(s:RS K A' H' st'):x9 K A' H' σ env st':=
 ⟨s,r.len,λi x e=>let⟨v,e1,r1⟩:=r.at_ i x e;⟨v,e1,r1.grow g⟩⟩
theorem OA.move {a:Addr}{o:PO}(h:OA K A H a o)(g:zZ A H A' H')(e:H' a=H a):OA K A' H' a o:=by
 cases o with
 | lst xs=>obtain⟨vs,h,r,z⟩:=h;exact⟨vs,by rw[e];exact h,r.grow g,z⟩
 | dct xs=>obtain⟨vs,h,r,z⟩:=h;exact⟨vs,by rw[e];exact h,r.grow g,z⟩
 | tbl T pos q=>
  obtain⟨ea,ps,h,r⟩:=h;refine⟨ea,ps,by rw[e];exact h,r.imp id ?_⟩;rintro⟨c',e1,e2,e3⟩;exact⟨c',e1,g.keep _ _ e2 e3,g.out e2 e3⟩
 | itb kvs=>exact e.trans h
 | rcd xs=>obtain⟨vs,h,r,z⟩:=h;exact⟨vs,by rw[e];exact h,xP.grow g r,z⟩
 | fd ob xs=>obtain⟨vs,h,r,z⟩:=h;exact⟨vs,by rw[e];exact h,r.grow g,z⟩
theorem OA.some {a:Addr}{o:PO}(h:OA K A H a o):H a≠none:=by
 cases o with
 | lst xs=>obtain⟨vs,h,r⟩:=h;rw[h];exact Option.some_ne_none _
 | dct xs=>obtain⟨vs,h,r⟩:=h;rw[h];exact Option.some_ne_none _
 | tbl T pos q=>obtain⟨_,ps,h,r⟩:=h;rw[h];exact Option.some_ne_none _
 | itb kvs=>rw[show H a=_ from h];exact Option.some_ne_none _
 | rcd xs=>obtain⟨vs,h,r⟩:=h;rw[h];exact Option.some_ne_none _
 | fd ob xs=>obtain⟨vs,h,r⟩:=h;rw[h];exact Option.some_ne_none _
theorem RS.has {st:z4}(r:RS K A H st){a:Addr}(h:a∈A): ∃(i:Nat) (o:PO),A[i]?=some a/\st[i]?=some o/\OA K A H a o:=by
 obtain⟨i,hi,e⟩:=List.getElem_of_mem h;have hs:i < st.length:=by rw[<- r.len];exact hi
 have e1:A[i]?=some a:=by rw[List.getElem?_eq_getElem hi,e]
 have e2:st[i]?=some st[i]:=List.getElem?_eq_getElem hs;exact⟨i,st[i],e1,e2,r.at_ i a _ e1 e2⟩
theorem RS.live {st:z4}(r:RS K A H st){a:Addr}(h:a∈A):H a≠none:=let⟨_,_,_,_,o⟩:=r.has h;o.some
theorem RS.move {st:z4}(r:RS K A H st)(g:zZ A H A H')(e: ∀a∈A,H' a=H a):RS K A H' st:=
 ⟨r.nd,r.len,λi a o h1 h2=>(r.at_ i a o h1 h2).move g (e a (List.mem_of_getElem? h1))⟩
theorem RS.fresh {st:z4}(r:RS K A H st){p:Addr}(h:H p=none):p∉A:=λm=>r.live m h
theorem RS.new {st:z4}(r:RS K A H st){p:Addr}{o:HO}(h:H p=none):RS K A (zJ H p o) st:=
 r.move (.new h) λa m=>yK λz=>r.fresh h (z▸m)
theorem RS.newObj {st:z4}(r:RS K A H st){p:Addr}{o:HO}{q:PO}(h:H p=none)(hq:OA K (A++ [p]) (zJ H p o) p q):RS K (A++ [p]) (zJ H p o) (st++ [q]):=by
 refine⟨?_,by rw[List.length_append,List.length_append,r.len];rfl,λi a u h1 h2=> ?_⟩
 ·refine List.nodup_append.mpr ⟨r.nd,by simp,λa ha b hb=> ?_⟩
  rw[List.mem_singleton.mp hb];exact λz=>r.fresh h (z▸ha)
 ·by_cases hi:i < A.length
  ·rw[List.getElem?_append_left hi]at h1
   rw[List.getElem?_append_left (by rw[<- r.len];exact hi)]at h2;exact(r.at_ i a u h1 h2).move (.newObj h) (yK λz=>r.fresh h (z▸List.mem_of_getElem? h1))
  ·have hi':i=A.length:=by
    have:=(List.getElem?_eq_some_iff.mp h1).1;rw[List.length_append,List.length_singleton]at this;omega
   subst hi';rw[List.getElem?_append_right (Nat.le_refl _),Nat.sub_self]at h1;rw[r.len,List.getElem?_append_right (Nat.le_refl _),Nat.sub_self]at h2;cases h1;cases h2;exact hq
theorem RS.put {st:z4}(r:RS K A H st){i:Nat}{p:Addr}{o:HO}{q:PO}(h:A[i]?=some p)(hq:OA K A (zJ H p o) p q):RS K A (zJ H p o) (st.set i q):=by
 have hp:=List.mem_of_getElem? h;refine⟨r.nd,by rw[List.length_set];exact r.len,λj a u h1 h2=> ?_⟩;by_cases hij:i=j
 ·subst hij
  rw[h]at h1;cases h1;rw[List.getElem?_set_self (by rw[<- r.len];exact(List.getElem?_eq_some_iff.mp h).1)]at h2;cases h2;exact hq
 ·rw[List.getElem?_set_ne hij]at h2
  refine(r.at_ j a u h1 h2).move (.put hp) (yK λz=>hij ?_);subst z;exact(List.getElem?_inj (List.getElem?_eq_some_iff.mp h).1 r.nd).mp (h.trans h1.symm)
end
end L3
namespace L3
open PySem PySem.Spec PyProof.Rows L2
abbrev zA:=zF->z4->K3->Prop
abbrev xA:=zF->z4->(Bool->z4->Prop)->Prop
abbrev yI:=zF->z4->(List PV->z4->Prop)->Prop
structure xR where
 nx:zF->z4->Prop
 rt:K3
 bk:zF->z4->Prop:=λ_ _=>False
 ct:zF->z4->Prop:=λ_ _=>False
abbrev yU:=xR->zF->z4->Prop
abbrev wC:=PV->zF->z4->(zF->z4->Prop)->Prop
abbrev tH:=List PV->zF->z4->(zF->z4->Prop)->Prop
abbrev xY:=Option (Nat×PO)
abbrev uL:=zF->z4->(xY->List PV->z4->Prop)->Prop
abbrev R3:=PV->PV->z4->K3->Prop
abbrev y6:=List PV->z4->K3->Prop
def w9 (K:Frag)(A:List Addr)(H:Hp)(Q3:K3)(Q:VK):Prop:= ∀A' H' st' r v,zZ A H A' H'->RS K A' H' st'->RE K A' H' r v->Q3 r st'->Q v H'
def kB (K:Frag)(A:List Addr)(H:Hp)(Q3:Bool->z4->Prop)(Q:Bool->Hp->Prop):Prop:= ∀A' H' st' b,zZ A H A' H'->RS K A' H' st'->Q3 b st'->Q b H'
def zhc (K:Frag)(A:List Addr)(H:Hp)(Q3:List PV->z4->Prop)(Q:List V->Hp->Prop):Prop:= ∀A' H' st' rs vs,zZ A H A' H'->RS K A' H' st'->yT K A' H' rs vs->Q3 rs st'->Q vs H'
def q9 (K:Frag)(A:List Addr)(H:Hp)(P3:zF->z4->Prop)(P:St->Hp->Prop):Prop:= ∀A' H' σ' env' st',zZ A H A' H'->x9 K A' H' σ' env' st'->P3 env' st'->P σ' H'
structure kA (K:Frag)(A:List Addr)(H:Hp)(D3:xR)(D:sG):Prop where
 nx:q9 K A H D3.nx D.nx
 rt:w9 K A H D3.rt D.rt
 bk:q9 K A H D3.bk D.bk
 ct:q9 K A H D3.ct D.ct
section
variable {K:Frag} {A A1:List Addr} {H H1:Hp}
theorem w9.after {Q3:K3}{Q:VK}(f:w9 K A H Q3 Q)(g:zZ A H A1 H1):w9 K A1 H1 Q3 Q:=λA' H' st' r v g'=>f A' H' st' r v (g.trans g')
theorem kB.after {Q3:Bool->z4->Prop}{Q:Bool->Hp->Prop}(f:kB K A H Q3 Q)(g:zZ A H A1 H1):kB K A1 H1 Q3 Q:=λA' H' st' r g'=>f A' H' st' r (g.trans g')
theorem q9.after {Q3:zF->z4->Prop}{Q:St->Hp->Prop}(f:q9 K A H Q3 Q)(g:zZ A H A1 H1):q9 K A1 H1 Q3 Q:=λA' H' σ' e' st' g'=>f A' H' σ' e' st' (g.trans g')
theorem kA.after {D3:xR}{D:sG}(f:kA K A H D3 D)(g:zZ A H A1 H1):kA K A1 H1 D3 D:=⟨f.nx.after g,f.rt.after g,f.bk.after g,f.ct.after g⟩
theorem w9.now {Q3:K3}{Q:VK}(f:w9 K A H Q3 Q){st:z4}{r:PV}{v:V}(s:RS K A H st)(e:RE K A H r v)(q:Q3 r st):Q v H:=f A H st r v (.refl _ _) s e q
end
def zL (K:Frag)(T:zA):TE:=λσ H Q=> ∃A env st Q3,x9 K A H σ env st/\T env st Q3/\w9 K A H Q3 Q
def xB (K:Frag)(T:xA):TT:=λσ H Q=> ∃A env st Q3,x9 K A H σ env st/\T env st Q3/\kB K A H Q3 Q
def vW (K:Frag)(T:yI):TA:=λσ H Q=> ∃A env st Q3,x9 K A H σ env st/\T env st Q3/\zhc K A H Q3 Q
def xK (K:Frag)(T:yU):TS:=λD σ H=> ∃A env st D3,x9 K A H σ env st/\T D3 env st/\kA K A H D3 D
def vX (K:Frag)(G:wC):TG:=λv σ H Q=> ∃A env st x Q3,x9 K A H σ env st/\RE K A H x v/\G x env st Q3/\q9 K A H Q3 Q
def mD (K:Frag)(G:tH):uB:=λvs σ H Q=> ∃A env st xs Q3,x9 K A H σ env st/\yT K A H xs vs/\G xs env st Q3/\q9 K A H Q3 Q
def xN (K:Frag)(R:R3):R2:=λv w H Q=> ∃A st x y Q3,RS K A H st/\RE K A H x v/\RE K A H y w/\R x y st Q3/\w9 K A H Q3 Q
def gX (K:Frag)(R:PV->z4->K3->Prop):V->Hp->VK->Prop:=λv H Q=> ∃A st x Q3,RS K A H st/\RE K A H x v/\R x st Q3/\w9 K A H Q3 Q
def sN (K:Frag)(R:y6):List V->Hp->VK->Prop:=λvs H Q=> ∃A st xs Q3,RS K A H st/\yT K A H xs vs/\R xs st Q3/\w9 K A H Q3 Q
def zN (K:Frag)(S:y6):Sp:=λvs H Q _=>sN K S vs H Q
section
variable {X:Cx} {a b c e:Expr} {es:List Expr} {pos p p2:Pos} {Ta Tb Tc:zA} {TA:yI} {tc td:xA}
theorem xW {t t':TE}(h:PE X e t)(w: ∀σ H Q,t' σ H Q->t σ H Q):PE X e t':=⟨λpins s σ H Q I q=>h pins s σ H Q I (w σ H Q q)⟩
theorem za2 {t t':TT}(h:PT X e t)(w: ∀σ H Q,t' σ H Q->t σ H Q):PT X e t':=⟨λpins s σ H Q I q=>h pins s σ H Q I (w σ H Q q)⟩
theorem zfu {t t':TT}(h:PW X e t)(w: ∀σ H Q,t' σ H Q->t σ H Q):PW X e t':=⟨λwh pins s σ H Q I q=>h wh pins s σ H Q I (w σ H Q q)⟩
theorem zfc {t t':L2.TA}(h:PA X es t)(w: ∀σ H Q,t' σ H Q->t σ H Q):PA X es t':=⟨λpos pins s σ H Q I q=>h pos pins s σ H Q I (w σ H Q q)⟩
theorem zmg {t t':TT}(h:PF X es t)(w: ∀σ H Q,t' σ H Q->t σ H Q):PF X es t':=⟨λpins s σ H Q I q=>h pins s σ H Q I (w σ H Q q)⟩
theorem sA {st:Stmt}{t t':TS}(h:PS X st t)(w: ∀D σ H,t' D σ H->t D σ H):PS X st t':=⟨λpins s σ H D I q=>h pins s σ H D I (w D σ H q)⟩
theorem jT {st:List Stmt}{t t':TS}(h:xI X st t)(w: ∀D σ H,t' D σ H->t D σ H):xI X st t':=⟨λpins s σ H D I q=>h pins s σ H D I (w D σ H q)⟩
theorem za0 {tg:Expr}{t t':TG}(h:PG X tg t)(w: ∀v σ H Q,t' v σ H Q->t v σ H Q):PG X tg t':=⟨λpins s σ H v u Q I r q=>h pins s σ H v u Q I r (w v σ H Q q)⟩
theorem zfm {tg:List Expr}{t t':uB}(h:vU X tg t)(w: ∀v σ H Q,t' v σ H Q->t v σ H Q):vU X tg t':=⟨λpins s σ H v u Q I r q=>h pins s σ H v u Q I r (w v σ H Q q)⟩
def vR (i:Nat):zA:=λenv st Q=>match env[i]? with | some (some x)=>Q x st | _=>False
theorem zit {K:Frag}{i:Nat}{σ:St}{H:Hp}{Q:VK} :zL K (vR i) σ H Q->iJ i σ H Q:=by
 rintro⟨A,env,st,Q3,rel,h,k⟩;unfold vR at h
 split at h
 ·rename_i x e
  obtain⟨v,e1,r⟩:=rel.at_ i x e;exact⟨v,e1,k.now rel.rs r h⟩
 ·exact h.elim
theorem qv (i:Nat){x:Str}{pos:Pos}(hN:X.N[i]?=some x:=by rfl)(hv:gK X.env.scope x:=by first | exact Or.inl rfl | exact Or.inr (Or.inl rfl) | exact Or.inr (Or.inr rfl))(hd:(x==("__debug__" :Str))=false:=by decide)
  (hcd:(x==("__classdict__" :Str))=false:=by decide):PE X (.Name x pos) (zL X.K (vR i)):=xW (zay hN hv hd hcd) λ_ _ _=>zit
def vC (x:PV):zA:=λ_ st Q=>Q x st
theorem kT {K:Frag}{x:PV}{v:V}(hr: ∀A H,RE K A H x v){σ:St}{H:Hp}{Q:VK} :zL K (vC x) σ H Q->tC v σ H Q:=by
 rintro⟨A,env,st,Q3,rel,h,k⟩;exact k.now rel.rs (hr A H) h
theorem z8 {i j pos} :PE X (.Constant (.int i) j pos) (zL X.K (vC (.int i))):=xW zlU λ_ _ _=>kT λ_ _=> .val (.int i)
theorem zI {x j pos} :PE X (.Constant (.str x) j pos) (zL X.K (vC (.str x))):=xW zax λ_ _ _=>kT λ_ _=> .val (.str x)
theorem mV {b j pos} :PE X (.Constant (.bool b) j pos) (zL X.K (vC (.bl b))):=xW zlJ λ_ _ _=>kT λ_ _=> .val (.bl b)
theorem zmJ {x:Str}{n:String}{pos:Pos}(hg:Gl X x)(hm:X.mg x=none)(hv:bootBuiltins x=some (.type n))(hn:x≠ "__name__" :=by decide)(hd:(x==("__debug__" :Str))=false:=by decide):PE X (.Name x pos) (zL X.K (vC (.ty n))):=
 xW (zlK (v:= .ty n) hg hm hv rfl hn hd) λ_ _ _=>kT λ_ _=> .val (.ty n)
def q0 (R:R3)(Ta Tb:zA):zA:=λenv st Q=>Ta env st λx st1=>Tb env st1 λy st2=>R x y st2 Q
theorem kW {K:Frag}{R:R3}{σ:St}{H:Hp}{Q:VK} :zL K (q0 R Ta Tb) σ H Q->lM (xN K R) (zL K Ta) (zL K Tb) σ H Q:=by
 rintro⟨A,env,st,Q3,rel,h,k⟩;exact⟨A,env,st,_,rel,h,λA1 H1 st1 x v g1 s1 e1 h1=>⟨A1,env,st1,_,rel.grow g1 s1,h1,λA2 H2 st2 y w g2 s2 e2 h2=>⟨A2,st2,x,y,Q3,s2,e1.grow g2,e2,h2,k.after (g1.trans g2)⟩⟩⟩
theorem zY {op:Operator}{R:R3}(ho:yG X (binaryOp op) (xN X.K R))(ha:PE X a (zL X.K Ta))(hb:PE X b (zL X.K Tb)):PE X (.BinOp a op b pos) (zL X.K (q0 R Ta Tb)):=xW (zma ho ha hb) λ_ _ _=>kW
theorem rR {op:CmpOp}{R:R3}(ho:yG X (compareOp op) (xN X.K R))(ha:PE X a (zL X.K Ta))(hb:PE X b (zL X.K Tb))(hm:behindInMarks op b=false):PE X (.Compare a [op] [b] pos) (zL X.K (q0 R Ta Tb)):=xW (zlR ho ha hb hm) λ_ _ _=>kW
theorem zG {R:R3}(hr:rB X (xN X.K R))(ha:PE X a (zL X.K Ta))(hb:PE X b (zL X.K Tb))(hs:zbX b):PE X (.Subscript a b pos) (zL X.K (q0 R Ta Tb)):=xW (zlV hr ha hb hs) λ_ _ _=>kW
def vUn (R:PV->z4->K3->Prop)(Ta:zA):zA:=λenv st Q=>Ta env st λx st1=>R x st1 Q
theorem zis {K:Frag}{R:PV->z4->K3->Prop}{σ:St}{H:Hp}{Q:VK} :zL K (vUn R Ta) σ H Q->tUn (gX K R) (zL K Ta) σ H Q:=by
 rintro⟨A,env,st,Q3,rel,h,k⟩;exact⟨A,env,st,_,rel,h,λA1 H1 st1 x v g1 s1 e1 h1=>⟨A1,st1,x,Q3,s1,e1,h1,k.after g1⟩⟩
theorem jV {op:UnaryOp}{R:PV->z4->K3->Prop}(ho:nW X (unaryOp op) (gX X.K R))(ha:PE X a (zL X.K Ta)):PE X (.UnaryOp op a pos) (zL X.K (vUn R Ta)):=xW (zmd ho ha) λ_ _ _=>zis
def lO (T:zA):xA:=λenv st Q=>T env st λx st1=>match x with | .bl k=>Q k st1 | _=>False
theorem zir {K:Frag}{T:zA}{σ:St}{H:Hp}{Q:Bool->Hp->Prop} :xB K (lO T) σ H Q->zgu (zL K T) σ H Q:=by
 rintro⟨A,env,st,Q3,rel,h,k⟩;refine⟨A,env,st,_,rel,h,λA1 H1 st1 x v g1 s1 e1 h1=> ?_⟩;cases x with
 | bl b=>
  cases e1 with
  | val e1=>cases e1;exact⟨b,rfl,k A1 H1 st1 b g1 s1 h1⟩
 | _=>exact False.elim h1
theorem yE {op:CmpOp}{R:R3}(ho:yG X (compareOp op) (xN X.K R))(ha:PE X a (zL X.K Ta))(hb:PE X b (zL X.K Tb))(hm:behindInMarks op b=false):PT X (.Compare a [op] [b] pos) (xB X.K (lO (q0 R Ta Tb))):=by
 refine za2 (zm7 ho ha hb hm) λσ H Q h=> ?_;have:=zir h;exact kW this
def tN:PV->z4->(Bool->Prop)->Prop
 | .non,_,k=>k false
 | .bl b,_,k=>k b
 | .int i,_,k=>k (i !=0)
 | .str x,_,k=>x.length<=sizeLine/\k ((x.length:Int) !=0)
 | .tup xs,_,k=>k (!xs.isEmpty)
 | .lst xs,_,k=>k (!xs.isEmpty)
 | .dct xs,_,k=>k (!xs.isEmpty)
 | .obj i,st,k=>match st[i]? with | some (.lst xs)=>k (!xs.isEmpty) | some (.dct xs)=>k (!xs.isEmpty) | _=>False
 | _,_,_=>False
def zgN (T:zA):xA:=λenv st Q=>T env st λx st1=>tN x st1 λk=>Q k st1
theorem RVs.empty {K:Frag}{A:List Addr}{H:Hp}{xs:List PV}{vs:List V}(h:RVs K A H xs vs):vs.isEmpty=xs.isEmpty:=by
 cases h <;> rfl
theorem RKs.empty {K:Frag}{A:List Addr}{H:Hp}{xs:List (z7×PV)}{vs:List (z7×V)}(h:RKs K A H xs vs):vs.isEmpty=xs.isEmpty:=by
 cases h <;> rfl
theorem zop {K:Frag}{A:List Addr}{H:Hp}{st:z4}{x:PV}{v:V}{P:Bool->Prop}(s:RS K A H st)(e:RE K A H x v)(h:tN x st P): ∃k,gJ K v H k/\P k:=by
 cases e with
 | obj e=>
  dsimp only[tN]at h
  split at h
  ·rename_i xs q
   obtain⟨vs,h1,h2,_⟩:=s.at_ _ _ _ e q;exact⟨_,.inl ⟨vs,.of h1,by rw[h2.empty]⟩,h⟩
  ·rename_i xs q
   obtain⟨vs,h1,h2,_⟩:=s.at_ _ _ _ e q;exact⟨_,.inr (.inr ⟨vs,h1,by rw[h2.empty]⟩),h⟩
  ·exact h.elim
 | val e=>
  cases e with
  | non=>exact⟨_,rfl,h⟩
  | bl b=>exact⟨_,rfl,h⟩
  | int i=>exact⟨_,rfl,h⟩
  | str y=>exact⟨_,⟨h.1,rfl⟩,h.2⟩
  | ty n=>exact False.elim h
  | tup t z r=>exact⟨_,.inr (.inl ⟨_,t.sq,by rw[r.empty]⟩),h⟩
  | lst t z r=>exact⟨_,.inl ⟨_,t.sq,by rw[r.empty]⟩,h⟩
  | dct t z r=>exact⟨_,.inr (.inr ⟨_,t.1,by rw[r.empty]⟩),h⟩
  | itb e n=>exact False.elim h
  | clo e=>exact False.elim h
theorem jX (ha:PE X a (zL X.K Ta))(he: ∀whole,isTrue a X.env whole=(do let v <- whole;standAt a.pos;holding [v] (truthy v)):=by intro _;rfl):PT X a (xB X.K (zgN Ta)):=by
 refine za2 (zm9 ha he) λσ H Q ⟨A,env,st,Q3,rel,h,k⟩=> ?_;refine⟨A,env,st,_,rel,h,λA1 H1 st1 x v g1 s1 e1 h1=> ?_⟩;obtain⟨b,hb,q⟩:=zop s1 e1 h1;exact⟨b,hb,k A1 H1 st1 b g1 s1 q⟩
def iO (t u:xA):xA:=λenv st Q=>t env st λc st1=>if c=true then u env st1 Q else Q false st1
def vOr (t u:xA):xA:=λenv st Q=>t env st λc st1=>if c=true then Q true st1 else u env st1 Q
def zgI (t:xA):xA:=λenv st Q=>t env st λc st1=>Q (!c) st1
theorem zio {K:Frag}{t u:xA}{σ:St}{H:Hp}{Q:Bool->Hp->Prop} :xB K (iO t u) σ H Q->zgo (xB K t) (xB K u) σ H Q:=by
 rintro⟨A,env,st,Q3,rel,h,k⟩;refine⟨A,env,st,_,rel,h,λA1 H1 st1 c g1 s1 h1=> ?_⟩;cases c with
 | true=>exact⟨A1,env,st1,Q3,rel.grow g1 s1,h1,k.after g1⟩
 | false=>exact k A1 H1 st1 false g1 s1 h1
theorem ziq {K:Frag}{t u:xA}{σ:St}{H:Hp}{Q:Bool->Hp->Prop} :xB K (vOr t u) σ H Q->tOr (xB K t) (xB K u) σ H Q:=by
 rintro⟨A,env,st,Q3,rel,h,k⟩;refine⟨A,env,st,_,rel,h,λA1 H1 st1 c g1 s1 h1=> ?_⟩;cases c with
 | false=>exact⟨A1,env,st1,Q3,rel.grow g1 s1,h1,k.after g1⟩
 | true=>exact k A1 H1 st1 true g1 s1 h1
variable {yH:List Expr}
theorem qN (ha:PT X a (xB X.K tc)):PW X (.BoolOp .And [a] pos) (xB X.K tc):=zmB ha
theorem jY (ha:PT X a (xB X.K tc)):PW X (.BoolOp .Or [a] pos) (xB X.K tc):=zmD ha
theorem qM (ha:PT X a (xB X.K tc))(hb:PW X (.BoolOp .And (b::yH) pos) (xB X.K td)):PW X (.BoolOp .And (a::b::yH) pos) (xB X.K (iO tc td)):=zfu (zmA ha hb) λ_ _ _=>zio
theorem mX (ha:PT X a (xB X.K tc))(hb:PW X (.BoolOp .Or (b::yH) pos) (xB X.K td)):PW X (.BoolOp .Or (a::b::yH) pos) (xB X.K (vOr tc td)):=zfu (zmC ha hb) λ_ _ _=>ziq
theorem zmR (ha:PT X a (xB X.K tc)):PT X (.UnaryOp .Not a pos) (xB X.K (zgI tc)):=za2 (zm8 ha) λσ H Q ⟨A,env,st,Q3,rel,h,k⟩=>⟨A,env,st,_,rel,h,λA1 H1 st1 c g1 s1 h1=>k A1 H1 st1 (!c) g1 s1 h1⟩
def zg9 (Ta Tb:zA):zA:=λenv st Q=>Ta env st λx st1=>match x with | .bl c=>if c=true then Tb env st1 Q else Q (.bl false) st1 | _=>False
def zo9 (Ta Tb:zA):zA:=λenv st Q=>Ta env st λx st1=>match x with | .bl c=>if c=true then Q (.bl true) st1 else Tb env st1 Q | _=>False
def zo8 (Ta:zA):zA:=λenv st Q=>Ta env st λx st1=>match x with | .bl c=>Q (.bl (!c)) st1 | _=>False
theorem zfw {op}(h:PE X a (zL X.K Ta)):PE X (.BoolOp op [a] pos) (zL X.K Ta):=zlZ h
theorem zfv (ha:PE X a (zL X.K Ta))(hb:PE X (.BoolOp .And (b::yH) pos) (zL X.K Tb)):PE X (.BoolOp .And (a::b::yH) pos) (zL X.K (zg9 Ta Tb)):=by
 refine xW (zlI ha hb) λσ H Q ⟨A,env,st,Q3,rel,h,k⟩=>⟨A,env,st,_,rel,h,λA1 H1 st1 x v g1 s1 e1 h1=> ?_⟩;cases x with
 | bl c=>
  cases e1 with
  | val e1=>
   cases e1;refine⟨c,rfl,?_⟩;cases c with
   | true=>exact⟨A1,env,st1,Q3,rel.grow g1 s1,h1,k.after g1⟩
   | false=>exact k A1 H1 st1 _ _ g1 s1 (.val (.bl _)) h1
 | _=>exact False.elim h1
def vIf (t:xA)(Ta Tb:zA):zA:=λenv st Q=>t env st λc st1=>if c=true then Ta env st1 Q else Tb env st1 Q
def o7:yI:=λ_ st Q=>Q [] st
def t5 (Ta:zA)(Tr:yI):yI:=λenv st Q=>Ta env st λx st1=>Tr env st1 λxs st2=>Q (x::xs) st2
theorem z6:PA X [] (vW X.K o7):=zfc zfb λσ H Q ⟨A,env,st,Q3,rel,h,k⟩=>k A H st [] [] (.refl _ _) rel.rs .nil h
theorem z3 (ha:PE X e (zL X.K Ta))(hr:PA X es (vW X.K TA))(hs:starEach (e::es) X.env=(false,eval e X.env)::starEach es X.env:=by rfl):PA X (e::es) (vW X.K (t5 Ta TA)):=
 zfc (zav ha hr hs) λσ H Q ⟨A,env,st,Q3,rel,h,k⟩=>⟨A,env,st,_,rel,h,λA1 H1 st1 x v g1 s1 e1 h1=>⟨A1,env,st1,_,rel.grow g1 s1,h1,λA2 H2 st2 xs vs g2 s2 e2 h2=>k A2 H2 st2 _ _ (g1.trans g2) s2 (.cons (e1.grow g2) e2) h2⟩⟩
def yP:PV->Bool
 | .obj _=>false
 | _=>true
def uS (xs:List PV):Bool:=xs.all yP&&Nat.ble xs.length 1000
theorem RE.rv {K:Frag}{A:List Addr}{H:Hp}{x:PV}{v:V}(e:RE K A H x v)(h:yP x=true):RV K A H x v:=by
 cases e with
 | val e=>exact e
 | obj e=>cases h
theorem yT.rvs {K:Frag}{A:List Addr}{H:Hp} : ∀{xs:List PV} {vs:List V},yT K A H xs vs->xs.all yP=true->RVs K A H xs vs
 | _,_,.nil,_=> .nil
 | _,_,.cons r t,h=>by
  rw[List.all_cons,Bool.and_eq_true]at h;exact .cons (r.rv h.1) (yT.rvs t h.2)
theorem uS.both {xs:List PV}(h:uS xs=true):xs.all yP=true/\xs.length<=sizeLine:=by
 unfold uS at h;rw[Bool.and_eq_true]at h;exact⟨h.1,Nat.le_trans (Nat.le_of_ble_eq_true h.2) (by decide)⟩
def zgO (T:yI):zA:=λenv st Q=>T env st λxs st1=>uS xs=true/\Q (.tup xs) st1
def zgC (T:yI):zA:=λenv st Q=>T env st λxs st1=>uS xs=true/\Q (.lst xs) st1
def zgD (T:yI):zA:=λenv st Q=>T env st λxs st1=>uS xs=true/\Q (.obj st1.length) (st1++ [.lst xs])
theorem yO {x1}(h:PA X es (vW X.K TA)):PE X (.Tuple es x1 pos) (zL X.K (zgO TA)):=by
 refine xW (zfj h) λσ H Q ⟨A,env,st,Q3,rel,h,k⟩=>⟨A,env,st,_,rel,h,λA1 H1 st1 xs vs g1 s1 e1 h1=> ?_⟩;obtain⟨o1,o2⟩:=uS.both h1.1;have hr:=e1.rvs o1;have hl:=hr.len;refine⟨by rw[<- hl];exact o2,λp hp=>k A1 _ st1 _ _ (g1.trans (.new hp)) (s1.new hp) (.val (.tup (.inl ⟨.inl yQ,s1.fresh hp⟩) (by rw[<- hl];exact o2) (hr.grow (.new hp)))) h1.2⟩
theorem u6 (h:PA X es (vW X.K TA)):PE X (.List es pos) (zL X.K (zgC TA)):=by
 refine xW (zfi h) λσ H Q ⟨A,env,st,Q3,rel,h,k⟩=>⟨A,env,st,_,rel,h,λA1 H1 st1 xs vs g1 s1 e1 h1=> ?_⟩;obtain⟨o1,o2⟩:=uS.both h1.1;have hr:=e1.rvs o1;have hl:=hr.len;refine⟨by rw[<- hl];exact o2,λp hp=>k A1 _ st1 _ _ (g1.trans (.new hp)) (s1.new hp) (.val (.lst (.inl ⟨.inl yQ,s1.fresh hp⟩) (by rw[<- hl];exact o2) (hr.grow (.new hp)))) h1.2⟩
theorem jK {A:List Addr}{n:Nat}{p:Addr}(h:A.length=n):(A++ [p])[n]?=some p:=by
 subst h;rw[List.getElem?_append_right (Nat.le_refl _),Nat.sub_self];rfl
theorem tL (h:PA X es (vW X.K TA)):PE X (.List es pos) (zL X.K (zgD TA)):=by
 refine xW (zfi h) λσ H Q ⟨A,env,st,Q3,rel,h,k⟩=>⟨A,env,st,_,rel,h,λA1 H1 st1 xs vs g1 s1 e1 h1=> ?_⟩;obtain⟨o1,o2⟩:=uS.both h1.1;have hr:=e1.rvs o1;have hl:=hr.len;refine⟨by rw[<- hl];exact o2,λp hp=>k (A1++ [p]) _ _ _ _ (g1.trans (.newObj hp)) (s1.newObj (q:= .lst xs) hp ⟨vs,yQ,hr.grow (.newObj hp),by rw[<- hl];exact o2⟩) (.obj (jK s1.len)) h1.2⟩
def rZ (R:y6)(T:yI):zA:=λenv st Q=>T env st λxs st1=>R xs st1 Q
theorem gY {K:Frag}{R:y6}{σ:St}{H:Hp}{Q:VK} :zL K (rZ R TA) σ H Q->tCB (sN K R) (vW K TA) σ H Q:=by
 rintro⟨A,env,st,Q3,rel,h,k⟩;exact⟨A,env,st,_,rel,h,λA1 H1 st1 xs vs g1 s1 e1 h1=>⟨A1,st1,xs,Q3,s1,e1,h1,k.after g1⟩⟩
theorem xO {x:Str}{id:String}{R:y6}(hc:vD X (.builtin id) (sN X.K R))(hg:Gl X x)(hm:X.mg x=none)(hv:bootBuiltins x=some (.builtin id))(ha:PA X (e::es) (vW X.K TA))(hn:x≠ "__name__" :=by decide)(hdb:(x==("__debug__" :Str))=false:=by decide)
  (he:starEach (e::es) X.env=(false,eval e X.env)::starEach es X.env:=by rfl) (hpl:(backTo pos (starEach es X.env)).any (·.1)=false:=by rfl):PE X (.Call (.Name x p) (e::es) [] pos) (zL X.K (rZ R TA)):=
 xW (zlO hc hg hm hv ha hn hdb he hpl) λ_ _ _=>gY
theorem u5 {x:Str}{T:String}{R:y6}(hc:vD X (.type T) (sN X.K R))(hg:Gl X x)(hm:X.mg x=none)(hv:bootBuiltins x=some (.type T))(ha:PA X (e::es) (vW X.K TA))(hn:x≠ "__name__" :=by decide)(hdb:(x==("__debug__" :Str))=false:=by decide)
  (he:starEach (e::es) X.env=(false,eval e X.env)::starEach es X.env:=by rfl) (hpl:(backTo pos (starEach es X.env)).any (·.1)=false:=by rfl):PE X (.Call (.Name x p) (e::es) [] pos) (zL X.K (rZ R TA)):=
 xW (zlP hc hg hm hv ha hn hdb he hpl) λ_ _ _=>gY
theorem zK {x:Str}{S:y6}{k:Nat}{f:Addr}{fd:FuncData}{ps:List Str}(F:zP X.prog X.w X.K X.mg X.base zQ k f fd ps (zN X.K S))(hr:y4 k X.A)(hg:Gl X x)(hm:X.mg x=some (.ref f))(hk:keepIn X.K (.ref f)=true)(hb:x5 X.K fd ps [])
  (ha:PA X (e::es) (vW X.K TA)) (hdb:(x==("__debug__" :Str))=false:=by decide) (he:starEach (e::es) X.env=(false,eval e X.env)::starEach es X.env:=by rfl) (hpl:(backTo pos (starEach es X.env)).any (·.1)=false:=by rfl):
  PE X (.Call (.Name x p) (e::es) [] pos) (zL X.K (rZ S TA)):=by
 refine xW (zlN F hr hg hm hk hb .nil zlG ha hdb he hpl) λσ H Q h=> ?_;obtain⟨A,env,st,Q3,rel,h,k⟩:=gY h;refine⟨A,env,st,Q3,rel,h,λA1 H1 st1 rs vs g1 s1 e1 h1=> ?_⟩;show zN X.K S (vs++ []) H1 Q E0;rw[List.append_nil];exact k A1 H1 st1 rs vs g1 s1 e1 h1
variable {sts rst:List Stmt} {stm:Stmt} {Ts Tu:yU}
def zbz:yU:=λD env st=>D.nx env st
def uK (t u:yU):yU:=λD env st=>t {D with nx:=u D} env st
theorem xF:xI X [] (xK X.K zbz):=jT zm5 λD σ H ⟨A,env,st,D3,rel,h,k⟩=>k.nx A H σ env st (.refl _ _) rel h
theorem zM (h:PS X stm (xK X.K Ts)):xI X [stm] (xK X.K Ts):=zm6 h
theorem zD (h1:PS X stm (xK X.K Ts))(h2:xI X rst (xK X.K Tu)):xI X (stm::rst) (xK X.K (uK Ts Tu)):=
 jT (mU h1 h2) λD σ H ⟨A,env,st,D3,rel,h,k⟩=>⟨A,env,st,_,rel,h,λA1 H1 σ1 env1 st1 g1 r1 h1=>⟨A1,env1,st1,D3,r1,h1,k.after g1⟩,k.rt,k.bk,k.ct⟩
def zo2:yU:=λD env st=>D.bk env st
def zo4:yU:=λD env st=>D.ct env st
def iQ (T:zA):yU:=λD env st=>T env st λ_ st1=>D.nx env st1
theorem wO (he:PE X e (zL X.K Ta))(hs:swapsWith e none pos.line X.env=pure false:=by rfl):PS X (.Expr e pos) (xK X.K (iQ Ta)):=
 sA (zmy he hs) λD σ H ⟨A,env,st,D3,rel,h,k⟩=>⟨A,env,st,_,rel,h,λA1 H1 st1 x v g1 s1 e1 h1=>k.nx A1 H1 σ env st1 g1 (rel.grow g1 s1) h1⟩
def zgK (T:zA):yU:=λD env st=>T env st D.rt
theorem yN (he:PE X e (zL X.K Ta)):PS X (.Return (some e) pos) (xK X.K (zgK Ta)):=sA (zm3 he) λD σ H ⟨A,env,st,D3,rel,h,k⟩=>⟨A,env,st,_,rel,h,k.rt⟩
def zoB:yU:=λD _ st=>D.rt .non st
def iR (c:xA)(t u:yU):yU:=λD env st=>c env st λb st1=>if b=true then t D env st1 else u D env st1
theorem yV (hc:PT X c (xB X.K tc))(ha:xI X sts (xK X.K Ts))(hb:xI X rst (xK X.K Tu)):PS X (.If c sts rst pos) (xK X.K (iR tc Ts Tu)):=by
 refine sA (zm0 hc ha hb) λD σ H ⟨A,env,st,D3,rel,h,k⟩=>⟨A,env,st,_,rel,h,λA1 H1 st1 b g1 s1 h1=> ?_⟩;cases b with
 | true=>exact⟨A1,env,st1,D3,rel.grow g1 s1,h1,k.after g1⟩
 | false=>exact⟨A1,env,st1,D3,rel.grow g1 s1,h1,k.after g1⟩
variable {Tg:wC} {Tgs:tH}
def gN (i:Nat):wC:=λx env st Q=>Q (env.set i (some x)) st
theorem x9.set {K:Frag}{A:List Addr}{H:Hp}{σ:St}{env:zF}{st:z4}(r:x9 K A H σ env st)(i:Nat){x:PV}{v:V}(e:RE K A H x v):x9 K A H (σ.set i (some v)) (env.set i (some x)) st:=by
 refine⟨r.rs,by rw[List.length_set,List.length_set];exact r.len,λj y h=> ?_⟩;by_cases hij:i=j
 ·subst hij
  have hl:i < env.length:=by have:=(List.getElem?_eq_some_iff.mp h).1;simpa using this
  rw[List.getElem?_set_self hl]at h;cases h;exact⟨v,List.getElem?_set_self (by rw[<- r.len];exact hl),e⟩
 ·rw[List.getElem?_set_ne hij]at h
  rw[List.getElem?_set_ne hij];exact r.at_ j y h
theorem kU {K:Frag}{i:Nat}{v:V}{σ:St}{H:Hp}{Q:St->Hp->Prop} :vX K (gN i) v σ H Q->j6 i v σ H Q:=by
 rintro⟨A,env,st,x,Q3,rel,e,h,k⟩;exact k A H _ _ st (.refl _ _) (rel.set i e) h
theorem yF {i:Nat}{x:Str}(hN:X.N.Nodup)(hi:X.N[i]?=some x)(hx:sH X.env.scope x)(hf:X.fn x=true∨X.env.scope.names.lookup x=some .local:=by first | exact .inl rfl | exact .inr rfl | assumption):PG X (.Name x pos) (vX X.K (gN i)):=
 za0 (zmi hN hi hx hf) λ_ _ _ _=>kU
def gsN:tH:=λxs env st Q=>match xs with | []=>Q env st | _=>False
def gsC (g:wC)(gs:tH):tH:=λxs env st Q=>match xs with | x::r=>g x env st λenv1 st1=>gs r env1 st1 Q | []=>False
theorem uV:vU X [] (mD X.K gsN):=by
 refine zfm zfl λvs σ H Q ⟨A,env,st,xs,Q3,rel,e,h,k⟩=> ?_;cases e with
 | nil=>exact⟨rfl,k A H σ env st (.refl _ _) rel h⟩
 | cons r t=>exact False.elim h
theorem xE (h1:PG X e (vX X.K Tg))(h2:vU X es (mD X.K Tgs))(hs:(assignEach (e::es) X.env).map (·.2)=assign e X.env::(assignEach es X.env).map (·.2):=by rfl):vU X (e::es) (mD X.K (gsC Tg Tgs)):=by
 refine zfm (za1 h1 h2 hs) λvs σ H Q ⟨A,env,st,xs,Q3,rel,e,h,k⟩=> ?_;cases e with
 | nil=>exact False.elim h
 | cons r t=>exact⟨_,_,rfl,A,env,st,_,_,rel,r,h,λA1 H1 σ1 env1 st1 g1 r1 h1=>⟨A1,env1,st1,_,Q3,r1,yT.grow g1 t,h1,k.after g1⟩⟩
def gT (n:Nat)(gs:tH):wC:=λx env st Q=>match x with | .tup xs=>xs.length=n/\gs xs env st Q | .lst xs=>xs.length=n/\gs xs env st Q | _=>False
theorem RVs.res {K:Frag}{A:List Addr}{H:Hp}{xs:List PV}{vs:List V} :RVs K A H xs vs->yT K A H xs vs
 | .nil=> .nil
 | .cons r t=> .cons (.val r) (RVs.res t)
theorem tM {k:Nat}{n:Nat}(hc:X.calm=true)(h:vU X es (mD X.K Tgs))(hn:(assignEach es X.env).length=n:=by rfl)(hst:(assignEach es X.env).findIdx? (·.1)=none:=by rfl)
  (hn2:(assignEach es X.env).length=n:=by rfl) (hst2:(assignEach es X.env).findIdx? (·.1)=none:=by rfl):PG X (.Tuple es k pos) (vX X.K (gT n Tgs)):=by
 refine⟨λpins s σ H v u Q I r ⟨A,env,st,x,Q3,rel,e,q,k⟩=> ?_⟩;cases e with
 | obj e=>exact False.elim q
 | val e=>
  cases e with
  | tup t z rs=>exact(zfk hc h hn hst) pins s σ H _ u Q I r ⟨_,_,rfl,t.sq,by rw[<- rs.len];exact q.1,A,env,st,_,Q3,rel,rs.res,q.2,k⟩
  | lst t z rs=>exact(zmh hc h hn hst) pins s σ H _ u Q I r ⟨_,_,rfl,t.sq,by rw[<- rs.len];exact q.1,A,env,st,_,Q3,rel,rs.res,q.2,k⟩
  | _=>exact False.elim q
def nJ (T:zA)(g:wC):yU:=λD env st=>T env st λx st1=>g x env st1 D.nx
theorem kS {K:Frag}{D:sG}{σ:St}{H:Hp} :xK K (nJ Ta Tg) D σ H->lK (zL K Ta) (vX K Tg) D σ H:=by
 rintro⟨A,env,st,D3,rel,h,k⟩;exact⟨A,env,st,_,rel,h,λA1 H1 st1 x v g1 s1 e1 h1=>⟨A1,env,st1,x,D3.nx,rel.grow g1 s1,e1,h1,k.nx.after g1⟩⟩
theorem vQ {tg:Expr}(he:PE X e (zL X.K Ta))(hg:PG X tg (vX X.K Tg))(hs:swapsWithSole [tg] e pos.line X.env=pure false:=by rfl)(hw:swappedStores [tg] e X.env=pure none:=by rfl)
  (h1:(assignEach [tg] X.env).map (·.2)= [assign tg X.env]:=by rfl):PS X (.Assign [tg] e pos) (xK X.K (nJ Ta Tg)):=sA (zfq he hg hs hw h1) λ_ _ _=>kS
theorem zW {i:Nat}{x:Str}{pos':Pos}(hN:X.N.Nodup)(hi:X.N[i]?=some x)(hx:sH X.env.scope x)(he:PE X e (zL X.K Ta))(hs:swapsWith e (some (.Name x pos')) pos.line X.env=pure false:=by rfl)(hf:X.fn x=true∨X.env.scope.names.lookup x=some .local:=by first | exact .inl rfl | exact .inr rfl | assumption):
  PS X (.Assign [.Name x pos'] e pos) (xK X.K (nJ Ta (gN i))):=by
 refine sA (zfr hN hi hx he hs hf) λD σ H h=> ?_;obtain⟨A,env,st,Q3,rel,h,k⟩:=kS h;exact⟨A,env,st,Q3,rel,h,λA1 H1 st1 r v g s e q=>kU (k A1 H1 st1 r v g s e q)⟩
def zgJ (i j:Nat)(T:yI):yU:=λD env st=>T env st λxs st1=>match xs with | [x,y]=>D.nx ((env.set i (some x)).set j (some y)) st1 | _=>False
theorem zmO {i j:Nat}{x y:Str}{px py pt:Pos}{kt k2 pt2}(hc:X.calm=true)(hN:X.N.Nodup)(hi:X.N[i]?=some x)(hj:X.N[j]?=some y)(hij:i≠j)
  (hx:X.env.scope.names.lookup x=some .local) (hy:X.env.scope.names.lookup y=some .local) (ha:PA X [a,b] (vW X.K TA))
  (hw:swappedStores [.Tuple [.Name x px,.Name y py] kt pt] (.Tuple [a,b] k2 pt2) X.env=pure (some [x,y]))
  (hs:swapsWithSole [.Tuple [.Name x px,.Name y py] kt pt] (.Tuple [a,b] k2 pt2) pos.line X.env=pure false:=by rfl):
  PS X (.Assign [.Tuple [.Name x px,.Name y py] kt pt] (.Tuple [a,b] k2 pt2) pos) (xK X.K (zgJ i j TA)):=by
 refine sA (zm2 hc hN hi hj hij hx hy ha hw hs) λD σ H ⟨A,env,st,D3,rel,h,k⟩=>⟨A,env,st,_,rel,h,λA1 H1 st1 xs vs g1 s1 e1 h1=> ?_⟩
 split at h1
 ·rename_i x y
  cases e1 with
  | cons r1 t=>
   cases t with
   | cons r2 t2=>
    cases t2;exact⟨_,_,rfl,k.nx A1 H1 _ _ st1 g1 (((rel.grow g1 s1).set i r1).set j r2) h1⟩
 ·exact h1.elim
end
end L3
namespace L3
open PySem PySem.Spec PyProof.Rows L2
def tP:xY->z4->Prop->Prop
 | none,_,P=>P
 | some (i,o),st,P=>st[i]?=some o/\P
theorem tP.of {src:xY}{st:z4}{P:Prop}(h:tP src st P):P:=by
 cases src with
 | none=>exact h
 | some q=>exact h.2
def jL:xY->z4->Prop
 | none,_=>True
 | some (i,o),st=>st[i]?=some o
theorem tP.ok {src:xY}{st:z4}{P:Prop}(h:tP src st P):jL src st:=by
 cases src with
 | none=>exact trivial
 | some q=>exact h.1
structure qA (K:Frag)(A:List Addr)(H:Hp)(src:xY)(J:It)(xs:List PV):Prop where
 go: ∀(i:Nat) A' H' st,zZ A H A' H'->RS K A' H' st->jL src st->i < xs.length->J.go i H'
 yld: ∀(i:Nat) (x:PV) A' H' st v H2,xs[i]?=some x->zZ A H A' H'->RS K A' H' st->jL src st->J.yld i H' v H2->zZ A' H' A' H2/\RS K A' H2 st/\RE K A' H2 x v
 stop: ∀A' H' st,zZ A H A' H'->RS K A' H' st->jL src st->J.stop xs.length H'
 small:xs.length<=sizeLine
def sM (K:Frag)(I:uL):TI:=λσ H R=> ∃A env st Q3,x9 K A H σ env st/\I env st Q3/\∀A' H' st' src xs J,zZ A H A' H'->RS K A' H' st'->qA K A' H' src J xs->Q3 src xs st'->R J H'
def iY (g:wC)(b:yU)(src:xY)(xs:List PV)(D:xR)(env:zF)(st:z4):Prop:= ∃P:Nat->zF->z4->Prop,P 0 env st/\
 (∀i x env st,xs[i]?=some x->P i env st->tP src st (g x env st λe s=>b {D with nx:=P (i+1),ct:=P (i+1),bk:=D.nx} e s))/\(∀env st,P xs.length env st->tP src st (D.nx env st))
def zgB (I:uL)(g:wC)(b:yU):yU:=λD env st=>I env st λsrc xs st1=>iY g b src xs D env st1
def zoD (c:xA)(b:yU):yU:=λD env st=> ∃W:Nat->zF->z4->Prop,(∃m,W m env st)/\∀m env st,W m env st->
 c env st λt st1=>if t=true then ∃N:zF->z4->Prop,(∀e s,N e s->∃m',m' < m/\W m' e s)/\b {D with nx:=N,ct:=N,bk:=D.nx} env st1 else D.nx env st1
section
variable {X:Cx} {a b c e tg iter:Expr} {es:List Expr} {pos p:Pos} {Ta Tb:zA} {TA:yI} {tc:xA} {Ti:uL} {Tg:wC} {Ts:yU} {body:List Stmt}
theorem jR {wi wi':TI}(h:PI X tg iter wi)(w: ∀σ H R,wi' σ H R->wi σ H R):PI X tg iter wi':=⟨λpins s σ H R I q=>h pins s σ H R I (w σ H R q)⟩
theorem vM (hp:PassesOwn (model X.prog X.w) X.A X.env X.xe)(hc:X.calm=true)(hi:PI X tg iter (sM X.K Ti))(hg:PG X tg (vX X.K Tg))(hb:xI X body (xK X.K Ts))
  (hs: ∀x,foldedSetIterable iter X.env x=pure x:=by intro _;rfl):PS X (.For tg iter body [] pos) (xK X.K (zgB Ti Tg Ts)):=by
 refine sA (zmz hp hc hi hg hb hs) λD σ H ⟨A,env,st,D3,rel,h,k⟩=>⟨A,env,st,_,rel,h,λA1 H1 st1 src xs J g1 s1 it h1=> ?_⟩;obtain⟨P,p0,hP,hE⟩:=h1;refine⟨λi m σ' H'=>m=xs.length - i/\i<=xs.length/\∃A' env' st',zZ A1 H1 A' H'/\x9 X.K A' H' σ' env' st'/\P i env' st',⟨_,rfl,Nat.zero_le _,A1,env,st1,.refl _ _,rel.grow g1 s1,p0⟩,?_⟩;rintro i m σ' H' ⟨rfl,hi,A',env',st',g',rel',p'⟩;by_cases hlt:i < xs.length
 ·have hx:xs[i]?=some xs[i]:=List.getElem?_eq_getElem hlt
  have hw:=hP i _ env' st' hx p';refine .inr ⟨it.go i A' H' st' g' rel'.rs hw.ok hlt,λσ2 H2=>i+1<=xs.length/\∃A' env' st',zZ A1 H1 A' H2/\x9 X.K A' H2 σ2 env' st'/\P (i+1) env' st',λσ2 H2 q=>⟨_,by omega,rfl,q⟩,λv H2 y=> ?_⟩;obtain⟨g2,s2,e2⟩:=it.yld i _ A' H' st' v H2 hx g' rel'.rs hw.ok y;refine⟨A',env',st',_,_,rel'.grow g2 s2,e2,hw.of,λA3 H3 σ3 env3 st3 g3 r3 h3=> ?_⟩;have gg:=g'.trans (g2.trans g3);have k3:=k.after (g1.trans gg);exact⟨A3,env3,st3,_,r3,h3,λA4 H4 σ4 env4 st4 g4 r4 h4=>⟨hlt,A4,env4,st4,gg.trans g4,r4,h4⟩,k3.rt,k3.nx,λA4 H4 σ4 env4 st4 g4 r4 h4=>⟨hlt,A4,env4,st4,gg.trans g4,r4,h4⟩⟩
 ·have e:i=xs.length:=by omega
  subst e;have hw:=hE env' st' p';exact .inl ⟨it.stop A' H' st' g' rel'.rs hw.ok,k.nx A' H' σ' env' st' (g1.trans g') rel' hw.of⟩
theorem za6 (hp:PassesOwn (model X.prog X.w) X.A X.env X.xe)(hc:PT X c (xB X.K tc))(hb:xI X body (xK X.K Ts)):PS X (.While c body [] pos) (xK X.K (zoD tc Ts)):=by
 refine sA (zm4 hp hc hb) λD σ H ⟨A,env,st,D3,rel,h,k⟩=> ?_;obtain⟨W,⟨m0,w0⟩,hW⟩:=h;refine⟨λm σ' H'=> ∃A' env' st',zZ A H A' H'/\x9 X.K A' H' σ' env' st'/\W m env' st',⟨m0,A,env,st,.refl _ _,rel,w0⟩,?_⟩;rintro m σ' H' ⟨A',env',st',g',rel',w'⟩;refine⟨A',env',st',_,rel',hW m env' st' w',λA1 H1 st1 t g1 s1 h1=> ?_⟩;have gg:=g'.trans g1;have kk:=k.after gg;cases t with
 | false=>exact k.nx A1 H1 σ' env' st1 gg (rel'.grow g1 s1) h1
 | true=>
  obtain⟨N,hN,hb1⟩:=h1;refine⟨λσ2 H2=> ∃A2 env2 st2,zZ A H A2 H2/\x9 X.K A2 H2 σ2 env2 st2/\N env2 st2,?_,?_⟩
  ·rintro σ2 H2 ⟨A2,env2,st2,g2,r2,n2⟩
   obtain⟨m',hm,w2⟩:=hN env2 st2 n2;exact⟨m',hm,A2,env2,st2,g2,r2,w2⟩
  ·exact⟨A1,env',st1,_,rel'.grow g1 s1,hb1,λA4 H4 σ4 env4 st4 g4 r4 h4=>⟨A4,env4,st4,gg.trans g4,r4,h4⟩,kk.rt,kk.nx,λA4 H4 σ4 env4 st4 g4 r4 h4=>⟨A4,env4,st4,gg.trans g4,r4,h4⟩⟩
def o9 (own:Nat)(g:wC)(tt:xA)(el:zA)(src:xY)(xs:List PV)(Q:List PV->z4->Prop)(env:zF)(st:z4):Prop:= ∃P:Nat->List PV->zF->z4->Prop,P 0 [] (env++List.replicate own none) st/\
 (∀i x ys env st,xs[i]?=some x->P i ys env st->tP src st (g x env st λe s=>tt e s λb s2=>if b=true then el e s2 λy s3=>yP y=true/\P (i+1) (ys++ [y]) e s3 else P (i+1) ys e s2))/\
 (∀ys env st,P xs.length ys env st->tP src st (Q ys st))
def iP (own:Nat)(I:uL)(g:wC)(tt:xA)(el:zA):zA:=λenv st Q=>I env st λsrc xs st1=>o9 own g tt el src xs (λys st2=>Q (.lst ys) st2) env st1
def zbx (own:Nat)(I:uL)(g:wC)(tt:xA)(el:zA):zA:=λenv st Q=>I env st λsrc xs st1=>o9 own g tt el src xs (λys st2=>Q (.obj st2.length) (st2++ [.lst ys])) env st1
def zgP:xA:=λ_ st Q=>Q true st
theorem mW:PF X [] (xB X.K zgP):=zmg zme λσ H Q ⟨A,env,st,Q3,rel,h,k⟩=>k A H st true (.refl _ _) rel.rs h
theorem pH (h:PT X c (xB X.K tc)):PF X [c] (xB X.K tc):=zmf h
theorem x9.more {K:Frag}{A:List Addr}{H:Hp}{σ:St}{env:zF}{st:z4}(r:x9 K A H σ env st)(n:Nat):x9 K A H (σ++List.replicate n none) (env++List.replicate n none) st:=by
 refine⟨r.rs,by rw[List.length_append,List.length_append,r.len,List.length_replicate,List.length_replicate],λi x h=> ?_⟩;by_cases hi:i < env.length
 ·rw[List.getElem?_append_left hi]at h
  rw[List.getElem?_append_left (by rw[<- r.len];exact hi)];exact r.at_ i x h
 ·rw[List.getElem?_append_right (by omega),List.getElem?_replicate]at h
  split at h <;> cases h
theorem zcw {K:Frag}{own:Nat}{g:wC}{tt:xA}{el:zA}{src:xY}{xs:List PV}{Q3:List PV->z4->Prop}{Q:VK}{A:List Addr}{H:Hp}{σ:St}{env:zF}{st:z4}{J:It}(rel:x9 K A H σ env st)(it:qA K A H src J xs)
  (h:o9 own g tt el src xs Q3 env st) (k: ∀A' H' st' ys vs,zZ A H A' H'->RS K A' H' st'->RVs K A' H' ys vs->vs.length<=sizeLine->Q3 ys st'->∀D,H' D=none->Q (.ref D) (zJ H' D (.lst vs))):zb9 own J (vX K g) (xB K tt) (zL K el) Q σ H:=by
 obtain⟨P,p0,hP,hE⟩:=h;refine⟨λi m vs σ' H'=>m=xs.length - i/\i<=xs.length/\vs.length<=i/\∃A' env' st' ys,zZ A H A' H'/\x9 K A' H' σ' env' st'/\RVs K A' H' ys vs/\P i ys env' st',⟨_,rfl,Nat.zero_le _,Nat.le_refl _,A,_,st,[],.refl _ _,rel.more own,.nil,p0⟩,?_⟩;rintro i m vs σ' H' ⟨rfl,hi,hv,A',env',st',ys,g',rel',rv,p'⟩;by_cases hlt:i < xs.length
 ·have hx:xs[i]?=some xs[i]:=List.getElem?_eq_getElem hlt
  have hw:=hP i _ ys env' st' hx p';refine .inr ⟨it.go i A' H' st' g' rel'.rs hw.ok hlt,Nat.lt_of_lt_of_le (Nat.lt_of_le_of_lt hv hlt) it.small,λvs σ2 H2=>i+1<=xs.length/\vs.length<=i+1/\∃A' env' st' ys,zZ A H A' H2/\x9 K A' H2 σ2 env' st'/\RVs K A' H2 ys vs/\P (i+1) ys env' st',λvs σ2 H2 q=>⟨_,by omega,rfl,q⟩,λv H2 y=> ?_⟩;obtain⟨g2,s2,e2⟩:=it.yld i _ A' H' st' v H2 hx g' rel'.rs hw.ok y;refine⟨A',env',st',_,_,rel'.grow g2 s2,e2,hw.of,λA3 H3 σ3 env3 st3 g3 r3 h3=>⟨A3,env3,st3,_,r3,h3,λA4 H4 st4 b g4 s4 h4=> ?_⟩⟩;have gg:=g2.trans (g3.trans g4);cases b with
  | false=>exact⟨hlt,by omega,A4,env3,st4,ys,g'.trans gg,r3.grow g4 s4,rv.grow gg,h4⟩
  | true=>
   refine⟨A4,env3,st4,_,r3.grow g4 s4,h4,λA5 H5 st5 y v5 g5 s5 e5 h5=>⟨hlt,by rw[List.length_append,List.length_singleton];omega,A5,env3,st5,ys++ [y],g'.trans (gg.trans g5),(r3.grow g4 s4).grow g5 s5,?_,h5.2⟩⟩;exact(rv.grow (gg.trans g5)).append (.cons (e5.rv h5.1) .nil)
 ·have e:i=xs.length:=by omega
  subst e;have hw:=hE ys env' st' p';have hz:=Nat.le_trans hv it.small;exact .inl ⟨it.stop A' H' st' g' rel'.rs hw.ok,hz,k A' H' st' ys vs g' rel'.rs rv hz hw.of⟩
variable {N' own:List Str} {scope:Scope} {ifs:List Expr} {target:Expr} {te:zA} {tt:xA}
theorem zcv {K:Frag}{own:Nat}{σ:St}{H:Hp}{Q:VK} :zL K (iP own Ti Tg tt te) σ H Q->iH own (sM K Ti) (vX K Tg) (xB K tt) (zL K te) σ H Q:=by
 rintro⟨A,env,st,Q3,rel,h,k⟩;refine⟨A,env,st,_,rel,h,λA1 H1 st1 src xs J g1 s1 it h1=>zcw (rel.grow g1 s1) it h1 λA2 H2 st2 ys vs g2 s2 r2 hz q D hD=> ?_⟩;exact k A2 _ st2 _ _ (g1.trans (g2.trans (.new hD))) (s2.new hD) (.val (.lst (.inl ⟨.inl yQ,s2.fresh hD⟩) hz (r2.grow (.new hD)))) q
theorem zin {K:Frag}{own:Nat}{σ:St}{H:Hp}{Q:VK} :zL K (zbx own Ti Tg tt te) σ H Q->iH own (sM K Ti) (vX K Tg) (xB K tt) (zL K te) σ H Q:=by
 rintro⟨A,env,st,Q3,rel,h,k⟩;refine⟨A,env,st,_,rel,h,λA1 H1 st1 src xs J g1 s1 it h1=>zcw (rel.grow g1 s1) it h1 λA2 H2 st2 ys vs g2 s2 r2 hz q D hD=> ?_⟩;exact k (A2++ [D]) _ _ _ _ (g1.trans (g2.trans (.newObj hD))) (s2.newObj (q:= .lst ys) hD ⟨vs,yQ,r2.grow (.newObj hD),hz⟩) (.obj (jK s2.len)) q
theorem qL {pos:Pos}(S:sF X scope N' own)(hc:X.calm=true)(hi:PI X target iter (sM X.K Ti))
  (hg: ∀C s H fp pins,PG (xJ X scope (N'++own) C s H fp pins) target (vX X.K Tg)) (ht: ∀C s H fp pins,PF (xJ X scope (N'++own) C s H fp pins) ifs (xB X.K tt)) (he: ∀C s H fp pins,PE (xJ X scope (N'++own) C s H fp pins) a (zL X.K te))
  (hs: ∀x,foldedSetIterable iter X.env x=pure x:=by intro _;rfl):PE X (.ListComp a [⟨target,iter,ifs,0⟩] scope pos) (zL X.K (iP own.length Ti Tg tt te)):=xW (zlS S hc hi hg ht he hs) λ_ _ _=>zcv
theorem zjO {K:Frag}{A:List Addr}{H:Hp}{a:Addr}{xs:List PV}{vs:List V}(t:sI K A H a vs)(hz:vs.length<=sizeLine)(r:RVs K A H xs vs):qA K A H none (kE K a) xs where
 go:=λi A' H' st g s _ hi=>by
  rw[r.len]at hi;exact⟨vs,vs[i],(t.grow g).sq,by simp[hi]⟩
 yld:=λi x A' H' st v H2 hx g s _ y=>by
  obtain⟨rfl,y⟩:=y;obtain⟨w,ew,rw'⟩:=r.get hx;have:=y vs (t.grow g).sq;rw[ew]at this;cases this;exact⟨.refl _ _,s,.val (rw'.grow g)⟩
 stop:=λA' H' st g s _=>⟨vs,(t.grow g).sq,by rw[r.len];exact Nat.le_refl _⟩
 small:=by rw[r.len];exact hz
theorem zjR {K:Frag}{A:List Addr}{H:Hp}{a:Addr}{xs:List PV}{vs:List V}(t:sK K A H a vs)(hz:vs.length<=sizeLine)(r:RVs K A H xs vs):qA K A H none (hZ K a) xs where
 go:=λi A' H' st g s _ hi=>by
  rw[r.len]at hi;exact⟨vs,vs[i],(t.grow g).sq,by simp[hi]⟩
 yld:=λi x A' H' st v H2 hx g s _ y=>by
  obtain⟨rfl,y⟩:=y;obtain⟨w,ew,rw'⟩:=r.get hx;have:=y vs (t.grow g).sq;rw[ew]at this;cases this;exact⟨.refl _ _,s,.val (rw'.grow g)⟩
 stop:=λA' H' st g s _=>⟨vs,(t.grow g).sq,by rw[r.len];exact Nat.le_refl _⟩
 small:=by rw[r.len];exact hz
theorem zjP {K:Frag}{A:List Addr}{H:Hp}{i:Nat}{a:Addr}{xs:List PV}(e:A[i]?=some a)(hz:xs.length<=sizeLine):qA K A H (some (i,.lst xs)) (kE K a) xs where
 go:=λj A' H' st g s ok hi=>by
  obtain⟨vs,h,r,_⟩:=s.at_ i a _ (g.sub e) ok;rw[r.len]at hi;exact⟨vs,vs[j],.of h,by simp[hi]⟩
 yld:=λj x A' H' st v H2 hx g s ok y=>by
  obtain⟨rfl,y⟩:=y;obtain⟨vs,h,r,_⟩:=s.at_ i a _ (g.sub e) ok;obtain⟨w,ew,rw'⟩:=r.get hx;have:=y vs (.of h);rw[ew]at this;cases this;exact⟨.refl _ _,s,.val rw'⟩
 stop:=λA' H' st g s ok=>by
  obtain⟨vs,h,r,_⟩:=s.at_ i a _ (g.sub e) ok;exact⟨vs,.of h,by rw[r.len];exact Nat.le_refl _⟩
 small:=hz
def xM (lo:Int)(n:Nat):List PV:=(List.range n).map λi:Nat=> .int (lo+(i:Int))
theorem uW (lo:Int)(n:Nat):(xM lo n).length=n:=by unfold xM;rw[List.length_map,List.length_range]
theorem tO {lo:Int}{n i:Nat}{x:PV}(h:(xM lo n)[i]?=some x):i < n/\x= .int (lo+i):=by
 have hi:=(List.getElem?_eq_some_iff.mp h).1;rw[uW]at hi;unfold xM at h;rw[List.getElem?_map,List.getElem?_range hi]at h;exact⟨hi,(Option.some.inj h).symm⟩
theorem zet {K:Frag}{A:List Addr}{H:Hp}{lo:Int}{n:Nat}(hz:n<=sizeLine):qA K A H none (nQ lo n) (xM lo n) where
 go:=λi A' H' st g s _ hi=>by rw[uW]at hi;exact hi
 yld:=λi x A' H' st v H2 hx g s _ y=>by
  obtain⟨rfl,rfl⟩:=y;obtain⟨_,rfl⟩:=tO hx;exact⟨.refl _ _,s,.val (.int _)⟩
 stop:=λA' H' st g s _=>by rw[uW];exact Nat.le_refl n
 small:=by rw[uW];exact hz
def zei (T:yI):uL:=λenv st Q=>T env st λxs st1=>match xs with
 | [.int j]=>(-1000000<=j/\j<=1000000)/\Q none (xM 0 j.toNat) st1
 | _=>False
def zej (T:yI):uL:=λenv st Q=>T env st λxs st1=>match xs with
 | [.int i,.int j]=>(-1000000<=i/\i<=1000000/\ -1000000<=j/\j<=1000000)/\Q none (xM i (j - i).toNat) st1
 | _=>False
end
end L3
namespace L3
open PySem PySem.Spec PyProof.Rows L2
section
variable {X:Cx}
theorem tZ {f:Value->Value->Sem Value}{R:R3}
  (h: ∀pins s σ H A st x y v w vv ww Q3 Q,z5 X pins σ H s->RS X.K A H st->RE X.K A H x v->RE X.K A H y w->zT v vv->zT w ww->R x y st Q3->w9 X.K A H Q3 Q->wpAny (model X.prog X.w) X.A (f vv ww) (EP X pins σ Q) X.xe s):yG X f (xN X.K R):=by
 rintro pins s σ H v w vv ww Q I rv rw ⟨A,st,x,y,Q3,rs,ex,ey,hR,k⟩;exact h pins s σ H A st x y v w vv ww Q3 Q I rs ex ey rv rw hR k
def zaK:R3:=λx y st Q=>match x,y with | .int i,.int j=>Q (.int (i - j)) st | _,_=>False
def i8:R3:=λx y st Q=>match x,y with
 | .int i,.int j=>((-(2 ^ 64) < i/\i < 2 ^ 64)∨(-(2 ^ 64) < j/\j < 2 ^ 64))/\Q (.int (i * j)) st
 | .str z,.int n=>if n=0 then Q (.str Str.empty) st else n=1/\Q (.str z) st
 | _,_=>False
def zaD:R3:=λx y st Q=>match x,y with | .int i,.int j=>0 < j/\Q (.int (i % j)) st | _,_=>False
def za8:R3:=λx y st Q=>match x,y with | .int i,.int j=>(0 < j/\j < 1099511627776)/\Q (.int (i / j)) st | _,_=>False
def zaH:R3:=λx y st Q=>match x,y with | .int i,.int j=>lV i j/\Q (.int (i ^ j.toNat)) st | _,_=>False
theorem zl0 {X:Cx} :yG X (binaryOp .FloorDiv) (rI (λ_ j=>0 < j/\j < 1099511627776) λi j=> .int (i / j)):=jN λi j _ _ _ _ _ hc q=>by
 have e:i.fdiv j=i / j:=Int.fdiv_eq_ediv_of_nonneg _ (by omega);rw[<- e]at q;refine PyProof.Rows.floordiv_int (by omega) q (.inl (PyProof.noPylong_of_log2 ?_));by_cases z:j.natAbs=0
 ·rw[z];decide
 ·have:=(Nat.log2_lt z).mpr (show j.natAbs < 2 ^ 40 by omega)
  omega
theorem xL {K:Frag}{A:List Addr}{H:Hp}{i:Int}{v:V}(e:RE K A H (.int i) v):v= .int i:=by
 cases e with | val e=>cases e;rfl
theorem sC {K:Frag}{A:List Addr}{H:Hp}{i:Str}{v:V}(e:RE K A H (.str i) v):v= .str i:=by
 cases e with | val e=>cases e;rfl
theorem zcr {K:Frag}{A:List Addr}{H:Hp}{i:Bool}{v:V}(e:RE K A H (.bl i) v):v= .bl i:=by
 cases e with | val e=>cases e;rfl
theorem rQ:yG X (binaryOp .Sub) (xN X.K zaK):=tZ λpins s σ H A st x y v w vv ww Q3 Q I rs ex ey rv rw h k=>by
 unfold zaK at h
 split at h
 ·cases xL ex;cases xL ey
  exact zlB pins s σ H _ _ vv ww Q I rv rw ⟨_,_,rfl,rfl,k.now rs (.val (.int _)) h⟩
 ·exact h.elim
theorem sU:yG X (binaryOp .Mult) (xN X.K i8):=tZ λpins s σ H A st x y v w vv ww Q3 Q I rs ex ey rv rw h k=>by
 unfold i8 at h
 split at h
 ·cases xL ex;cases xL ey
  exact zl8 pins s σ H _ _ vv ww Q I rv rw ⟨_,_,rfl,rfl,h.1,k.now rs (.val (.int _)) h.2⟩
 ·cases sC ex;cases xL ey
  rename_i z n;by_cases hn:n=0
  ·rw[if_pos hn]at h
   exact zeZ pins s σ H _ _ vv ww Q I rv rw ⟨_,_,rfl,rfl,.inl ⟨hn,k.now rs (.val (.str _)) h⟩⟩
  ·rw[if_neg hn]at h
   exact zeZ pins s σ H _ _ vv ww Q I rv rw ⟨_,_,rfl,rfl,.inr ⟨h.1,k.now rs (.val (.str _)) h.2⟩⟩
 ·exact h.elim
theorem sT:yG X (binaryOp .Mod) (xN X.K zaD):=tZ λpins s σ H A st x y v w vv ww Q3 Q I rs ex ey rv rw h k=>by
 unfold zaD at h
 split at h
 ·cases xL ex;cases xL ey
  exact zl7 pins s σ H _ _ vv ww Q I rv rw ⟨_,_,rfl,rfl,h.1,k.now rs (.val (.int _)) h.2⟩
 ·exact h.elim
theorem jI:yG X (binaryOp .FloorDiv) (xN X.K za8):=tZ λpins s σ H A st x y v w vv ww Q3 Q I rs ex ey rv rw h k=>by
 unfold za8 at h
 split at h
 ·cases xL ex;cases xL ey
  exact zl0 pins s σ H _ _ vv ww Q I rv rw ⟨_,_,rfl,rfl,h.1,k.now rs (.val (.int _)) h.2⟩
 ·exact h.elim
theorem zkW:yG X (binaryOp .Pow) (xN X.K zaH):=tZ λpins s σ H A st x y v w vv ww Q3 Q I rs ex ey rv rw h k=>by
 unfold zaH at h
 split at h
 ·cases xL ex;cases xL ey
  exact zlA pins s σ H _ _ vv ww Q I rv rw ⟨_,_,rfl,rfl,h.1,k.now rs (.val (.int _)) h.2⟩
 ·exact h.elim
def zaE:PV->z4->K3->Prop:=λx st Q=>match x with | .int i=>Q (.int (-i)) st | _=>False
theorem jJ:nW X (unaryOp .USub) (gX X.K zaE):=by
 rintro pins s σ H v vv Q I rv ⟨A,st,x,Q3,rs,ex,h,k⟩;unfold zaE at h
 split at h
 ·cases xL ex
  exact zoz pins s σ H _ vv Q I rv ⟨_,rfl,k.now rs (.val (.int _)) h⟩
 ·exact h.elim
def qO (f:Int->Int->Bool):R3:=λx y st Q=>match x,y with | .int i,.int j=>Q (.bl (f i j)) st | _,_=>False
theorem jH {op:CmpOp}{f:Int->Int->Bool}(ho:yG X (compareOp op) (rT λi j=> .bl (f i j))):yG X (compareOp op) (xN X.K (qO f)):=tZ λpins s σ H A st x y v w vv ww Q3 Q I rs ex ey rv rw h k=>by
 unfold qO at h
 split at h
 ·cases xL ex;cases xL ey
  exact ho pins s σ H _ _ vv ww Q I rv rw ⟨_,_,rfl,rfl,k.now rs (.val (.bl _)) h⟩
 ·exact h.elim
theorem oZ:yG X (compareOp .Lt) (xN X.K (qO λi j=>decide (i < j))):=jH zl6
theorem zeQ:yG X (compareOp .LtE) (xN X.K (qO λi j=>decide (i<=j))):=jH zl5
theorem uR:yG X (compareOp .Gt) (xN X.K (qO λi j=>decide (j < i))):=jH zl2
theorem zeP:yG X (compareOp .GtE) (xN X.K (qO λi j=>decide (j<=i))):=jH zl1
def tJ:PV->Bool
 | .non=>true
 | _=>false
def zmU:R3:=λx y st Q=>match y with | .non=>Q (.bl (tJ x)) st | _=>False
def znd:R3:=λx y st Q=>match y with | .non=>Q (.bl (!tJ x)) st | _=>False
theorem zlx:yG X (binaryOp .Add) (λx y H Q=> ∃a b xs ys,x= .ref a/\y= .ref b/\xQ X.K H a xs/\xQ X.K H b ys/\xs.length+ys.length<=sizeLine/\
  (xs= []->Q (.ref b) H)/\(ys= []->Q (.ref a) H)/\∀p,H p=none->Q (.ref p) (zJ H p (.tup (xs++ys)))):=by
 intro pins s σ H x y v u Q I rx ry h;obtain⟨a,b,xs,ys,rfl,rfl,ha,hb,hz,q1,q2,q3⟩:=h;by_cases hx:xs= []
 ·cases rx;cases ry
  subst hx;obtain⟨its,r1,p1,_⟩:=I.tuple ha;obtain⟨its2,r2,p2,_⟩:=I.tuple hb;have hv:its= []:=r1.nil_iff.mpr rfl;subst hv;obtain⟨⟨cls,dd,data,sl⟩,ho,hc,n,hd⟩:=id p1;obtain⟨⟨cls2,dd2,data2,sl2⟩,ho2,hc2,n2,hd2⟩:=id p2;simp only at hc hd hc2 hd2;subst hc hd hc2 hd2;exact concat_meets ⟨_,ho,rfl⟩ ⟨_,ho2,rfl⟩ noFill_tuple_add seq_tuple_add PySem.F.slot_tuple_add PySem.F.entry_tuple_add (PySem.F.args_tuple_add_2 _ _)
   (tuple_addW0 a b _ its2.toArray n n2 dd dd2 sl sl2 (by simp)) ⟨ho,ho2,⟨.ref b,H,I,rfl,q1 rfl⟩⟩
 ·exact zlz pins s σ H _ _ v u Q I rx ry ⟨a,b,_,_,rfl,rfl,ha,hb,hx,hz,q2,λ_=>q3⟩
def n9:R3:=λx y st Q=>match x,y with
 | .int i,.int j=>Q (.int (i+j)) st
 | .str i,.str j=>i.length+j.length<=sizeLine/\Q (.str (i++j)) st
 | .tup xs,.tup ys=>xs.length+ys.length<=sizeLine/\Q (.tup (xs++ys)) st
 | .lst xs,.lst ys=>xs.length+ys.length<=sizeLine/\Q (.lst (xs++ys)) st
 | _,_=>False
theorem RVs.nil_iff {K:Frag}{A:List Addr}{H:Hp}{xs:List PV}{vs:List V}(h:RVs K A H xs vs):vs= []->xs= []:=by
 cases h with
 | nil=>exact λ_=>rfl
 | cons r t=>exact λz=>nomatch z
theorem w9.tup {K:Frag}{A:List Addr}{H:Hp}{Q3:K3}{Q:VK}{st:z4}{xs:List PV}{vs:List V}(k:w9 K A H Q3 Q)(rs:RS K A H st)(r:RVs K A H xs vs)(hz:vs.length<=sizeLine)(q:Q3 (.tup xs) st): ∀p,H p=none->Q (.ref p) (zJ H p (.tup vs)):=
 λp hp=>k A _ st _ _ (.new hp) (rs.new hp) (.val (.tup (.inl ⟨.inl yQ,rs.fresh hp⟩) hz (r.grow (.new hp)))) q
theorem w9.lst {K:Frag}{A:List Addr}{H:Hp}{Q3:K3}{Q:VK}{st:z4}{xs:List PV}{vs:List V}(k:w9 K A H Q3 Q)(rs:RS K A H st)(r:RVs K A H xs vs)(hz:vs.length<=sizeLine)(q:Q3 (.lst xs) st): ∀p,H p=none->Q (.ref p) (zJ H p (.lst vs)):=
 λp hp=>k A _ st _ _ (.new hp) (rs.new hp) (.val (.lst (.inl ⟨.inl yQ,rs.fresh hp⟩) hz (r.grow (.new hp)))) q
theorem w9.dctO {K:Frag}{A:List Addr}{H:Hp}{Q3:K3}{Q:VK}{st:z4}{xs:List (z7×PV)}{vs:List (z7×V)}(k:w9 K A H Q3 Q)(rs:RS K A H st)(r:RKs K A H xs vs)(hz:vs.length<=sizeLine)(q:Q3 (.obj st.length) (st++ [.dct xs])): ∀p,H p=none->Q (.ref p) (zJ H p (.dK vs)):=
 λp hp=>k (A++ [p]) _ _ _ _ (.newObj hp) (rs.newObj (q:= .dct xs) hp ⟨vs,yQ,r.grow (.newObj hp),hz⟩) (.obj (jK rs.len)) q
theorem w9.dct {K:Frag}{A:List Addr}{H:Hp}{Q3:K3}{Q:VK}{st:z4}{xs:List (z7×PV)}{vs:List (z7×V)}(k:w9 K A H Q3 Q)(rs:RS K A H st)(r:RKs K A H xs vs)(hz:vs.length<=sizeLine)(q:Q3 (.dct xs) st): ∀p,H p=none->Q (.ref p) (zJ H p (.dK vs)):=
 λp hp=>k A _ st _ _ (.new hp) (rs.new hp) (.val (.dct ⟨yQ,rs.fresh hp⟩ hz (r.grow (.new hp)))) q
theorem zly:yG X (binaryOp .Add) (λx y H Q=> ∃a b xs ys,x= .ref a/\y= .ref b/\yW X.K H a xs/\yW X.K H b ys/\xs.length+ys.length<=sizeLine/\∀p,H p=none->Q (.ref p) (zJ H p (.lst (xs++ys)))):=by
 intro pins s σ H x y v u Q I rx ry h;obtain⟨a,b,xs,ys,rfl,rfl,ha,hb,hz,q⟩:=h;cases rx;cases ry;obtain⟨its,n,r1,e,_⟩:=I.listX ha;obtain⟨its2,n2,r2,e2,_⟩:=I.listX hb;have l1:=r1.length;have l2:=r2.length;refine PySem.P.add_list e e2 ?_ (by rw[List.size_toArray,List.size_toArray];omega);have ea:its.toArray++its2.toArray=(its++its2).toArray:=by simp
 rw[ea];exact⟨.ref _,_,I.lnew (t':=s.toks) (r1.append r2) (by rw[List.length_append];omega),rfl,q _ I.fresh⟩
theorem yS:yG X (binaryOp .Add) (xN X.K n9):=tZ λpins s σ H A st x y v w vv ww Q3 Q I rs ex ey rv rw h k=>by
 unfold n9 at h
 split at h
 ·cases xL ex;cases xL ey
  exact zlv pins s σ H _ _ vv ww Q I rv rw ⟨_,_,rfl,rfl,k.now rs (.val (.int _)) h⟩
 ·cases sC ex;cases sC ey
  exact zlw pins s σ H _ _ vv ww Q I rv rw ⟨_,_,rfl,rfl,h.1,k.now rs (.val (.str _)) h.2⟩
 ·cases ex with | val ex=>cases ey with | val ey=>cases ex with | tup t z r=>cases ey with | tup t2 z2 r2=>
   have hl:_:=h.1;rw[r.len,r2.len]at hl;refine zlx pins s σ H _ _ vv ww Q I rv rw ⟨_,_,_,_,rfl,rfl,t.sq,t2.sq,hl,λe=> ?_,λe=> ?_,k.tup rs (r.append r2) (by rw[List.length_append];exact hl) h.2⟩
   ·have e2:=r.nil_iff e
    subst e2;exact k.now rs (.val (.tup t2 z2 r2)) h.2
   ·have e2:=r2.nil_iff e
    subst e2;refine k.now rs (.val (.tup t z r)) ?_;have:=h.2;rw[List.append_nil]at this;exact this
 ·cases ex with | val ex=>cases ey with | val ey=>cases ex with | lst t z r=>cases ey with | lst t2 z2 r2=>
   have hl:_:=h.1;rw[r.len,r2.len]at hl;exact zly pins s σ H _ _ vv ww Q I rv rw ⟨_,_,_,_,rfl,rfl,t.sq,t2.sq,hl,k.lst rs (r.append r2) (by rw[List.length_append];exact hl) h.2⟩
 ·exact h.elim
end
end L3
namespace L3
open PySem PySem.Spec PyProof.Rows L2
mutual
def zX:PV->PV->Bool
 | .non,.non=>true
 | .bl a,.bl b=>a==b
 | .bl a,.int b=>(if a then 1 else 0)==b
 | .int a,.bl b=>a==(if b then 1 else 0)
 | .int a,.int b=>a==b
 | .str a,.str b=>a==b
 | .tup xs,.tup ys=>eqPs xs ys
 | .lst xs,.lst ys=>eqPs xs ys
 | _,_=>false
def eqPs:List PV->List PV->Bool
 | [],[]=>true
 | x::xs,y::ys=>zX x y&&eqPs xs ys
 | _,_=>false
end
mutual
def zE:PV->Nat
 | .tup xs=>dpts xs+1
 | .lst xs=>dpts xs+1
 | .dct _=>1000
 | .itb _=>1000
 | .clo _=>1000
 | .ty _=>1000
 | .obj _=>1000
 | _=>0
def dpts:List PV->Nat
 | []=>0
 | x::xs=>max (zE x) (dpts xs)
end
theorem fF: ∀{xs:List PV} {i:Nat} {x:PV},xs[i]?=some x->zE x<=dpts xs
 | y::ys,0,x,h=>by simp at h;subst h;unfold dpts;exact Nat.le_max_left _ _
 | y::ys,i+1,x,h=>by
  have:=fF (xs:=ys) (i:=i) (x:=x) (by simpa using h);unfold dpts;exact Nat.le_trans this (Nat.le_max_right _ _)
mutual
theorem kY: ∀(x:PV),zE x < 1000->zX x x=true
 | .non,_=>by unfold zX;rfl
 | .bl b,_=>by unfold zX;simp
 | .int i,_=>by unfold zX;simp
 | .str s,_=>by unfold zX;simp
 | .tup xs,h=>by unfold zX;exact eqPs_refl xs (by unfold zE at h;omega)
 | .lst xs,h=>by unfold zX;exact eqPs_refl xs (by unfold zE at h;omega)
 | .dct _,h=>by unfold zE at h;omega
 | .itb _,h=>by unfold zE at h;omega
 | .clo _,h=>by unfold zE at h;omega
 | .ty _,h=>by unfold zE at h;omega
 | .obj _,h=>by unfold zE at h;omega
theorem eqPs_refl: ∀(xs:List PV),dpts xs < 1000->eqPs xs xs=true
 | [],_=>by unfold eqPs;rfl
 | x::xs,h=>by
  unfold dpts at h;unfold eqPs;rw[kY x (by omega),eqPs_refl xs (by omega)];rfl
end
theorem kZ: ∀(xs ys:List PV),eqPs xs ys=((List.range (min xs.length ys.length)).all (λj=>match xs[j]?,ys[j]? with | some x,some y=>zX x y | _,_=>true)&&xs.length==ys.length)
 | [],[]=>by unfold eqPs;rfl
 | [],y::ys=>by unfold eqPs;simp
 | x::xs,[]=>by unfold eqPs;simp
 | x::xs,y::ys=>by
  unfold eqPs;rw[kZ xs ys];rw[List.length_cons,List.length_cons,Nat.succ_min_succ,List.range_succ_eq_map,List.all_cons,List.all_map];simp only[List.getElem?_cons_zero,Bool.and_assoc]
  congr 1
  have e:((λj=>match(x::xs)[j]?,(y::ys)[j]? with | some x,some y=>zX x y | _,_=>true) ∘ Nat.succ)=λj=>match xs[j]?,ys[j]? with | some x,some y=>zX x y | _,_=>true:=by
   funext j;simp
  rw[e]
  congr 1
  rw[Bool.eq_iff_iff];simp
section
variable {X:Cx} {pins:List (Addr×Obj)} {σ:St} {H:Hp} {s:Shared} {A:List Addr}
theorem z5.lst_tup (I:z5 X pins σ H s){a:Addr}{xs ys:List V}(h1:yW X.K H a xs)(h2:xQ X.K H a ys):False:=by
 obtain⟨its,_,p,_⟩:=I.list h1;obtain⟨its2,_,p2,_⟩:=I.tuple h2;exact SeqAt.ne_of_list_tuple p.isList p2 rfl
mutual
theorem RV.inj (I:z5 X pins σ H s){x y:PV}{v:V}(a:RV X.K A H x v)(b:RV X.K A H y v)(h1:zE x < 1000)(h2:zE y < 1000):x=y:=by
 cases a with
 | non=>cases b;rfl
 | bl _=>cases b;rfl
 | int _=>cases b;rfl
 | str _=>cases b;rfl
 | ty _=>cases b;rfl
 | tup t z r=>
  cases b with
  | tup t2 z2 r2=>
   have e:=I.tuple_inj t.sq t2.sq;subst e;rw[RVs.inj2 I r r2 (by unfold zE at h1;omega) (by unfold zE at h2;omega)]
  | lst t2 z2 r2=>exact(z5.lst_tup I t2.sq t.sq).elim
  | dct _ _ _=>unfold zE at h2;omega
  | itb _ _=>unfold zE at h2;omega
  | clo _=>unfold zE at h2;omega
 | lst t z r=>
  cases b with
  | lst t2 z2 r2=>
   have e:=I.list_inj t.sq t2.sq;subst e;rw[RVs.inj2 I r r2 (by unfold zE at h1;omega) (by unfold zE at h2;omega)]
  | tup t2 z2 r2=>exact(z5.lst_tup I t.sq t2.sq).elim
  | dct _ _ _=>unfold zE at h2;omega
  | itb _ _=>unfold zE at h2;omega
  | clo _=>unfold zE at h2;omega
 | dct _ _ _=>unfold zE at h1;omega
 | itb _ _=>unfold zE at h1;omega
 | clo _=>unfold zE at h1;omega
theorem RVs.inj2 (I:z5 X pins σ H s){xs ys:List PV}{vs:List V}(a:RVs X.K A H xs vs)(b:RVs X.K A H ys vs)(h1:dpts xs < 1000)(h2:dpts ys < 1000):xs=ys:=by
 cases a with
 | nil=>cases b;rfl
 | cons r t=>
  cases b with
  | cons r2 t2=>
   unfold dpts at h1 h2;rw[RV.inj I r r2 (by omega) (by omega),RVs.inj2 I t t2 (by omega) (by omega)]
end
theorem oR {n:Nat}{B:Around}{xs ys:List PV}{vs ws:List V}{its its2:List Value}(rx:RVs X.K A H xs vs)(ry:RVs X.K A H ys ws)(r1:zH vs its)(r2:zH ws its2)
  (ih: ∀x y v w vv ww,zE x<=n->zE y < 1000->RV X.K A H x v->RV X.K A H y w->zT v vv->zT w ww->SeqAt.EqAt B s vv ww (zX x y)) (hx:dpts xs<=n) (hy:dpts ys < 1000):
  ∀j (h1:j < its.toArray.size) (h2:j < its2.toArray.size),SeqAt.EqAt B s its.toArray[j] its2.toArray[j] ((λj=>match xs[j]?,ys[j]? with | some x,some y=>zX x y | _,_=>true) j):=λj h1 h2=>by
 obtain⟨v,ev,rv⟩:=zgS r1 h1;obtain⟨w,ew,rw'⟩:=zgS r2 h2;obtain⟨x,ex,rx'⟩:=rx.get' ev;obtain⟨y,ey,ry'⟩:=ry.get' ew;show SeqAt.EqAt B s _ _ (match xs[j]?,ys[j]? with | some x,some y=>zX x y | _,_=>true);rw[ex,ey];exact ih x y v w _ _ (Nat.le_trans (fF ex) hx) (Nat.lt_of_le_of_lt (fF ey) hy) rx' ry' rv rw'
def iC:PV->PV->Bool
 | .tup _,.tup _=>true
 | .lst _,.lst _=>true
 | _,_=>false
inductive Kd (s:Shared):PV->Value->Prop
 | non:Kd s .non .none
 | bl (b:Bool):Kd s (.bl b) (.bool b)
 | int (i:Int) (t:Tok):Kd s (.int i) (.int i t)
 | str (z:Str) (t:Tok):Kd s (.str z) (.str z t)
 | tup {xs:List PV} {a:Addr} {its:Array Value} :IsTup s.heap a its->Kd s (.tup xs) (.ref a)
 | lst {xs:List PV} {a:Addr} {its:Array Value} :s.heap.IsList a its->Kd s (.lst xs) (.ref a)
theorem rM (I:z5 X pins σ H s){x:PV}{v:V}{vv:Value}(rx:RV X.K A H x v)(rv:zT v vv)(h:zE x < 1000):Kd s x vv:=by
 cases rx with
 | non=>cases rv;exact .non
 | bl b=>cases rv;exact .bl b
 | int i=>obtain⟨t,rfl⟩:=rv;exact .int i t
 | str z=>obtain⟨t,rfl⟩:=rv;exact .str z t
 | ty n=>unfold zE at h;omega
 | tup t z r=>cases rv;obtain⟨its,_,p,_⟩:=I.tuple t.sq;exact .tup p
 | lst t z r=>cases rv;obtain⟨its,_,p,_⟩:=I.list t.sq;exact .lst p.isList
 | dct t z r=>unfold zE at h;omega
 | itb _ _=>unfold zE at h;omega
 | clo _=>unfold zE at h;omega
local macro_rules | `(tactic| exact?)=> `(tactic| simp only[zX,Bool.not_false,Bool.not_true])
open SeqAt in
theorem zcN {B:Around}(hu:B.units < cLine): ∀{x y:PV} {vv ww:Value},Kd s x vv->Kd s y ww->iC x y=false->EqAt B s vv ww (zX x y)
 | _,_,_,_,.non,.non,_=>by exact?;exact EqAt.same _
 | _,_,_,_,.non,.bl b,_=>by exact?;exact EqAt.none_bool _
 | _,_,_,_,.non,.int b b2,_=>by exact?;exact EqAt.none_int _ _
 | _,_,_,_,.non,.str b b2,_=>by exact?;exact EqAt.none_str _ _
 | _,_,_,_,.non,.tup b,_=>by exact?;exact EqAt.none_tuple b hu
 | _,_,_,_,.non,.lst b,_=>by exact?;exact EqAt.none_list b hu
 | _,_,_,_,.bl a,.non,_=>by exact?;exact EqAt.bool_none _
 | _,_,_,_,.bl a,.bl b,_=>by exact?;exact EqAt.bool_bool _ _
 | _,_,_,_,.bl a,.int b b2,_=>by exact?;exact EqAt.bool_int _ _ _
 | _,_,_,_,.bl a,.str b b2,_=>by exact?;exact EqAt.bool_str _ _ _
 | _,_,_,_,.bl a,.tup b,_=>by exact?;exact EqAt.bool_tuple _ b hu
 | _,_,_,_,.bl a,.lst b,_=>by exact?;exact EqAt.bool_list _ b hu
 | _,_,_,_,.int a a2,.non,_=>by exact?;exact EqAt.int_none _ _
 | _,_,_,_,.int a a2,.bl b,_=>by exact?;exact EqAt.int_bool _ _ _
 | _,_,_,_,.int a a2,.int b b2,_=>by exact?;exact EqAt.int_int _ _ _ _
 | _,_,_,_,.int a a2,.str b b2,_=>by exact?;exact EqAt.int_str _ _ _ _
 | _,_,_,_,.int a a2,.tup b,_=>by exact?;exact EqAt.int_tuple _ _ b hu
 | _,_,_,_,.int a a2,.lst b,_=>by exact?;exact EqAt.int_list _ _ b hu
 | _,_,_,_,.str a a2,.non,_=>by exact?;exact EqAt.str_none _ _
 | _,_,_,_,.str a a2,.bl b,_=>by exact?;exact EqAt.str_bool _ _ _
 | _,_,_,_,.str a a2,.int b b2,_=>by exact?;exact EqAt.str_int _ _ _ _
 | _,_,_,_,.str a a2,.str b b2,_=>by exact?;exact EqAt.str_str _ _ _ _
 | _,_,_,_,.str a a2,.tup b,_=>by exact?;exact EqAt.str_tuple _ _ b hu
 | _,_,_,_,.str a a2,.lst b,_=>by exact?;exact EqAt.str_list _ _ b hu
 | _,_,_,_,.tup a,.non,_=>by exact?;exact EqAt.tuple_none a hu
 | _,_,_,_,.tup a,.bl b,_=>by exact?;exact EqAt.tuple_bool _ a hu
 | _,_,_,_,.tup a,.int b b2,_=>by exact?;exact EqAt.tuple_int _ _ a hu
 | _,_,_,_,.tup a,.str b b2,_=>by exact?;exact EqAt.tuple_str _ _ a hu
 | _,_,_,_,.tup _,.tup _,h=>Bool.noConfusion h
 | _,_,_,_,.tup a,.lst b,_=>by exact?;exact EqAt.tuple_list a b hu
 | _,_,_,_,.lst a,.non,_=>by exact?;exact EqAt.list_none a hu
 | _,_,_,_,.lst a,.bl b,_=>by exact?;exact EqAt.list_bool _ a hu
 | _,_,_,_,.lst a,.int b b2,_=>by exact?;exact EqAt.list_int _ _ a hu
 | _,_,_,_,.lst a,.str b b2,_=>by exact?;exact EqAt.list_str _ _ a hu
 | _,_,_,_,.lst a,.tup b,_=>by exact?;exact EqAt.list_tuple a b hu
 | _,_,_,_,.lst _,.lst _,h=>Bool.noConfusion h
open SeqAt in
theorem znl {B:Around}(hu:B.units < cLine): ∀{x y:PV} {vv ww:Value},Kd s x vv->Kd s y ww->iC x y=false->RcAt B s vv ww (zX x y)
 | _,_,_,_,.non,.non,_=>by exact?;exact RcAt.none_none
 | _,_,_,_,.non,.bl b,_=>by exact?;exact RcAt.none_bool _
 | _,_,_,_,.non,.int b b2,_=>by exact?;exact RcAt.none_int _ _
 | _,_,_,_,.non,.str b b2,_=>by exact?;exact RcAt.none_str _ _
 | _,_,_,_,.non,.tup b,_=>by exact?;exact RcAt.none_tuple b hu
 | _,_,_,_,.non,.lst b,_=>by exact?;exact RcAt.none_list b hu
 | _,_,_,_,.bl a,.non,_=>by exact?;exact RcAt.bool_none _
 | _,_,_,_,.bl a,.bl b,_=>by exact?;exact RcAt.bool_bool _ _
 | _,_,_,_,.bl a,.int b b2,_=>by exact?;exact RcAt.bool_int _ _ _
 | _,_,_,_,.bl a,.str b b2,_=>by exact?;exact RcAt.bool_str _ _ _
 | _,_,_,_,.bl a,.tup b,_=>by exact?;exact RcAt.bool_tuple _ b hu
 | _,_,_,_,.bl a,.lst b,_=>by exact?;exact RcAt.bool_list _ b hu
 | _,_,_,_,.int a a2,.non,_=>by exact?;exact RcAt.int_none _ _
 | _,_,_,_,.int a a2,.bl b,_=>by exact?;exact RcAt.int_bool _ _ _
 | _,_,_,_,.int a a2,.int b b2,_=>by exact?;exact RcAt.int_int _ _ _ _
 | _,_,_,_,.int a a2,.str b b2,_=>by exact?;exact RcAt.int_str _ _ _ _
 | _,_,_,_,.int a a2,.tup b,_=>by exact?;exact RcAt.int_tuple _ _ b hu
 | _,_,_,_,.int a a2,.lst b,_=>by exact?;exact RcAt.int_list _ _ b hu
 | _,_,_,_,.str a a2,.non,_=>by exact?;exact RcAt.str_none _ _
 | _,_,_,_,.str a a2,.bl b,_=>by exact?;exact RcAt.str_bool _ _ _
 | _,_,_,_,.str a a2,.int b b2,_=>by exact?;exact RcAt.str_int _ _ _ _
 | _,_,_,_,.str a a2,.str b b2,_=>by exact?;exact RcAt.str_str _ _ _ _
 | _,_,_,_,.str a a2,.tup b,_=>by exact?;exact RcAt.str_tuple _ _ b hu
 | _,_,_,_,.str a a2,.lst b,_=>by exact?;exact RcAt.str_list _ _ b hu
 | _,_,_,_,.tup a,.non,_=>by exact?;exact RcAt.tuple_none a hu
 | _,_,_,_,.tup a,.bl b,_=>by exact?;exact RcAt.tuple_bool _ a hu
 | _,_,_,_,.tup a,.int b b2,_=>by exact?;exact RcAt.tuple_int _ _ a hu
 | _,_,_,_,.tup a,.str b b2,_=>by exact?;exact RcAt.tuple_str _ _ a hu
 | _,_,_,_,.tup _,.tup _,h=>Bool.noConfusion h
 | _,_,_,_,.tup a,.lst b,_=>by exact?;exact RcAt.tuple_list a b hu
 | _,_,_,_,.lst a,.non,_=>by exact?;exact RcAt.list_none a hu
 | _,_,_,_,.lst a,.bl b,_=>by exact?;exact RcAt.list_bool _ a hu
 | _,_,_,_,.lst a,.int b b2,_=>by exact?;exact RcAt.list_int _ _ a hu
 | _,_,_,_,.lst a,.str b b2,_=>by exact?;exact RcAt.list_str _ _ a hu
 | _,_,_,_,.lst a,.tup b,_=>by exact?;exact RcAt.list_tuple a b hu
 | _,_,_,_,.lst _,.lst _,h=>Bool.noConfusion h
open SeqAt in
theorem znm {B:Around}(hu:B.units < cLine): ∀{x y:PV} {vv ww:Value},Kd s x vv->Kd s y ww->iC x y=false->RcNeAt B s vv ww (!zX x y)
 | _,_,_,_,.non,.non,_=>by exact?;exact RcNeAt.none_none
 | _,_,_,_,.non,.bl b,_=>by exact?;exact RcNeAt.none_bool _
 | _,_,_,_,.non,.int b b2,_=>by exact?;exact RcNeAt.none_int _ _
 | _,_,_,_,.non,.str b b2,_=>by exact?;exact RcNeAt.none_str _ _
 | _,_,_,_,.non,.tup b,_=>by exact?;exact RcNeAt.none_tuple b hu
 | _,_,_,_,.non,.lst b,_=>by exact?;exact RcNeAt.none_list b hu
 | _,_,_,_,.bl a,.non,_=>by exact?;exact RcNeAt.bool_none _
 | _,_,_,_,.bl a,.bl b,_=>by exact?;exact RcNeAt.bool_bool _ _
 | _,_,_,_,.bl a,.int b b2,_=>by exact?;exact RcNeAt.bool_int _ _ _
 | _,_,_,_,.bl a,.str b b2,_=>by exact?;exact RcNeAt.bool_str _ _ _
 | _,_,_,_,.bl a,.tup b,_=>by exact?;exact RcNeAt.bool_tuple _ b hu
 | _,_,_,_,.bl a,.lst b,_=>by exact?;exact RcNeAt.bool_list _ b hu
 | _,_,_,_,.int a a2,.non,_=>by exact?;exact RcNeAt.int_none _ _
 | _,_,_,_,.int a a2,.bl b,_=>by exact?;exact RcNeAt.int_bool _ _ _
 | _,_,_,_,.int a a2,.int b b2,_=>by exact?;exact RcNeAt.int_int _ _ _ _
 | _,_,_,_,.int a a2,.str b b2,_=>by exact?;exact RcNeAt.int_str _ _ _ _
 | _,_,_,_,.int a a2,.tup b,_=>by exact?;exact RcNeAt.int_tuple _ _ b hu
 | _,_,_,_,.int a a2,.lst b,_=>by exact?;exact RcNeAt.int_list _ _ b hu
 | _,_,_,_,.str a a2,.non,_=>by exact?;exact RcNeAt.str_none _ _
 | _,_,_,_,.str a a2,.bl b,_=>by exact?;exact RcNeAt.str_bool _ _ _
 | _,_,_,_,.str a a2,.int b b2,_=>by exact?;exact RcNeAt.str_int _ _ _ _
 | _,_,_,_,.str a a2,.str b b2,_=>by exact?;exact RcNeAt.str_str _ _ _ _
 | _,_,_,_,.str a a2,.tup b,_=>by exact?;exact RcNeAt.str_tuple _ _ b hu
 | _,_,_,_,.str a a2,.lst b,_=>by exact?;exact RcNeAt.str_list _ _ b hu
 | _,_,_,_,.tup a,.non,_=>by exact?;exact RcNeAt.tuple_none a hu
 | _,_,_,_,.tup a,.bl b,_=>by exact?;exact RcNeAt.tuple_bool _ a hu
 | _,_,_,_,.tup a,.int b b2,_=>by exact?;exact RcNeAt.tuple_int _ _ a hu
 | _,_,_,_,.tup a,.str b b2,_=>by exact?;exact RcNeAt.tuple_str _ _ a hu
 | _,_,_,_,.tup _,.tup _,h=>Bool.noConfusion h
 | _,_,_,_,.tup a,.lst b,_=>by exact?;exact RcNeAt.tuple_list a b hu
 | _,_,_,_,.lst a,.non,_=>by exact?;exact RcNeAt.list_none a hu
 | _,_,_,_,.lst a,.bl b,_=>by exact?;exact RcNeAt.list_bool _ a hu
 | _,_,_,_,.lst a,.int b b2,_=>by exact?;exact RcNeAt.list_int _ _ a hu
 | _,_,_,_,.lst a,.str b b2,_=>by exact?;exact RcNeAt.list_str _ _ a hu
 | _,_,_,_,.lst a,.tup b,_=>by exact?;exact RcNeAt.list_tuple a b hu
 | _,_,_,_,.lst _,.lst _,h=>Bool.noConfusion h
theorem zaU (x y:PV):iC x y=false∨(∃xs ys,x= .tup xs/\y= .tup ys)∨∃xs ys,x= .lst xs/\y= .lst ys:=by
 cases x <;> cases y <;> first | exact .inl rfl | exact .inr (.inl ⟨_,_,rfl,rfl⟩) | exact .inr (.inr ⟨_,_,rfl,rfl⟩)
theorem zaL {xs ys:List PV}{n m:Nat}(h1:xs.length=n)(h2:ys.length=m):((List.range (min n m)).all (λj=>match xs[j]?,ys[j]? with | some x,some y=>zX x y | _,_=>true)&&n==m)=eqPs xs ys:=by
 subst h1 h2;exact(kZ xs ys).symm
theorem zaM {xs ys:List PV}{n m:Nat}(h1:xs.length=n)(h2:ys.length=m)(h:n=m):(List.range n).all (λj=>match xs[j]?,ys[j]? with | some x,some y=>zX x y | _,_=>true)=eqPs xs ys:=by
 rw[kZ,h1,h2,<- h,Nat.min_self];simp
theorem fH {xs ys:List PV}(h:xs.length≠ys.length):eqPs xs ys=false:=by
 rw[kZ];simp[h]
theorem j0 (I:z5 X pins σ H s): ∀(n:Nat) (B:Around) (x y:PV) (v w:V) (vv ww:Value),B.units+n < cLine->zE x<=n->n < 1000->zE y < 1000->RV X.K A H x v->RV X.K A H y w->zT v vv->zT w ww->SeqAt.EqAt B s vv ww (zX x y):=by
 intro n
 induction n with
 | zero=>
  intro B x y v w vv ww hu hx hn hy rx ry rv rw;refine zcN (by omega) (rM I rx rv (by omega)) (rM I ry rw hy) ?_;cases x <;> first | (unfold zE at hx;omega) | rfl
 | succ n ih=>
  intro B x y v w vv ww hu hx hn hy rx ry rv rw;rcases zaU x y with h | ⟨xs,ys,rfl,rfl⟩ | ⟨xs,ys,rfl,rfl⟩
  ·exact zcN (by omega) (rM I rx rv (by omega)) (rM I ry rw hy) h
  ·cases rx with | tup t z r=>cases ry with | tup t2 z2 r2=>
    rename_i a vs b ws;cases rv;cases rw;by_cases hab:a=b
    ·subst hab
     have e:=RV.inj I (.tup t z r) (.tup t2 z2 r2) (by omega) hy;rw[e,kY _ hy];exact SeqAt.EqAt.same _
    ·obtain⟨its,r3,p,_⟩:=I.tuple t.sq
     obtain⟨its2,r4,p2,_⟩:=I.tuple t2.sq;have hh:=SeqAt.RcAt.tuples (A:=B) (show s.heap.IsTuple a its.toArray from p) (show s.heap.IsTuple b its2.toArray from p2) (by omega) (oR r r2 r3 r4 (λx y v w vv ww h1 h2=>ih B.in1 x y v w vv ww (by show B.units+1+n < cLine;omega) h1 (by omega) h2) (by unfold zE at hx;omega) (by unfold zE at hy;omega));rw[zaL (by rw[r.len,r3.length];simp) (by rw[r2.len,r4.length];simp)]at hh;unfold zX;exact SeqAt.EqAt.of_refs hab hh
  ·cases rx with | lst t z r=>cases ry with | lst t2 z2 r2=>
    rename_i a vs b ws;cases rv;cases rw;by_cases hab:a=b
    ·subst hab
     have e:=RV.inj I (.lst t z r) (.lst t2 z2 r2) (by omega) hy;rw[e,kY _ hy];exact SeqAt.EqAt.same _
    ·obtain⟨its,r3,p,_⟩:=I.list t.sq
     obtain⟨its2,r4,p2,_⟩:=I.list t2.sq;have l1:xs.length=its.toArray.size:=by rw[r.len,r3.length];simp
     have l2:ys.length=its2.toArray.size:=by rw[r2.len,r4.length];simp
     unfold zX;refine SeqAt.EqAt.of_refs hab ?_;by_cases hl:its.toArray.size=its2.toArray.size
     ·have hh:=SeqAt.RcAt.lists (A:=B) p.isList p2.isList hl (by omega) (oR r r2 r3 r4 (λx y v w vv ww h1 h2=>ih B.in1 x y v w vv ww (by show B.units+1+n < cLine;omega) h1 (by omega) h2) (by unfold zE at hx;omega) (by unfold zE at hy;omega))
      rw[zaM l1 l2 hl]at hh;exact hh
     ·rw[fH (by omega)]
      exact SeqAt.RcAt.lists_lengths p.isList p2.isList (by simpa using hl) (by omega)
def za9:R3:=λx y st Q=>(zE x<=50/\zE y < 1000)/\Q (.bl (zX x y)) st
def zf1:R3:=λx y st Q=>(zE x<=50/\zE y < 1000)/\Q (.bl (!zX x y)) st
theorem mS {x:PV}(h:zE x < 1000):yP x=true:=by
 cases x <;> first | rfl | (unfold zE at h;omega)
theorem yY {k:Nat}(hr:y4 k X.A):yG X (compareOp .Eq) (xN X.K za9):=tZ λpins s σ H A st x y v w vv ww Q3 Q I rs ex ey rv rw h k=>by
 obtain⟨⟨h1,h2⟩,h⟩:=h;have hu:=hr.units;have rx:=ex.rv (mS (by omega));have ry:=ey.rv (mS h2);have fin: ∀b,b=zX x y->EP X pins σ Q (.bool b) s:=λb e=>⟨.bl b,H,I,rfl,by rw[e];exact k.now rs (.val (.bl _)) h⟩;rcases zaU x y with hn | ⟨xs,ys,rfl,rfl⟩ | ⟨xs,ys,rfl,rfl⟩
 ·exact znl (by omega) (rM I rx rv (by omega)) (rM I ry rw h2) hn _ _ _ _ (fin _ rfl)
 ·cases rx with | tup t z r=>cases ry with | tup t2 z2 r2=>
   cases rv;cases rw;obtain⟨its,r3,p,_⟩:=I.tuple t.sq;obtain⟨its2,r4,p2,_⟩:=I.tuple t2.sq;refine SeqAt.RcAt.tuples (show s.heap.IsTuple _ its.toArray from p) (show s.heap.IsTuple _ its2.toArray from p2) (by omega) (oR (n:=50) r r2 r3 r4 (λx y v w vv ww h1 h2=>j0 I 50 X.A.in1 x y v w vv ww (by show X.A.units+1+50 < cLine;omega) h1 (by omega) h2) (by unfold zE at h1;omega) (by unfold zE at h2;omega)) _ _ _ _ (fin _ ?_);rw[zaL (by rw[r.len,r3.length];simp) (by rw[r2.len,r4.length];simp)];unfold zX;rfl
 ·cases rx with | lst t z r=>cases ry with | lst t2 z2 r2=>
   cases rv;cases rw;obtain⟨its,r3,p,_⟩:=I.list t.sq;obtain⟨its2,r4,p2,_⟩:=I.list t2.sq;have l1:xs.length=its.toArray.size:=by rw[r.len,r3.length];simp
   have l2:ys.length=its2.toArray.size:=by rw[r2.len,r4.length];simp
   by_cases hl:its.toArray.size=its2.toArray.size
   ·refine SeqAt.RcAt.lists p.isList p2.isList hl (by omega) (oR (n:=50) r r2 r3 r4 (λx y v w vv ww h1 h2=>j0 I 50 X.A.in1 x y v w vv ww (by show X.A.units+1+50 < cLine;omega) h1 (by omega) h2) (by unfold zE at h1;omega) (by unfold zE at h2;omega)) _ _ _ _ (fin _ ?_)
    rw[zaM l1 l2 hl];unfold zX;rfl
   ·refine SeqAt.RcAt.lists_lengths p.isList p2.isList (by simpa using hl) (by omega) _ _ _ _ (fin _ ?_)
    unfold zX;rw[fH (by omega)]
theorem zaq {k:Nat}(hr:y4 k X.A):yG X (compareOp .NotEq) (xN X.K zf1):=tZ λpins s σ H A st x y v w vv ww Q3 Q I rs ex ey rv rw h k=>by
 obtain⟨⟨h1,h2⟩,h⟩:=h;have hu:=hr.units;have rx:=ex.rv (mS (by omega));have ry:=ey.rv (mS h2);have fin: ∀b,b= !zX x y->EP X pins σ Q (.bool b) s:=λb e=>⟨.bl b,H,I,rfl,by rw[e];exact k.now rs (.val (.bl _)) h⟩;rcases zaU x y with hn | ⟨xs,ys,rfl,rfl⟩ | ⟨xs,ys,rfl,rfl⟩
 ·exact znm (by omega) (rM I rx rv (by omega)) (rM I ry rw h2) hn _ _ _ _ (fin _ rfl)
 ·cases rx with | tup t z r=>cases ry with | tup t2 z2 r2=>
   cases rv;cases rw;obtain⟨its,r3,p,_⟩:=I.tuple t.sq;obtain⟨its2,r4,p2,_⟩:=I.tuple t2.sq;refine(SeqAt.RcNeAt.tuples (show s.heap.IsTuple _ its.toArray from p) (show s.heap.IsTuple _ its2.toArray from p2) (by omega) (oR (n:=50) r r2 r3 r4 (λx y v w vv ww h1 h2=>j0 I 50 X.A.in1 x y v w vv ww (by show X.A.units+1+50 < cLine;omega) h1 (by omega) h2) (by unfold zE at h1;omega) (by unfold zE at h2;omega))) _ _ _ _ (fin _ ?_);rw[zaL (by rw[r.len,r3.length];simp) (by rw[r2.len,r4.length];simp)];unfold zX;rfl
 ·cases rx with | lst t z r=>cases ry with | lst t2 z2 r2=>
   cases rv;cases rw;obtain⟨its,r3,p,_⟩:=I.list t.sq;obtain⟨its2,r4,p2,_⟩:=I.list t2.sq;have l1:xs.length=its.toArray.size:=by rw[r.len,r3.length];simp
   have l2:ys.length=its2.toArray.size:=by rw[r2.len,r4.length];simp
   by_cases hl:its.toArray.size=its2.toArray.size
   ·refine(SeqAt.RcNeAt.lists p.isList p2.isList hl (by omega) (oR (n:=50) r r2 r3 r4 (λx y v w vv ww h1 h2=>j0 I 50 X.A.in1 x y v w vv ww (by show X.A.units+1+50 < cLine;omega) h1 (by omega) h2) (by unfold zE at h1;omega) (by unfold zE at h2;omega))) _ _ _ _ (fin _ ?_)
    rw[zaM l1 l2 hl];unfold zX;rfl
   ·refine(SeqAt.RcNeAt.lists_lengths p.isList p2.isList (by simpa using hl) (by omega)) _ _ _ _ (fin _ ?_)
    unfold zX;rw[fH (by omega)];rfl
end
end L3
namespace L3
open PySem PySem.Spec PyProof.Rows L2
def zR (kvs:List (z7×PV))(k:z7):Option PV:=(kvs.find? λkv=>decide (kv.1=k)).map (·.2)
def wM (kvs:List (z7×PV))(k:z7)(v:PV):List (z7×PV):=
 if(kvs.any λkv=>decide (kv.1=k))=true then kvs.map (λkv=>if kv.1=k then(kv.1,v)else kv)else kvs++ [(k,v)]
def vK:PV->Option z7
 | .int i=>some (.inl i)
 | .str x=>some (.inr x)
 | _=>none
section
variable {K:Frag} {A:List Addr} {H:Hp}
theorem RKs.val {k:z7} : ∀{kvs:List (z7×PV)} {us:List (z7×V)},RKs K A H kvs us->(∃x v,zR kvs k=some x/\vT us k=some v/\RV K A H x v)∨(zR kvs k=none/\vT us k=none)
 | _,_,.nil=> .inr ⟨rfl,rfl⟩
 | _,_,.cons (k:=k') (x:=x) (v:=v) (xs:=xs) (vs:=vs) r t=>by
  by_cases e:k'=k
  ·refine .inl ⟨x,v,?_,?_,r⟩
   ·unfold zR;rw[List.find?_cons,decide_eq_true e];rfl
   ·exact lQ e
  ·have e1:zR ((k',x)::xs) k=zR xs k:=by unfold zR;rw[List.find?_cons,decide_eq_false e]
   have e2:vT ((k',v)::vs) k=vT vs k:=lP e;rw[e1,e2];exact RKs.val t
theorem RKs.any {k:z7} : ∀{kvs:List (z7×PV)} {us:List (z7×V)},RKs K A H kvs us->(us.any λkv=>decide (kv.1=k))=(kvs.any λkv=>decide (kv.1=k))
 | _,_,.nil=>rfl
 | _,_,.cons r t=>by rw[List.any_cons,List.any_cons,RKs.any t]
theorem RKs.map {k:z7}{x:PV}{v:V}(r:RV K A H x v): ∀{kvs:List (z7×PV)} {us:List (z7×V)},RKs K A H kvs us->RKs K A H (kvs.map λkv=>if kv.1=k then(kv.1,x)else kv) (us.map λkv=>if kv.1=k then(kv.1,v)else kv)
 | _,_,.nil=> .nil
 | _,_,.cons (k:=k') r' t=>by
  rw[List.map_cons,List.map_cons];by_cases e:k'=k
  ·rw[if_pos e,if_pos e];exact .cons r (RKs.map r t)
  ·rw[if_neg e,if_neg e];exact .cons r' (RKs.map r t)
theorem RKs.append: ∀{a b:List (z7×PV)} {c d:List (z7×V)},RKs K A H a c->RKs K A H b d->RKs K A H (a++b) (c++d)
 | _,_,_,_,.nil,h=>h
 | _,_,_,_,.cons r t,h=> .cons r (RKs.append t h)
theorem RKs.put {k:z7}{x:PV}{v:V}(r:RV K A H x v){kvs:List (z7×PV)}{us:List (z7×V)}(h:RKs K A H kvs us):RKs K A H (wM kvs k x) (wL us k v):=by
 unfold wM wL;rw[h.any]
 split
 ·exact h.map r
 ·exact h.append (.cons r .nil)
theorem sR {y:PV}{w:V}{k:z7}(e:RE K A H y w)(h:vK y=some k):w=kV k:=by
 cases e with
 | obj e=>cases h
 | val e=>cases e <;> first | cases h;rfl | cases h
end
section
variable {X:Cx} {a b e:Expr} {es:List Expr} {pos p2:Pos} {Ta Tb:zA} {TA:yI}
def qP:R3:=λx y st Q=>match x with
 | .tup xs=>match y with | .int i=>(match atI xs i with | some z=>Q z st | none=>False) | _=>False
 | .lst xs=>match y with | .int i=>(match atI xs i with | some z=>Q z st | none=>False) | _=>False
 | .str z=>match y with | .int i=>z.length<=sizeLine/\(match atI z.cps.toList i with | some c=>Q (.str ⟨#[c]⟩) st | none=>False) | _=>False
 | .dct kvs=>(match vK y with | some k=>(match zR kvs k with | some z=>Q z st | none=>False) | none=>False)
 | .obj n=>(match st[n]? with
  | some (.lst xs)=>(match y with | .int i=>(match atI xs i with | some z=>Q z st | none=>False) | _=>False)
  | some (.dct kvs)=>(match vK y with | some k=>(match zR kvs k with | some z=>Q z st | none=>False) | none=>False)
  | _=>False)
 | _=>False
theorem RVs.atI {K:Frag}{A:List Addr}{H:Hp}{xs:List PV}{vs:List V}{i:Int}{x:PV}(r:RVs K A H xs vs)(h:L2.atI xs i=some x): ∃v,L2.atI vs i=some v/\RV K A H x v:=by
 unfold L2.atI at h⊢
 rw[<- r.len];cases e:xT xs.length i with
 | none=>rw[e]at h;cases h
 | some j=>rw[e]at h;exact r.get h
theorem jB {k:Nat}(hr:y4 k X.A):rB X (λx y H Q=> ∃a v,x= .ref a/\nL H a y (some v)/\Q v H):=by
 intro value slice pins s σ H x y vv ww Q I rx ry h hs;obtain⟨a,v,rfl,g,q⟩:=h;cases rx;have hT:=zi5 I g;unfold subscriptTail;refine wpAny_bind ?_;rw[getitemInPython_of_ne hT.not_modules];refine wpAny_bind (wpAny_specialOf hT PySem.F.slot_dict_getitem.lookup ?_);have fin:wpAny (model X.prog X.w) X.A (subscripted slice false (.ref a) ww) (λr s₃=>wpAny (model X.prog X.w) X.A (letTemporaryGo value (.ref a) r >>= λ_=>pure r) (EP X pins σ Q) X.xe s₃) X.xe s:=by
  rw[hs];exact wpAny_operating (ziz (by have:=hr.units;omega) I g ry λw' s3 I3 rw'=>wpAny_bind (wpAny_letTemporaryGo (wpAny_pure ⟨v,H,I3,rw',q⟩)))
 first
  | exact wpAny_pure (wpAny_bind fin)
  | exact wpAny_bind (wpAny_pure (wpAny_bind fin))
  | exact wpAny_bind fin
theorem zO {k:Nat}(hr:y4 k X.A):rB X (xN X.K qP):=by
 intro value slice pins s σ H v w vv ww Q I rv rw ⟨A,st,x,y,Q3,rs,ex,ey,h,k⟩ hs;unfold qP at h
 split at h
 ·-- tuples
  cases ex with | val ex=>cases ex with | tup t z r=>
   split at h
   ·cases xL ey
    split at h
    ·rename_i i q z' e
     obtain⟨v',e',r'⟩:=r.atI e;exact zjW value slice pins s σ H _ _ vv ww Q I rv rw ⟨_,_,_,_,rfl,rfl,t.sq,e',k.now rs (.val r') h⟩ hs
    ·exact h.elim
   ·exact h.elim
 ·cases ex with | val ex=>cases ex with | lst t z r=>
   split at h
   ·cases xL ey
    split at h
    ·rename_i i q z' e
     obtain⟨v',e',r'⟩:=r.atI e;exact zey value slice pins s σ H _ _ vv ww Q I rv rw ⟨_,_,_,_,rfl,rfl,t.sq,e',k.now rs (.val r') h⟩ hs
    ·exact h.elim
   ·exact h.elim
 ·cases sC ex
  split at h
  ·cases xL ey
   obtain⟨hz,h⟩:=h
   split at h
   ·rename_i i q c e
    exact zjV value slice pins s σ H _ _ vv ww Q I rv rw ⟨_,_,_,rfl,rfl,hz,e,k.now rs (.val (.str _)) h⟩ hs
   ·exact h.elim
  ·exact h.elim
 ·cases ex with | val ex=>cases ex with | dct t z r=>
   split at h
   ·rename_i kk ek
    split at h
    ·rename_i z' e
     rcases r.val (k:=kk)with⟨x',v',e1,e2,r'⟩ | ⟨e1,e2⟩
     ·rw[e]at e1;cases e1
      exact jB hr value slice pins s σ H _ _ vv ww Q I rv rw ⟨_,v',rfl,.inl ⟨_,kk,.inl t.1,sR ey ek,e2.symm⟩,k.now rs (.val r') h⟩ hs
     ·rw[e]at e1;cases e1
    ·exact h.elim
   ·exact h.elim
 ·cases ex with
  | val ex=>cases ex
  | obj eo=>
   split at h
   ·rename_i n xs q
    obtain⟨vs,h1,r,hzz⟩:=rs.at_ _ _ _ eo q
    split at h
    ·cases xL ey
     split at h
     ·rename_i i q z' e
      obtain⟨v',e',r'⟩:=r.atI e;exact zey value slice pins s σ H _ _ vv ww Q I rv rw ⟨_,_,_,_,rfl,rfl,.of h1,e',k.now rs (.val r') h⟩ hs
     ·exact h.elim
    ·exact h.elim
   ·rename_i n kvs q
    obtain⟨us,h1,r,hzz⟩:=rs.at_ _ _ _ eo q
    split at h
    ·rename_i kk ek
     split at h
     ·rename_i z' e
      rcases r.val (k:=kk)with⟨x',v',e1,e2,r'⟩ | ⟨e1,e2⟩
      ·rw[e]at e1;cases e1
       exact jB hr value slice pins s σ H _ _ vv ww Q I rv rw ⟨_,v',rfl,.inl ⟨_,kk,.inl h1,sR ey ek,e2.symm⟩,k.now rs (.val r') h⟩ hs
      ·rw[e]at e1;cases e1
     ·exact h.elim
    ·exact h.elim
   ·exact h.elim
 ·exact h.elim
def mY:PV->PV->PV->z4->(z4->Prop)->Prop:=λo i v st Q=>match o with
 | .obj n=>(match st[n]? with
  | some (.lst xs)=>(match i with | .int k=>yP v=true/\(match xT xs.length k with | some j=>Q (st.set n (.lst (xs.set j v))) | none=>False) | _=>False)
  | some (.dct kvs)=>(match vK i with | some k=>yP v=true/\kvs.length < sizeLine/\Q (st.set n (.dct (wM kvs k v))) | none=>False)
  | _=>False)
 | _=>False
def zik (K:Frag):V->V->V->Hp->(Hp->Prop)->Prop:=λo i v H Q=> ∃A st x y z Q3,RS K A H st/\RE K A H x o/\RE K A H y i/\RE K A H z v/\mY x y z st Q3/\∀A' H' st',zZ A H A' H'->RS K A' H' st'->Q3 st'->Q H'
theorem RVs.set {K:Frag}{A:List Addr}{H:Hp}{x:PV}{v:V}(rx:RV K A H x v): ∀{xs:List PV} {vs:List V} (j:Nat),RVs K A H xs vs->RVs K A H (xs.set j x) (vs.set j v)
 | _,_,_,.nil=> .nil
 | _,_,0,.cons _ t=> .cons rx t
 | _,_,j+1,.cons r t=> .cons r (RVs.set rx j t)
theorem znt {k:Nat}(hr:y4 k X.A):kI X (zik X.K):=by
 intro pins s σ H o i v ov iv u Q I ro ri rv ⟨A,st,x,y,z,Q3,rs,ex,ey,ez,h,k⟩;unfold mY at h
 split at h
 ·cases ex with
  | val ex=>cases ex
  | obj eo=>
   have hm:=List.mem_of_getElem? eo
   split at h
   ·rename_i n xs q
    obtain⟨vs,h1,r,hzz⟩:=rs.at_ _ _ _ eo q
    split at h
    ·cases xL ey
     obtain⟨hz,h⟩:=h
     split at h
     ·rename_i kk q2 j e
      rw[r.len]at e;exact zny pins s σ H _ _ _ ov iv u Q I ro ri rv ⟨_,vs,_,j,rfl,rfl,h1,e,k A _ _ (.put hm) (rs.put (q:= .lst (xs.set j z)) eo ⟨_,yQ,RVs.set ((ez.rv hz).grow (.put hm)) j (r.grow (.put hm)),by rw[List.length_set];exact hzz⟩) h⟩
     ·exact h.elim
    ·exact h.elim
   ·rename_i n kvs q
    obtain⟨us,h1,r,hzz⟩:=rs.at_ _ _ _ eo q
    split at h
    ·rename_i kk ek
     obtain⟨hz,hl,h⟩:=h;cases ro;refine zc7 (by have:=hr.units;omega) I (.inl ⟨us,kk,h1,sR ey ek,by rw[<- r.len];exact hl,rfl⟩) ri rv λs' I'=>⟨_,I',k A _ _ (.put hm) (rs.put (q:= .dct (wM kvs kk z)) eo ⟨_,yQ,RKs.put ((ez.rv hz).grow (.put hm)) (r.grow (.put hm)),Nat.le_trans (jC us kk v) (by rw[<- r.len];exact hl)⟩) h⟩
    ·exact h.elim
   ·exact h.elim
 ·exact h.elim
def gS (To Ti:zA):wC:=λv env st Q=>To env st λo st1=>Ti env st1 λi st2=>mY o i v st2 λst3=>Q env st3
theorem sW {k:Nat}(hr:y4 k X.A)(ho:PE X a (zL X.K Ta))(hi:PE X b (zL X.K Tb))
  (ha: ∀v,assign (.Subscript a b pos) X.env v=(do
   let ov <- holding [v] (eval a X.env)
   let iv <- holding [v,ov] (eval b X.env)
   standAt pos
   holding [v,ov,iv] (setItem ov iv v)
   release [v,ov,iv] []):=by intro _;rfl):PG X (.Subscript a b pos) (vX X.K (gS Ta Tb)):=
 za0 (zaz ho hi (znt hr) ha) λv σ H Q ⟨A,env,st,x,Q3,rel,e,h,k⟩=>⟨A,env,st,_,rel,h,λA1 H1 st1 o v1 g1 s1 e1 h1=>⟨A1,env,st1,_,rel.grow g1 s1,h1,λA2 H2 st2 i v2 g2 s2 e2 h2=>
  ⟨A2,st2,o,i,x,_,s2,e1.grow g2,e2,e.grow (g1.trans g2),h2,λA3 H3 st3 g3 s3 h3=>k A3 H3 σ env st3 ((g1.trans g2).trans g3) (rel.grow ((g1.trans g2).trans g3) s3) h3⟩⟩⟩
theorem yT.one {K:Frag}{A:List Addr}{H:Hp}{x:PV}{vs:List V}(h:yT K A H [x] vs): ∃v,vs= [v]/\RE K A H x v:=by
 cases h with
 | cons r t=>cases t;exact⟨_,rfl,r⟩
theorem yT.two {K:Frag}{A:List Addr}{H:Hp}{x y:PV}{vs:List V}(h:yT K A H [x,y] vs): ∃v w,vs= [v,w]/\RE K A H x v/\RE K A H y w:=by
 cases h with
 | cons r t=>obtain⟨w,rfl,e⟩:=yT.one t;exact⟨_,w,rfl,r,e⟩
def pG:PV->z4->(Nat->Prop)->Prop
 | .tup xs,_,k=>k xs.length
 | .lst xs,_,k=>k xs.length
 | .dct xs,_,k=>False
 | .str z,_,k=>z.length<=sizeLine/\k z.length
 | .obj i,st,k=>match st[i]? with | some (.lst xs)=>k xs.length | some (.dct kvs)=>k kvs.length | _=>False
 | _,_,_=>False
def i7:y6:=λxs st Q=>match xs with | [x]=>pG x st λn=>Q (.int n) st | _=>False
theorem xU:vD X (.builtin "len") (sN X.K i7):=by
 intro pins s σ H vs us Q I rv ⟨A,st,xs,Q3,rs,ex,h,k⟩;unfold i7 at h
 split at h
 ·rename_i x
  obtain⟨v,rfl,ex1⟩:=yT.one ex;have fin: ∀{n:Nat},Q3 (.int n) st->Q (.int n) H:=λq=>k.now rs (.val (.int _)) q;cases ex1 with
  | obj eo=>
   dsimp only[pG]at h
   split at h
   ·rename_i q
    obtain⟨vs,h1,r,hzz⟩:=rs.at_ _ _ _ eo q;exact kQ pins s σ H _ us Q I rv ⟨_,_,rfl,.inl ⟨_,.of h1,rfl⟩,by rw[<- r.len];exact fin h⟩
   ·rename_i q
    obtain⟨vs,h1,r,hzz⟩:=rs.at_ _ _ _ eo q;exact zid pins s σ H _ us Q I rv ⟨_,_,rfl,h1,by rw[<- r.len];exact fin h⟩
   ·exact h.elim
  | val e=>
   cases e with
   | str z=>exact kQ pins s σ H _ us Q I rv ⟨_,_,rfl,⟨h.1,rfl⟩,fin h.2⟩
   | tup t z r=>exact kQ pins s σ H _ us Q I rv ⟨_,_,rfl,.inr ⟨_,t.sq,rfl⟩,by rw[<- r.len];exact fin h⟩
   | lst t z r=>exact kQ pins s σ H _ us Q I rv ⟨_,_,rfl,.inl ⟨_,t.sq,rfl⟩,by rw[<- r.len];exact fin h⟩
   | _=>exact False.elim h
 ·exact h.elim
def mZ:y6:=λxs st Q=>match xs with
 | [.lst ys]=>Q (.tup ys) st
 | [.tup ys]=>Q (.tup ys) st
 | [.obj i]=>(match st[i]? with | some (.lst ys)=>Q (.tup ys) st | some (.dct kvs)=>Q (.tup (kvs.map λq=>match q.1 with | .inl i=> .int i | .inr z=> .str z)) st | _=>False)
 | _=>False
theorem ze2 {K:Frag}{A:List Addr}{H:Hp} : ∀{kvs:List (z7×PV)} {us:List (z7×V)},RKs K A H kvs us->RVs K A H (kvs.map λq=>match q.1 with | .inl i=> .int i | .inr z=> .str z) (us.map λq=>kV q.1)
 | _,_,.nil=> .nil
 | _,_,.cons (k:=k) r t=>by
  rw[List.map_cons,List.map_cons];refine .cons ?_ (ze2 t);cases k with
  | inl i=>exact .int i
  | inr z=>exact .str z
theorem qK (hc:X.calm=true):vD X (.type "tuple") (sN X.K mZ):=by
 intro pins s σ H vs us Q I rv ⟨A,st,xs,Q3,rs,ex,h,k⟩;unfold mZ at h
 split at h
 ·cases ex with | cons ex et=>cases et;cases ex with | val e=>cases e with | lst t z r=>
   exact gW pins s σ H _ us Q I rv ⟨_,_,rfl,.inl ⟨t.sq,k.tup rs r z h⟩⟩
 ·cases ex with | cons ex et=>cases et;cases ex with | val e=>cases e with | tup t z r=>
   exact gW pins s σ H _ us Q I rv ⟨_,_,rfl,.inr ⟨t.sq,k.now rs (.val (.tup t z r)) h⟩⟩
 ·cases ex with | cons ex et=>cases et;cases ex with
  | val e=>cases e
  | obj eo=>
   split at h
   ·rename_i q
    obtain⟨vs,h1,r,hzz⟩:=rs.at_ _ _ _ eo q;have hz:=hzz;exact gW pins s σ H _ us Q I rv ⟨_,_,rfl,.inl ⟨.of h1,k.tup rs r hz h⟩⟩
   ·rename_i q
    obtain⟨vs,h1,r,hzz⟩:=rs.at_ _ _ _ eo q;have hz:=hzz;exact zii hc pins s σ H _ us Q I rv ⟨_,_,rfl,h1,k.tup rs (ze2 r) (by rw[List.length_map];exact hz) h⟩
   ·exact h.elim
 ·exact h.elim
def wU (xs:List PV)(lo hi:Option Int):List PV:=(xs.drop (HT.sIx xs.length 0 lo)).take (HT.sIx xs.length xs.length hi - HT.sIx xs.length 0 lo)
def pI:PV->Option Int->Option Int->z4->K3->Prop:=λx lo hi st Q=>match x with
 | .tup xs=>Q (.tup (wU xs lo hi)) st
 | .lst xs=>Q (.lst (wU xs lo hi)) st
 | .str z=>z.length<=sizeLine/\((Txt.slice z lo hi).length<=z.length->Q (.str (Txt.slice z lo hi)) st)
 | _=>False
def zil (K:Frag):V->Option Int->Option Int->Hp->VK->Prop:=λv lo hi H Q=> ∃A st x Q3,RS K A H st/\RE K A H x v/\pI x lo hi st Q3/\w9 K A H Q3 Q
theorem RVs.cut {K:Frag}{A:List Addr}{H:Hp}{xs:List PV}{vs:List V}(r:RVs K A H xs vs)(lo hi:Option Int):RVs K A H (wU xs lo hi) (qE vs lo hi):=by
 unfold wU qE;rw[r.len];exact(r.drop _).take _
theorem zkX:nV X (zil X.K):=by
 intro pins s σ H v vv vl vu lo hi sl Q I rx hs pl pu ⟨A,st,x,Q3,rs,ex,h,k⟩;unfold pI at h
 split at h
 ·cases ex with | val e=>cases e with | tup t z r=>
   rename_i xs a vs;by_cases hw:HT.sIx vs.length 0 lo=0/\HT.sIx vs.length vs.length hi=vs.length
   ·cases rx
    obtain⟨its,r',ht,hz⟩:=I.tuple t.sq;refine⟨"tuple",_,PyProof.Rows.slot_tuple_getitem.lookup,ht.typeIs,?_⟩;have hl:its.toArray.size=vs.length:=by rw[List.size_toArray,<- r'.length]
    refine zj6 ht hs pl pu (by rw[hl];exact hw) ⟨.ref a,H,I,rfl,k.now rs (.val (.tup t z r)) ?_⟩;rw[<- r.len]at hw;have e:wU xs lo hi=xs:=by
     unfold wU;rw[hw.1,hw.2,List.drop_zero,Nat.sub_zero,List.take_of_length_le (Nat.le_refl _)]
    rw[e]at h;exact h
   ·refine znD pins s σ H _ vv vl vu lo hi sl Q I rx hs pl pu ⟨_,_,rfl,t.sq,?_,k.tup rs (r.cut lo hi) (Nat.le_trans (kX _ lo hi) z) h⟩
    exact hw
 ·cases ex with | val e=>cases e with | lst t z r=>
   exact znB pins s σ H _ vv vl vu lo hi sl Q I rx hs pl pu ⟨_,_,rfl,t.sq,k.lst rs (r.cut lo hi) (Nat.le_trans (kX _ lo hi) z) h⟩
 ·cases sC ex
  exact znC pins s σ H _ vv vl vu lo hi sl Q I rx hs pl pu ⟨_,rfl,h.1,λhl=>k.now rs (.val (.str _)) (h.2 hl)⟩
 ·exact h.elim
abbrev rD:=zF->z4->(Option Int->z4->Prop)->Prop
def mE (K:Frag)(T:rD):TO:=λσ H Q=> ∃A env st Q3,x9 K A H σ env st/\T env st Q3/\∀A' H' st' i,zZ A H A' H'->RS K A' H' st'->Q3 i st'->Q i H'
def zeM:rD:=λ_ st Q=>Q none st
def zeN (T:zA):rD:=λenv st Q=>T env st λx st1=>match x with | .int i=>Q (some i) st1 | _=>False
theorem zfo {o:Option Expr}{t t':TO}(h:L2.PO X o t)(w: ∀σ H Q,t' σ H Q->t σ H Q):L2.PO X o t':=⟨λpins s σ H Q I q=>h pins s σ H Q I (w σ H Q q)⟩
theorem uH:L2.PO X none (mE X.K zeM):=zfo zmt λσ H Q ⟨A,env,st,Q3,rel,h,k⟩=>k A H st none (.refl _ _) rel.rs h
theorem vP (h:PE X e (zL X.K Ta)):L2.PO X (some e) (mE X.K (zeN Ta)):=by
 refine zfo (zmu h) λσ H Q ⟨A,env,st,Q3,rel,h,k⟩=>⟨A,env,st,_,rel,h,λA1 H1 st1 x v g1 s1 e1 h1=> ?_⟩;cases x with
 | int i=>cases xL e1;exact⟨i,rfl,k A1 H1 st1 _ g1 s1 h1⟩
 | _=>exact False.elim h1
def vSl (T:zA)(Tl Th:rD):zA:=λenv st Q=>T env st λx st1=>Tl env st1 λl st2=>Th env st2 λu st3=>pI x l u st3 Q
theorem uG {lo hi:Option Expr}{Tl Th:rD}(he:PE X e (zL X.K Ta))(hl:L2.PO X lo (mE X.K Tl))(hu:L2.PO X hi (mE X.K Th)):PE X (.Subscript e (.Slice lo hi none p2) pos) (zL X.K (vSl Ta Tl Th)):=
 xW (zmc zkX he hl hu) λσ H Q ⟨A,env,st,Q3,rel,h,k⟩=>⟨A,env,st,_,rel,h,λA1 H1 st1 x v g1 s1 e1 h1=>⟨A1,env,st1,_,rel.grow g1 s1,h1,λA2 H2 st2 l g2 s2 h2=>⟨A2,env,st2,_,(rel.grow g1 s1).grow g2 s2,h2,λA3 H3 st3 u g3 s3 h3=>
  ⟨A3,st3,x,Q3,s3,e1.grow (g2.trans g3),h3,k.after (g1.trans (g2.trans g3))⟩⟩⟩⟩
end
end L3
namespace L3
open PySem PySem.Spec PyProof.Rows L2
section
variable {X:Cx} {tg iter a b e:Expr} {es:List Expr} {pos p:Pos} {Ta:zA} {TA:yI}
def zjE (K:Frag)(tl:TE):TI:=λσ H R=>tl σ H λx H1=>(∃a,x= .ref a/\(∃xs,yW K H1 a xs)/\R (kE K a) H1)∨(∃a,x= .ref a/\(∃xs,xQ K H1 a xs)/\R (hZ K a) H1)∨∃z,x= .str z/\R (kF z) H1
theorem zmm {tl:TE}(hl:PE X iter tl):PI X tg iter (zjE X.K tl):=by
 refine⟨λpins s σ H R I h=> ?_⟩;refine zU (hl pins s σ H _ I h) λv s1 ⟨x,H1,I1,r1,q1⟩=> ?_;rcases q1 with⟨a,rfl,⟨xs,hq⟩,q⟩ | ⟨a,rfl,⟨xs,hq⟩,q⟩ | ⟨x,rfl,q⟩
 ·cases r1
  obtain⟨its,rv,p,hz⟩:=I1.list hq;refine wpAny_pyIter_list p.isList ?_;refine⟨s1.heap.objs.size,[s1.heap.objs.size],_,_,H1,rfl,I1.kept (t':=s1.toks) λb o e=>Heap.get?_push_of_some _ e,zot a _,⟨_,Heap.get?_push_size _ rfl,rfl,rfl⟩,λb hb=> ?_,q⟩;have e:b=s1.heap.objs.size:=by simpa using hb
  subst e;exact I1.fpOk (Nat.le_refl _) (I1.hok.fresh (Nat.le_refl _))
 ·cases r1
  obtain⟨its,rv,p,hz⟩:=I1.tuple hq;refine wpAny_pyIter_tuple (show s1.heap.IsTuple a its.toArray from p) ?_;refine⟨s1.heap.objs.size,[s1.heap.objs.size],_,_,H1,rfl,I1.kept (t':=s1.toks) λb o e=>Heap.get?_push_of_some _ e,zov a _,⟨_,Heap.get?_push_size _ rfl,rfl,rfl⟩,λb hb=> ?_,q⟩;have e:b=s1.heap.objs.size:=by simpa using hb
  subst e;exact I1.fpOk (Nat.le_refl _) (I1.hok.fresh (Nat.le_refl _))
 ·obtain⟨t,rfl⟩:=r1
  have fin: ∀(n:String) (o:Obj),p7 X.prog X.w X.K tg (kF x) [s1.heap.objs.size] s1.heap.objs.size (λi h=>h.IsStrIter s1.heap.objs.size n x t i)->(s1.heap.push o).IsStrIter s1.heap.objs.size n x t 0->nT X pins σ tg R (.ref s1.heap.objs.size) {s1 with heap:=s1.heap.push o} :=λn o T st=>
   ⟨s1.heap.objs.size,[s1.heap.objs.size],_,_,H1,rfl,I1.kept (t':=s1.toks) λb u e=>Heap.get?_push_of_some _ e,T,st,λb hb=>by
    have e:b=s1.heap.objs.size:=by simpa using hb
    subst e;exact I1.fpOk (Nat.le_refl _) (I1.hok.fresh (Nat.le_refl _)),q⟩
  cases ha:x.cps.all (· < 128)
  ·exact wpAny_pyIter_wide ha (fin "str_iterator" _ (zg4 _ x t (by decide) (λA hA=>Walks.strWide hA _ x t) λ_ _ _ _ _ st hQ=>wpAny_pyIter_striter_wide st hQ) ⟨_,Heap.get?_push_size _ rfl,rfl,rfl⟩)
  ·exact wpAny_pyIter_ascii ha (fin "str_ascii_iterator" _ (zg4 _ x t (by decide) (λA hA=>Walks.strAscii hA _ x t) λ_ _ _ _ _ st hQ=>wpAny_pyIter_striter_ascii st hQ) ⟨_,Heap.get?_push_size _ rfl,rfl,rfl⟩)
def qU (z:Str):List PV:=z.cps.toList.map λc=> .str ⟨#[c]⟩
theorem zjQ {K:Frag}{A:List Addr}{H:Hp}{z:Str}(hz:z.length<=sizeLine):qA K A H none (kF z) (qU z) where
 go:=λi A' H' st g s _ hi=>by
  unfold qU at hi;have hi':i < z.cps.size:=by simpa using hi
  exact hi'
 yld:=λi x A' H' st v H2 hx g s _ y=>by
  obtain⟨rfl,c,hc,rfl⟩:=y;unfold qU at hx;rw[List.getElem?_map]at hx;have hc':z.cps.toList[i]?=some c:=by simpa using hc
  rw[hc']at hx;cases hx;exact⟨.refl _ _,s,.val (.str _)⟩
 stop:=λA' H' st g s _=>by
  unfold qU;show _=z.cps.size;simp
 small:=by
  unfold qU;rw[List.length_map];have:z.cps.toList.length=z.length:=by simp[Str.length]
  omega
def zeg (T:zA):uL:=λenv st Q=>T env st λx st1=>match x with
 | .lst xs=>Q none xs st1
 | .tup xs=>Q none xs st1
 | .str z=>z.length<=sizeLine/\Q none (qU z) st1
 | .obj i=>(match st1[i]? with | some (.lst xs)=>Q (some (i,.lst xs)) xs st1 | _=>False)
 | _=>False
theorem vL (h:PE X iter (zL X.K Ta)):PI X tg iter (sM X.K (zeg Ta)):=by
 refine jR (zmm h) λσ H R ⟨A,env,st,Q3,rel,h,k⟩=>⟨A,env,st,_,rel,h,λA1 H1 st1 x v g1 s1 e1 h1=> ?_⟩;cases e1 with
 | obj eo=>
  dsimp only at h1
  split at h1
  ·rename_i q
   obtain⟨vs,h2,r,hz⟩:=s1.at_ _ _ _ eo q;exact .inl ⟨_,rfl,⟨_,.of h2⟩,k A1 H1 st1 _ _ _ g1 s1 (zjP eo (by rw[r.len];exact hz)) h1⟩
  ·exact h1.elim
 | val e=>
  cases e with
  | tup t z r=>exact .inr (.inl ⟨_,rfl,⟨_,t.sq⟩,k A1 H1 st1 none _ _ g1 s1 (zjR t z r) h1⟩)
  | lst t z r=>exact .inl ⟨_,rfl,⟨_,t.sq⟩,k A1 H1 st1 none _ _ g1 s1 (zjO t z r) h1⟩
  | str z=>exact .inr (.inr ⟨z,rfl,k A1 H1 st1 none _ _ g1 s1 (zjQ h1.1) h1.2⟩)
  | _=>exact False.elim h1
theorem rS (hg:Gl X "range")(hm:X.mg "range" =none)(ha:PA X [a] (vW X.K TA))(hs:starEach [a] X.env= [(false,eval a X.env)]:=by rfl):PI X tg (.Call (.Name "range" p) [a] [] pos) (sM X.K (zei TA)):=by
 refine jR (zmo hg hm ha hs) λσ H R ⟨A,env,st,Q3,rel,h,k⟩=>⟨A,env,st,_,rel,h,λA1 H1 st1 xs vs g1 s1 e1 h1=> ?_⟩
 split at h1
 ·rename_i j
  obtain⟨v,rfl,e⟩:=yT.one e1;cases xL e;have hb:(2000000:Nat)<=sizeLine:=by rw[sizeLine_eq];decide
  exact⟨j,rfl,by omega,by omega,k A1 H1 st1 none _ _ g1 s1 (zet (by omega)) h1.2⟩
 ·exact h1.elim
theorem zfy (hg:Gl X "range")(hm:X.mg "range" =none)(ha:PA X [a,b] (vW X.K TA))(hs:starEach [a,b] X.env= [(false,eval a X.env),(false,eval b X.env)]:=by rfl)(hs2:starEach [b] X.env= [(false,eval b X.env)]:=by rfl):
  PI X tg (.Call (.Name "range" p) [a,b] [] pos) (sM X.K (zej TA)):=by
 refine jR (zmp hg hm ha hs hs2) λσ H R ⟨A,env,st,Q3,rel,h,k⟩=>⟨A,env,st,_,rel,h,λA1 H1 st1 xs vs g1 s1 e1 h1=> ?_⟩
 split at h1
 ·rename_i i j
  obtain⟨v,v',rfl,e,e2⟩:=yT.two e1;cases xL e;cases xL e2;have hb:(2000000:Nat)<=sizeLine:=by rw[sizeLine_eq];decide
  exact⟨i,j,rfl,by omega,k A1 H1 st1 none _ _ g1 s1 (zet (by omega)) h1.2⟩
 ·exact h1.elim
end
def nH (N:List Str)(xs:List PV):zF:=xs.map some++List.replicate (N.length - xs.length) none
def xG (m:Nat)(Q:K3):K3:=λr st=>match r with
 | .obj i=>if i < m then Q (.obj i) (st.take m)else(match st[i]? with | some (.lst xs)=>Q (.lst xs) (st.take m) | some (.dct xs)=>Q (.dct xs) (st.take m) | some (.itb xs)=>Q (.itb xs) (st.take m) | _=>False)
 | r=>Q r (st.take m)
section
variable {K:Frag} {A B:List Addr} {H H':Hp}
theorem x9.begin {st:z4}{xs:List PV}{vs:List V}{N:List Str}(s:RS K A H st)(e:yT K A H xs vs):x9 K A H (L2.start N vs) (nH N xs) st:=by
 have hl:xs.length=vs.length:=Paired.length e;refine⟨s,by unfold L2.start nH;rw[List.length_append,List.length_append,List.length_map,List.length_map,List.length_replicate,List.length_replicate,hl],λi x h=> ?_⟩;unfold nH at h;by_cases hi:i < xs.length
 ·rw[List.getElem?_append_left (by rw[List.length_map];exact hi),List.getElem?_map]at h
  cases ex:xs[i]? with
  | none=>rw[ex]at h;cases h
  | some y=>
   rw[ex]at h;cases h;have hv:i < vs.length:=by omega
   refine⟨vs[i],?_,zfd e ex (List.getElem?_eq_getElem hv)⟩;unfold L2.start;rw[List.getElem?_append_left (by rw[List.length_map];exact hv),List.getElem?_map,List.getElem?_eq_getElem hv];rfl
 ·rw[List.getElem?_append_right (by rw[List.length_map];omega),List.getElem?_replicate]at h
  split at h <;> cases h
theorem sK.less {A A':List Addr}(h: ∀b,b∈A'->b∈A){a:Addr}{vs:List V}(t:sK K A H a vs):sK K A' H a vs:=t.imp (λt=>⟨t.1,λm=>t.2 (h _ m)⟩) id
theorem sI.less {A A':List Addr}(h: ∀b,b∈A'->b∈A){a:Addr}{vs:List V}(t:sI K A H a vs):sI K A' H a vs:=t.imp (λt=>⟨t.1,λm=>t.2 (h _ m)⟩) id
mutual
theorem RV.less {A A':List Addr}(h: ∀b,b∈A'->b∈A){x:PV}{v:V} :RV K A H x v->RV K A' H x v
 | .non=> .non
 | .bl b=> .bl b
 | .int i=> .int i
 | .str x=> .str x
 | .ty n=> .ty n
 | .tup t z r=> .tup (t.less h) z (RVs.less h r)
 | .lst t z r=> .lst (t.less h) z (RVs.less h r)
 | .dct t z r=> .dct ⟨t.1,λm=>t.2 (h _ m)⟩ z (RKs.less h r)
 | .itb e n=> .itb e λm=>n (h _ m)
 | .clo e=> .clo ⟨⟨e.fn.1,λm=>e.fn.2 (h _ m)⟩,⟨e.cd.1,λm=>e.cd.2 (h _ m)⟩,⟨e.cl.1,λm=>e.cl.2 (h _ m)⟩,⟨e.dt.1,λm=>e.dt.2 (h _ m)⟩⟩
theorem RVs.less {A A':List Addr}(h: ∀b,b∈A'->b∈A){xs:List PV}{vs:List V} :RVs K A H xs vs->RVs K A' H xs vs
 | .nil=> .nil
 | .cons r t=> .cons (RV.less h r) (RVs.less h t)
theorem RKs.less {A A':List Addr}(h: ∀b,b∈A'->b∈A){xs:List (z7×PV)}{vs:List (z7×V)} :RKs K A H xs vs->RKs K A' H xs vs
 | .nil=> .nil
 | .cons r t=> .cons (RV.less h r) (RKs.less h t)
end
def gG (A A':List Addr)(a:Addr):Prop:= ∀(i j:Nat) (p:Addr),A[i]?=some a->j < i->A[j]?=some p->∃i',A'[i']?=some a/\j < i'/\A'[j]?=some p
theorem RR.less {A A':List Addr}(h: ∀b,b∈A'->b∈A){a:Addr}(hp:gG A A' a){x:PV}{v:V}(r:RR K A H a x v):RR K A' H a x v:=by
 cases r with
 | val r=>exact .val (r.less h)
 | obj e l e'=>obtain⟨_,x,y,z⟩:=hp _ _ _ e l e';exact .obj x y z
theorem xP.less {A A':List Addr}(h: ∀b,b∈A'->b∈A){a:Addr}(hp:gG A A' a){xs:List (z7×PV)}{vs:List (z7×V)} :xP K A H a xs vs->xP K A' H a xs vs
 | .nil=> .nil
 | .cons r t=> .cons ⟨r.1,r.2.less h hp⟩ (xP.less h hp t)
theorem OA.less {A A':List Addr}(h: ∀b,b∈A'->b∈A){a:Addr}{o:PO}(hp:gG A A' a)(x:OA K A H a o):OA K A' H a o:=by
 cases o with
 | lst xs=>obtain⟨vs,e,r,z⟩:=x;exact⟨vs,e,r.less h,z⟩
 | dct xs=>obtain⟨vs,e,r,z⟩:=x;exact⟨vs,e,r.less h,z⟩
 | tbl T pos q=>obtain⟨ea,ps,e,r⟩:=x;exact⟨ea,ps,e,r.imp id λ⟨c',e1,e2,e3⟩=>⟨c',e1,e2,λm=>e3 (h _ m)⟩⟩
 | itb kvs=>exact x
 | rcd xs=>obtain⟨vs,e,r,z⟩:=x;exact⟨vs,e,xP.less h hp r,z⟩
 | fd ob xs=>obtain⟨vs,e,r,z⟩:=x;exact⟨vs,e,r.less h,z⟩
theorem oW {α:Type}{l:List α}{m:Nat} : ∀b,b∈l.take m->b∈l:=λb h=>List.mem_of_mem_take h
theorem RS.take {st:z4}(s:RS K A H st)(m:Nat):RS K (A.take m) H (st.take m):=by
 refine⟨List.Nodup.sublist (List.take_sublist _ _) s.nd,by rw[List.length_take,List.length_take,s.len],λi a o h1 h2=> ?_⟩;have hi:i < m:=by
  have:=(List.getElem?_eq_some_iff.mp h1).1;rw[List.length_take]at this;omega
 rw[List.getElem?_take_of_lt hi]at h1 h2;refine(s.at_ i a o h1 h2).less oW λi' j p e l e'=> ?_;have hii:i'=i:=(List.getElem?_inj (List.getElem?_eq_some_iff.mp e).1 s.nd).mp (e.trans h1.symm);subst hii;exact⟨i',by rw[List.getElem?_take_of_lt hi];exact e,l,by rw[List.getElem?_take_of_lt (by omega)];exact e'⟩
theorem zZ.take {B':List Addr}(g:zZ A H B' H'){m:Nat}(h:A.length<=m):zZ A H (B'.take m) H':=by
 obtain⟨⟨C,rfl,hC⟩,k,l⟩:=g;refine⟨⟨C.take (m - A.length),?_,λb hb=>hC b (List.mem_of_mem_take hb)⟩,k,l⟩;rw[List.take_append,List.take_of_length_le h]
theorem w9.exit {Q3:K3}{Q:VK}{m:Nat}(k:w9 K A H Q3 Q)(hm:A.length<=m):w9 K A H (xG m Q3) Q:=by
 intro A' H' st' r v g s e q;have g':=g.take hm;have s':=s.take m;cases e with
 | val e=>
  refine k _ H' _ r v g' s' (.val (e.less oW)) ?_;cases r with
  | obj i=>cases e
  | _=>exact q
 | obj eo=>
  rename_i i a;unfold xG at q;dsimp only at q;by_cases hi:i < m
  ·rw[if_pos hi]at q
   exact k _ H' _ _ _ g' s' (.obj (by rw[List.getElem?_take_of_lt hi];exact eo)) q
  ·rw[if_neg hi]at q
   have na:a∉A'.take m:=λhm'=>by
    obtain⟨j,hj,e⟩:=List.getElem_of_mem hm';rw[List.length_take]at hj;have e2:A'[j]?=some a:=by
     rw[<- List.getElem?_take_of_lt (show j < m by omega),List.getElem?_eq_getElem (by rw[List.length_take];omega),e]
    have:=(List.getElem?_inj (List.getElem?_eq_some_iff.mp e2).1 s.nd).mp (e2.trans eo.symm);omega
   split at q
   ·rename_i xs e
    obtain⟨vs,h1,r,z⟩:=s.at_ _ _ _ eo e;exact k _ H' _ _ _ g' s' (.val (.lst (.inl ⟨.inl h1,na⟩) z (r.less oW))) q
   ·rename_i xs e
    obtain⟨vs,h1,r,z⟩:=s.at_ _ _ _ eo e;exact k _ H' _ _ _ g' s' (.val (.dct ⟨h1,na⟩ z (r.less oW))) q
   ·rename_i xs e
    exact k _ H' _ _ _ g' s' (.val (.itb (s.at_ _ _ _ eo e) na)) q
   ·exact q.elim
end
theorem xV {P:Program}{w:World}{K:Frag}{mg:Str->Option Value}{base:Heap}{x qual:Str}{st:Stmt}{f:Addr}{fd:FuncData}{N ps:List Str}{k:Nat}{S:y6}(keep:Nat)(F:yC K x qual st f fd)(sc:xH N ps (zS st))(len: ∀xs st Q,S xs st Q->xs.length=ps.length)
  (hB: ∃T:yU,(∀(cdv:Value) (A:Around) (outer:List Env) (s:Shared) (H:Hp) (E:XK),y4 k (A.deeper (envOfC qual (zS st) s.heap.objs.size f cdv))->xI (pA zQ P w K mg base N qual (zS st) f cdv A outer s H E).nox (yX st) (xK K T))/\
   ∀xs sto Q,S xs sto Q->T {nx:=λ_ s'=>xG (sto.length+keep) Q .non s',rt:=xG (sto.length+keep) Q} (nH N xs) sto):zP P w K mg base zQ (k+1) f fd ps (zN K S):=by
 obtain⟨T,hT,hb⟩:=hB;refine F.ok sc (λvs H Q E h=> ?_) (λcdv A outer s H vs Q E hr h=>⟨_,hT cdv A outer s H E hr,?_⟩)
 ·obtain⟨A,sto,xs,Q3,rs,ex,hS,_⟩:=h
  rw[<- len xs sto Q3 hS];exact(Paired.length ex).symm
 ·obtain⟨A,sto,xs,Q3,rs,ex,hS,k⟩:=h
  have hm:A.length<=sto.length+keep:=by rw[rs.len];omega
  refine⟨A,nH N xs,sto,_,x9.begin rs ex,hb xs sto Q3 hS,⟨λA' H' σ' env' st' g r q=> ?_,k.exit hm,λA' H' σ' env' st' g r q=>q.elim,λA' H' σ' env' st' g r q=>q.elim⟩⟩;exact k.exit hm A' H' st' .non .non g r.rs (.val .non) q
end L3
namespace L3
open PySem PySem.Spec PyProof.Rows L2
section
variable {X:Cx} {scope:Scope} {N' own:List Str} {Ti:uL} {Tg:wC} {tt:xA} {te:zA}
theorem za5 {elt target iter:Expr}{ifs:List Expr}{pos spos pos':Pos}{i0:Nat}{x:Str}(S:sF X scope N' own)(hN:X.N.Nodup)(hi0:X.N[i0]?=some x)(hx:sH X.env.scope x)(hc:X.calm=true)(hi:PI X target iter (sM X.K Ti))
  (hg: ∀C s H fp pins,PG (xJ X scope (N'++own) C s H fp pins) target (vX X.K Tg)) (ht: ∀C s H fp pins,PF (xJ X scope (N'++own) C s H fp pins) ifs (xB X.K tt)) (he: ∀C s H fp pins,PE (xJ X scope (N'++own) C s H fp pins) elt (zL X.K te))
  (hs: ∀x,foldedSetIterable iter X.env x=pure x:=by intro _;rfl) (hsw:swapsWith (.ListComp elt [⟨target,iter,ifs,0⟩] scope pos) (some (.Name x pos')) spos.line X.env=pure true:=by rfl)
  (hf:X.fn x=true∨X.env.scope.names.lookup x=some .local:=by first | exact .inl rfl | exact .inr rfl | assumption):
  PS X (.Assign [.Name x pos'] (.ListComp elt [⟨target,iter,ifs,0⟩] scope pos) spos) (xK X.K (nJ (iP own.length Ti Tg tt te) (gN i0))):=by
 refine sA (zfs hN hi0 hx S hc hi hg ht he hs hsw hf) λD σ H h=> ?_;obtain⟨A,env,st,Q3,rel,h,k⟩:=kS h;exact zcv ⟨A,env,st,Q3,rel,h,λA1 H1 st1 r v g s e q=>kU (k A1 H1 st1 r v g s e q)⟩
theorem zmP {elt target iter:Expr}{ifs:List Expr}{pos spos pos':Pos}{i0:Nat}{x:Str}(S:sF X scope N' own)(hN:X.N.Nodup)(hi0:X.N[i0]?=some x)(hx:sH X.env.scope x)(hc:X.calm=true)(hi:PI X target iter (sM X.K Ti))
  (hg: ∀C s H fp pins,PG (xJ X scope (N'++own) C s H fp pins) target (vX X.K Tg)) (ht: ∀C s H fp pins,PF (xJ X scope (N'++own) C s H fp pins) ifs (xB X.K tt)) (he: ∀C s H fp pins,PE (xJ X scope (N'++own) C s H fp pins) elt (zL X.K te))
  (hs: ∀x,foldedSetIterable iter X.env x=pure x:=by intro _;rfl) (hsw:swapsWith (.ListComp elt [⟨target,iter,ifs,0⟩] scope pos) (some (.Name x pos')) spos.line X.env=pure true:=by rfl)
  (hf:X.fn x=true∨X.env.scope.names.lookup x=some .local:=by first | exact .inl rfl | exact .inr rfl | assumption):
  PS X (.Assign [.Name x pos'] (.ListComp elt [⟨target,iter,ifs,0⟩] scope pos) spos) (xK X.K (nJ (zbx own.length Ti Tg tt te) (gN i0))):=by
 refine sA (zfs hN hi0 hx S hc hi hg ht he hs hsw hf) λD σ H h=> ?_;obtain⟨A,env,st,Q3,rel,h,k⟩:=kS h;exact zin ⟨A,env,st,Q3,rel,h,λA1 H1 st1 r v g s e q=>kU (k A1 H1 st1 r v g s e q)⟩
end
end L3
namespace L3
open PySem PySem.Spec PyProof.Rows L2
def pE (a b c d e:Bool)(n:String):Option Bool:=if n= "int" then some a else if n= "bool" then some b else if n= "str" then some c else if n= "tuple" then some d else if n= "list" then some e else none
def wI:PV->String->Option Bool
 | .bl _,n=>pE true true false false false n
 | .int _,n=>pE true false false false false n
 | .str _,n=>pE false false true false false n
 | .tup _,n=>pE false false false true false n
 | .lst _,n=>pE false false false false true n
 | _,_=>none
theorem mL {a b c d e r:Bool}{n:String}(h:pE a b c d e n=some r):(n= "int" /\r=a)∨(n= "bool" /\r=b)∨(n= "str" /\r=c)∨(n= "tuple" /\r=d)∨(n= "list" /\r=e):=by
 unfold pE at h;by_cases h1:n= "int"
 ·rw[if_pos h1]at h;cases h;exact .inl ⟨h1,rfl⟩
 rw[if_neg h1]at h;by_cases h2:n= "bool"
 ·rw[if_pos h2]at h;cases h;exact .inr (.inl ⟨h2,rfl⟩)
 rw[if_neg h2]at h;by_cases h3:n= "str"
 ·rw[if_pos h3]at h;cases h;exact .inr (.inr (.inl ⟨h3,rfl⟩))
 rw[if_neg h3]at h;by_cases h4:n= "tuple"
 ·rw[if_pos h4]at h;cases h;exact .inr (.inr (.inr (.inl ⟨h4,rfl⟩)))
 rw[if_neg h4]at h;by_cases h5:n= "list"
 ·rw[if_pos h5]at h;cases h;exact .inr (.inr (.inr (.inr ⟨h5,rfl⟩)))
 rw[if_neg h5]at h;cases h
def zaA:y6:=λxs st Q=>match xs with | [x,.ty n]=>(match wI x n with | some b=>Q (.bl b) st | none=>False) | _=>False
section
variable {X:Cx} {pins:List (Addr×Obj)} {σ:St} {H:Hp} {s:Shared} {A:List Addr}
theorem zjN {Q:VK}{x:PV}{n:String}{b:Bool}{vv:Value}(I:z5 X pins σ H s)(kx:Kd s x vv)(h:wI x n=some b)(q:Q (.bl b) H):wpAny (model X.prog X.w) X.A (call (.builtin "isinstance") [vv,.type n]) (EP X pins σ Q) X.xe s:=by
 cases kx with
 | bl=>
  rcases mL h with⟨rfl,rfl⟩ | ⟨rfl,rfl⟩ | ⟨rfl,rfl⟩ | ⟨rfl,rfl⟩ | ⟨rfl,rfl⟩
  ·exact IsiPair.bool_int ⟨.bl true,H,I,rfl,q⟩
  ·exact IsiPair.bool_bool ⟨.bl true,H,I,rfl,q⟩
  ·exact IsiPair.bool_str ⟨.bl false,H,I.tok _,rfl,q⟩
  ·exact IsiPair.bool_tuple ⟨.bl false,H,I.tok _,rfl,q⟩
  ·exact IsiPair.bool_list ⟨.bl false,H,I.tok _,rfl,q⟩
 | int=>
  rcases mL h with⟨rfl,rfl⟩ | ⟨rfl,rfl⟩ | ⟨rfl,rfl⟩ | ⟨rfl,rfl⟩ | ⟨rfl,rfl⟩
  ·exact IsiPair.int_int ⟨.bl true,H,I,rfl,q⟩
  ·exact IsiPair.int_bool ⟨.bl false,H,I.tok _,rfl,q⟩
  ·exact IsiPair.int_str ⟨.bl false,H,I.tok _,rfl,q⟩
  ·exact IsiPair.int_tuple ⟨.bl false,H,I.tok _,rfl,q⟩
  ·exact IsiPair.int_list ⟨.bl false,H,I.tok _,rfl,q⟩
 | str=>
  rcases mL h with⟨rfl,rfl⟩ | ⟨rfl,rfl⟩ | ⟨rfl,rfl⟩ | ⟨rfl,rfl⟩ | ⟨rfl,rfl⟩
  ·exact IsiPair.str_int ⟨.bl false,H,I.tok _,rfl,q⟩
  ·exact IsiPair.str_bool ⟨.bl false,H,I.tok _,rfl,q⟩
  ·exact IsiPair.str_str ⟨.bl true,H,I,rfl,q⟩
  ·exact IsiPair.str_tuple ⟨.bl false,H,I.tok _,rfl,q⟩
  ·exact IsiPair.str_list ⟨.bl false,H,I.tok _,rfl,q⟩
 | tup p=>
  rcases mL h with⟨rfl,rfl⟩ | ⟨rfl,rfl⟩ | ⟨rfl,rfl⟩ | ⟨rfl,rfl⟩ | ⟨rfl,rfl⟩
  ·obtain⟨o,e,c,_⟩:=id p;exact IsiPair.tuple_int e c ⟨.bl false,H,I.tok _,rfl,q⟩
  ·obtain⟨o,e,c,_⟩:=id p;exact IsiPair.tuple_bool e c ⟨.bl false,H,I.tok _,rfl,q⟩
  ·obtain⟨o,e,c,_⟩:=id p;exact IsiPair.tuple_str e c ⟨.bl false,H,I.tok _,rfl,q⟩
  ·obtain⟨o,e,c,_⟩:=id p;exact IsiPair.tuple_tuple e c ⟨.bl true,H,I,rfl,q⟩
  ·obtain⟨o,e,c,_⟩:=id p;exact IsiPair.tuple_list e c ⟨.bl false,H,I.tok _,rfl,q⟩
 | lst p=>
  rcases mL h with⟨rfl,rfl⟩ | ⟨rfl,rfl⟩ | ⟨rfl,rfl⟩ | ⟨rfl,rfl⟩ | ⟨rfl,rfl⟩
  ·obtain⟨o,e,c,_⟩:=id p;exact IsiPair.list_int e c ⟨.bl false,H,I.tok _,rfl,q⟩
  ·obtain⟨o,e,c,_⟩:=id p;exact IsiPair.list_bool e c ⟨.bl false,H,I.tok _,rfl,q⟩
  ·obtain⟨o,e,c,_⟩:=id p;exact IsiPair.list_str e c ⟨.bl false,H,I.tok _,rfl,q⟩
  ·obtain⟨o,e,c,_⟩:=id p;exact IsiPair.list_tuple e c ⟨.bl false,H,I.tok _,rfl,q⟩
  ·obtain⟨o,e,c,_⟩:=id p;exact IsiPair.list_list e c ⟨.bl true,H,I,rfl,q⟩
 | _=>cases h
theorem zkR:vD X (.builtin "isinstance") (sN X.K zaA):=by
 intro pins s σ H vs us Q I rv ⟨A,st,xs,Q3,rs,ex,h,k⟩;unfold zaA at h
 split at h
 ·rename_i x n
  obtain⟨v,w,rfl,ex1,ey1⟩:=yT.two ex;have hw:w= .ty n:=by cases ey1 with | val e=>cases e;rfl
  subst hw;obtain⟨u1,u2,rfl,r1,r2⟩:=zoE rv;cases r2
  split at h
  ·rename_i b e
   have hd:zE x < 1000∨∃ys,x= .tup ys∨x= .lst ys:=by
    cases x with
    | tup ys=>exact .inr ⟨ys,.inl rfl⟩
    | lst ys=>exact .inr ⟨ys,.inr rfl⟩
    | non=>cases e
    | bl b=>exact .inl (by unfold zE;decide)
    | int b=>exact .inl (by unfold zE;decide)
    | str b=>exact .inl (by unfold zE;decide)
    | _=>cases e
   have q:=k.now rs (.val (.bl b)) h;refine zjN I ?_ e q;rcases hd with hd | ⟨ys,rfl | rfl⟩
   ·exact rM I (ex1.rv (mS hd)) r1 hd
   ·cases ex1 with | val e=>cases e with | tup t z r=>cases r1;obtain⟨its,_,p,_⟩:=I.tuple t.sq;exact .tup p
   ·cases ex1 with | val e=>cases e with | lst t z r=>cases r1;obtain⟨its,_,p,_⟩:=I.list t.sq;exact .lst p.isList
  ·exact h.elim
 ·exact h.elim
def i5:y6:=λxs st Q=>match xs with | [.int i]=>Q (.int i) st | [.bl b]=>Q (.int (if b then 1 else 0)) st | _=>False
theorem oY:vD X (.type "int") (sN X.K i5):=by
 intro pins s σ H vs us Q I rv ⟨A,st,xs,Q3,rs,ex,h,k⟩;unfold i5 at h
 split at h
 ·obtain⟨v,rfl,ex1⟩:=yT.one ex
  cases xL ex1;exact zcu pins s σ H _ us Q I rv (.inl ⟨_,rfl,k.now rs (.val (.int _)) h⟩)
 ·obtain⟨v,rfl,ex1⟩:=yT.one ex
  cases zcr ex1;exact zcu pins s σ H _ us Q I rv (.inr ⟨_,rfl,k.now rs (.val (.int _)) h⟩)
 ·exact h.elim
def znc:y6:=λxs st Q=>match xs with | [.int i,.int j]=>Q (.int (if j < i then j else i)) st | _=>False
def znb:y6:=λxs st Q=>match xs with | [.int i,.int j]=>Q (.int (if j > i then j else i)) st | _=>False
theorem zaP {K:Frag} : ∀{bs:List Str} {vs:List V},RVs K A H (bs.map PV.str) vs->vs=bs.map V.str
 | [],_,.nil=>rfl
 | b::bs,_,.cons r t=>by cases r;rw[zaP t];rfl
theorem zgh {K:Frag} : ∀(bs:List Str),RVs K A H (bs.map PV.str) (bs.map V.str)
 | []=> .nil
 | b::bs=> .cons (.str b) (zgh bs)
theorem zen {K:Frag} : ∀(bs:List Int),RVs K A H (bs.map PV.int) (bs.map V.int)
 | []=> .nil
 | b::bs=> .cons (.int b) (zen bs)
def oU:PV->z4->Option (List PV)
 | .lst xs,_=>some xs
 | .obj i,st=>(match st[i]? with | some (.lst xs)=>some xs | _=>none)
 | _,_=>none
theorem ze9 {st:z4}{x:PV}{v:V}{xs:List PV}(rs:RS X.K A H st)(ex:RE X.K A H x v)(h:oU x st=some xs): ∃a vs,v= .ref a/\yW X.K H a vs/\RVs X.K A H xs vs/\vs.length<=sizeLine:=by
 cases ex with
 | val e=>
  cases e with
  | lst t z r=>cases h;exact⟨_,_,rfl,t.sq,r,z⟩
  | _=>cases h
 | obj eo=>
  dsimp only[oU]at h
  split at h
  ·rename_i q
   cases h;obtain⟨vs,h1,r,z⟩:=rs.at_ _ _ _ eo q;exact⟨_,_,rfl,.of h1,r,z⟩
  ·cases h
def zr7:y6:=λxs st Q=>match xs with | [x]=> ∃bs:List Bool,oU x st=some (bs.map PV.bl)/\Q (.bl (bs.all id)) st | _=>False
def u0:z7->PV
 | .inl i=> .int i
 | .inr z=> .str z
def qI:PV->z4->Option (List PV)
 | .lst xs,_=>some xs
 | .tup xs,_=>some xs
 | .obj i,st=>(match st[i]? with | some (.lst xs)=>some xs | some (.dct kvs)=>some (kvs.map λq=>u0 q.1) | _=>none)
 | .dct kvs,_=>some (kvs.map λq=>u0 q.1)
 | _,_=>none
def zmZ:y6:=λxs st Q=>match xs with | [x]=>(match qI x st with | some ys=>Q (.lst ys) st | none=>False) | _=>False
def zna:y6:=λxs st Q=>match xs with | [x]=>(match qI x st with | some ys=>Q (.obj st.length) (st++ [.lst ys]) | none=>False) | _=>False
def zaJ:y6:=λxs st Q=>match xs with | [x]=> ∃ss:List Str,oU x st=some (ss.map PV.str)/\ss.length < 64/\∀ss',ss'.Perm ss->sortedS ss'=true->Q (.lst (ss'.map PV.str)) st | _=>False
theorem zkY:vD X (.builtin "sorted") (sN X.K zaJ):=by
 intro pins s σ H vs us Q I rv ⟨A,st,xs,Q3,rs,ex,h,k⟩;unfold zaJ at h
 split at h
 ·obtain⟨v,rfl,ex1⟩:=yT.one ex
  obtain⟨ss,e,hl,h⟩:=h;obtain⟨a,ws,rfl,hs,r,z⟩:=ze9 rs ex1 e;cases zaP r;refine zih pins s σ H _ us Q I rv ⟨a,ss,rfl,hs,hl,λp ss' hp h1 h2=> ?_⟩;exact k.lst rs (zgh ss') (by rw[List.length_map,h1.length_eq];exact Nat.le_trans (Nat.le_of_lt hl) (by decide)) (h ss' h1 h2) p hp
 ·exact h.elim
def zgA:zA:=λ_ st Q=>Q (.obj st.length) (st++ [.dct []])
theorem jU {pos:Pos} :PE X (.Dict [] [] pos) (zL X.K zgA):=xW zaw λσ H Q ⟨A,env,st,Q3,rel,h,k⟩=>k.dctO rel.rs .nil (Nat.zero_le _) h
def jQ:PV->Option (z7×PV)
 | .tup [x,y]=>(match vK x with | some k=>some (k,y) | none=>none)
 | _=>none
def rP (kvs more:List (z7×PV)):List (z7×PV):=more.foldl (λacc kv=>wM acc kv.1 kv.2) kvs
theorem RKs.merge {K:Frag} : ∀{b:List (z7×PV)} {d:List (z7×V)} {a:List (z7×PV)} {c:List (z7×V)},RKs K A H a c->RKs K A H b d->RKs K A H (rP a b) (uQ c d)
 | _,_,_,_,h,.nil=>h
 | _,_,a,c,h,.cons (k:=k) (x:=x) (v:=v) r t=>RKs.merge (a:=wM a k x) (c:=wL c k v) (RKs.put r h) t
theorem RVs.two {K:Frag}{x y:PV}{vs:List V}(h:RVs K A H [x,y] vs): ∃v w,vs= [v,w]/\RV K A H x v/\RV K A H y w:=by
 cases h with
 | cons r t=>cases t with
  | cons r2 t2=>cases t2;exact⟨_,_,rfl,r,r2⟩
theorem zff: ∀{xs:List PV} {vs:List V} {ps:List (z7×PV)},RVs X.K A H xs vs->xs.map jQ=ps.map some->∃as us,vs=as.map V.ref/\gE X.K H as us/\RKs X.K A H ps us
 | [],_,[],.nil,_=>⟨[],[],rfl,.nil,.nil⟩
 | [],_,_::_,.nil,h=>by cases h
 | _::_,_,[],.cons _ _,h=>by cases h
 | x::xs,_,p::ps,.cons r t,h=>by
  rw[List.map_cons,List.map_cons]at h;obtain⟨h1,h2⟩:=List.cons.inj h;obtain⟨as,us,rfl,hp,hk⟩:=zff t h2;unfold jQ at h1
  split at h1
  ·rename_i k0 y0
   split at h1
   ·rename_i kk ek
    cases h1;cases r with | tup t' z' r'=>
     obtain⟨w1,w2,rfl,ra,rc⟩:=RVs.two r';have e1:=sR (.val ra) ek;subst e1;exact⟨_::as,(kk,_)::us,rfl,.cons t'.sq hp,.cons rc hk⟩
   ·cases h1
  ·cases h1
def za7:y6:=λxs st Q=>match xs with | [.tup ys]=> ∃ps,ys.map jQ=ps.map some/\Q (.dct (rP [] ps)) st | _=>False
theorem zk1 {us:List (z7×V)}{n:Nat}(h:us.length<=n):(uQ [] us).length<=n:=by
 have:=mO us [];simp only[List.length_nil,Nat.zero_add]at this;exact Nat.le_trans this h
theorem zkQ (hc:X.calm=true):vD X (.type "dict") (sN X.K za7):=by
 intro pins s σ H vs us Q I rv ⟨A,st,xs,Q3,rs,ex,h,k⟩;unfold za7 at h
 split at h
 ·obtain⟨v,rfl,ex1⟩:=yT.one ex
  obtain⟨ps,e,h⟩:=h;cases ex1 with | val e1=>cases e1 with | tup t z r=>
   obtain⟨as,ks,rfl,hp,hk⟩:=zff r e;have hl:ks.length<=sizeLine:=by rw[<- Paired.length hp];rw[List.length_map]at z;exact z
   exact zib hc pins s σ H _ us Q I rv ⟨_,as,ks,rfl,t.sq,hp,k.dct rs (RKs.merge .nil hk) (zk1 hl) h⟩
 ·exact h.elim
end
end L3
namespace L3
open PySem PySem.Spec PyProof.Rows L2
def sQ:PV->z4->String
 | .lst _,_=> "list"
 | .dct _,_=> "dict"
 | .str _,_=> "str"
 | .obj i,st=>(match st[i]? with | some (.lst _)=> "list" | some (.dct _)=> "dict" | _=> "")
 | _,_=> ""
def rG (K:Frag)(R:PV->y6):V->List V->Hp->VK->Prop:=λv vs H Q=> ∃A st x xs Q3,RS K A H st/\RE K A H x v/\yT K A H xs vs/\R x xs st Q3/\w9 K A H Q3 Q
def vBM (T:String)(R:PV->y6)(To:zA)(TA:yI):zA:=λenv st Q=>To env st λx st1=>sQ x st1=T/\TA env st1 λxs st2=>R x xs st2 Q
def zg_ (T:String)(R:PV->y6)(To:zA):zA:=λenv st Q=>To env st λx st1=>sQ x st1=T/\R x [] st1 Q
section
variable {X:Cx} {o e:Expr} {es:List Expr} {apos cpos:Pos} {To:zA} {TA:yI} {T id:String} {name:Str} {R:PV->y6}
theorem zg6 {K:Frag}{A:List Addr}{H:Hp}{st:z4}{x:PV}{v:V}(rs:RS K A H st)(ex:RE K A H x v)(h:sQ x st=T)(hT:T≠ ""):iM K T v H:=by
 subst h;cases ex with
 | val e=>
  cases e with
  | lst t z r=>exact .inl ⟨rfl,_,t.sq⟩
  | dct t z r=>exact .inr (.inr (.inl ⟨rfl,.inl ⟨_,t.1⟩⟩))
  | str z=>exact rfl
  | _=>exact absurd rfl hT
 | obj eo=>
  dsimp only[sQ]at hT⊢
  split
  ·rename_i q
   obtain⟨vs,h1,r,z⟩:=rs.at_ _ _ _ eo q;exact .inl ⟨rfl,_,.of h1⟩
  ·rename_i q
   obtain⟨vs,h1,r,z⟩:=rs.at_ _ _ _ eo q;exact .inr (.inr (.inl ⟨rfl,.inl ⟨_,h1⟩⟩))
  ·exfalso
   split at hT
   ·rename_i n1 n2 _ _ q;exact n1 _ q
   ·rename_i n1 n2 _ _ q;exact n2 _ q
   ·exact hT rfl
theorem wN (pa:PlainAttrs T)(slot:Slot T name id)(hty:typeOf (.builtin id)=pure (.type "method_descriptor"))(hT:T≠ "")(hm:tG X id (rG X.K R))(ho:PE X o (zL X.K To))(ha:PA X (e::es) (vW X.K TA))
  (hbase:attributeBase o name X.env (eval o X.env)=eval o X.env:=by rfl)
  (hfew:((backTo cpos (starEach (e::es) X.env)).all (λx=> !x.1)&&(backToKw cpos (keywordEach [] X.env)).all (λx=>x.1.isSome)
   &&decide ((e::es).length+([]:List Keyword).length+(if([]:List Keyword).isEmpty then 0 else 1) < 30))=true:=by rfl)
  (hline:(apos.endLine==cpos.line)=true:=by rfl) (hs:starEach (e::es) X.env=(false,eval e X.env)::starEach es X.env:=by rfl) (hplain:(backTo cpos (starEach es X.env)).any (·.1)=false:=by rfl):
  PE X (.Call (.Attribute o name apos) (e::es) [] cpos) (zL X.K (vBM T R To TA)):=
 xW (zlL pa slot hty hm ho ha hbase hfew hline hs hplain) λσ H Q ⟨A,env,st,Q3,rel,h,k⟩=>⟨A,env,st,_,rel,h,λA1 H1 st1 x v g1 s1 e1 h1=>⟨zg6 s1 e1 h1.1 hT,A1,env,st1,_,rel.grow g1 s1,h1.2,λA2 H2 st2 xs vs g2 s2 e2 h2=>
  ⟨A2,st2,x,xs,Q3,s2,e1.grow g2,e2,h2,k.after (g1.trans g2)⟩⟩⟩
theorem zmE (pa:PlainAttrs T)(slot:Slot T name id)(hty:typeOf (.builtin id)=pure (.type "method_descriptor"))(hT:T≠ "")(hm:tG X id (rG X.K R))(ho:PE X o (zL X.K To))
  (hbase:attributeBase o name X.env (eval o X.env)=eval o X.env:=by rfl) (hline:(apos.endLine==cpos.line)=true:=by rfl):PE X (.Call (.Attribute o name apos) [] [] cpos) (zL X.K (zg_ T R To)):=
 xW (zlM pa slot hty hm ho hbase hline) λσ H Q ⟨A,env,st,Q3,rel,h,k⟩=>⟨A,env,st,_,rel,h,λA1 H1 st1 x v g1 s1 e1 h1=>⟨zg6 s1 e1 h1.1 hT,A1,st1,x,[],Q3,s1,e1,.nil,h1.2,k.after g1⟩⟩
def jZ:PV->y6:=λx xs st Q=>match x,xs with
 | .obj i,[y]=>(match st[i]? with | some (.lst zs)=>yP y=true/\zs.length < sizeLine/\Q .non (st.set i (.lst (zs++ [y]))) | _=>False)
 | _,_=>False
theorem uF:tG X "list.append" (rG X.K jZ):=by
 intro pins s σ H v vs vv us Q I rv rvs ⟨A,st,x,xs,Q3,rs,ex,exs,h,k⟩;unfold jZ at h
 split at h
 ·rename_i i y
  obtain⟨w,rfl,ey⟩:=yT.one exs;cases ex with
  | val e=>cases e
  | obj eo=>
   have hm:=List.mem_of_getElem? eo
   split at h
   ·rename_i zs q
    obtain⟨ws,h1,r,z⟩:=rs.at_ _ _ _ eo q;obtain⟨hn,hl,h⟩:=h;rw[r.len]at hl;refine zk_ pins s σ H _ _ vv us Q I rv rvs ⟨_,ws,w,rfl,rfl,h1,hl,k A _ _ _ _ (.put hm) (rs.put (q:= .lst (zs++ [y])) eo ⟨_,yQ,(r.grow (.put hm)).append (.cons ((ey.rv hn).grow (.put hm)) .nil),?_⟩) (.val .non) h⟩;rw[List.length_append,List.length_singleton];exact hl
   ·exact h.elim
 ·exact h.elim
def za_:PV->y6:=λx xs st Q=>match x,xs with
 | .obj i,[.lst ys]=>(match st[i]? with | some (.lst zs)=>zs.length+ys.length<=sizeLine/\Q .non (st.set i (.lst (zs++ys))) | _=>False)
 | _,_=>False
theorem zeO:tG X "list.extend" (rG X.K za_):=by
 intro pins s σ H v vs vv us Q I rv rvs ⟨A,st,x,xs,Q3,rs,ex,exs,h,k⟩;unfold za_ at h
 split at h
 ·rename_i i ys
  obtain⟨w,rfl,ey⟩:=yT.one exs;cases ex with
  | val e=>cases e
  | obj eo=>
   have hm:=List.mem_of_getElem? eo
   split at h
   ·rename_i zs q
    obtain⟨ws,hH,r,z⟩:=rs.at_ _ _ _ eo q;obtain⟨hl,h⟩:=h;cases ey with | val ey=>cases ey with | lst t z2 r2=>
     cases rv;obtain⟨u,rfl,ru⟩:=zH.one rvs;cases ru;obtain⟨zz,its,n,rr,hl1,e⟩:=I.lstM hH;obtain⟨its2,n2,rr2,e2,_⟩:=I.listX t.sq;have hl2:=rr2.length;have e3:=r.len;have e4:=r2.len;have hsz:its.toArray.size+its2.toArray.size<=sizeLine:=by rw[List.size_toArray,List.size_toArray];omega
     have hlong: ¬ (!its.toArray.isEmpty&&Builtin.List.listTooLong (its.toArray.size+its2.toArray.size))=true:=by
      rw[zkO hsz,Bool.and_false];exact Bool.false_ne_true
     refine call_meets F.slot_list_extend ⟨_,e,rfl⟩ F.entry_list_extend (F.args_list_extend_2 _ _)
      (AutoSeq1.list_extend_list_list_0 _ its.toArray n _ its2.toArray n2 hlong (by rw[List.size_toArray];omega) (by omega)) ⟨e,e2,?_⟩
     refine⟨.non,_,I.lset (its':=its++its2) hH e (by simp) (rr.append rr2) ?_,rfl,k A _ _ _ _ (.put hm) (rs.put (q:= .lst (zs++ys)) eo ⟨_,yQ,(r.grow (.put hm)).append (r2.grow (.put hm)),?_⟩) (.val .non) h⟩
     ·rw[List.length_append];omega
     ·rw[List.length_append];omega
   ·exact h.elim
 ·exact h.elim
def zaF:PV->y6:=λx xs st Q=>match x,xs with
 | .obj i,[]=>(match st[i]? with | some (.lst zs)=>(match zs.getLast? with | some y=>Q y (st.set i (.lst zs.dropLast)) | none=>False) | _=>False)
 | _,_=>False
theorem RVs.last {K:Frag}{A:List Addr}{H:Hp}{xs:List PV}{vs:List V}{y:PV}(r:RVs K A H xs vs)(h:xs.getLast?=some y): ∃w,vs[vs.length - 1]?=some w/\RV K A H y w:=by
 rw[List.getLast?_eq_getElem?,r.len]at h;exact r.get h
theorem RVs.front {K:Frag}{A:List Addr}{H:Hp}{xs:List PV}{vs:List V}(r:RVs K A H xs vs):RVs K A H xs.dropLast vs.dropLast:=by
 rw[List.dropLast_eq_take,List.dropLast_eq_take,r.len];exact r.take _
theorem zkU:tG X "list.pop" (rG X.K zaF):=by
 intro pins s σ H v vs vv us Q I rv rvs ⟨A,st,x,xs,Q3,rs,ex,exs,h,k⟩;unfold zaF at h
 split at h
 ·cases exs
  cases ex with
  | val e=>cases e
  | obj eo=>
   have hm:=List.mem_of_getElem? eo
   split at h
   ·rename_i zs q
    obtain⟨ws,h1,r,z⟩:=rs.at_ _ _ _ eo q
    split at h
    ·rename_i y e
     obtain⟨w,ew,rw'⟩:=r.last e;refine zkB pins s σ H _ _ vv us Q I rv rvs ⟨_,ws,w,rfl,rfl,h1,ew,k A _ _ _ _ (.put hm) (rs.put (q:= .lst zs.dropLast) eo ⟨_,yQ,(r.front).grow (.put hm),?_⟩) (.val (rw'.grow (.put hm))) h⟩;rw[List.length_dropLast];omega
    ·exact h.elim
   ·exact h.elim
 ·exact h.elim
def qF:PV->z4->Option (List (z7×PV))
 | .dct kvs,_=>some kvs
 | .obj i,st=>(match st[i]? with | some (.dct kvs)=>some kvs | _=>none)
 | _,_=>none
theorem zc8 {K:Frag}{A:List Addr}{H:Hp}{st:z4}{x:PV}{v:V}{kvs:List (z7×PV)}(rs:RS K A H st)(ex:RE K A H x v)(h:qF x st=some kvs): ∃a us,v= .ref a/\H a=some (.dK us)/\RKs K A H kvs us/\us.length<=sizeLine:=by
 cases ex with
 | val e=>
  cases e with
  | dct t z r=>cases h;exact⟨_,_,rfl,t.1,r,z⟩
  | _=>cases h
 | obj eo=>
  dsimp only[qF]at h
  split at h
  ·rename_i q
   cases h;obtain⟨vs,h1,r,z⟩:=rs.at_ _ _ _ eo q;exact⟨_,_,rfl,h1,r,z⟩
  ·cases h
def zr8:PV->y6:=λx xs st Q=>match qF x st,xs with
 | some kvs,[y]=>(match vK y with | some k=>Q ((zR kvs k).getD .non) st | none=>False)
 | some kvs,[y,z]=>(match vK y with | some k=>yP z=true/\Q ((zR kvs k).getD z) st | none=>False)
 | _,_=>False
def zaC:PV->y6:=λx xs st Q=>match x,xs with
 | .str sep,[y]=> ∃ss:List Str,oU y st=some (ss.map PV.str)/\(ss.map (·.length)).sum+ss.length * sep.length<=16777216/\Q (.str (Txt.join sep ss)) st
 | _,_=>False
theorem zkT:tG X "str.join" (rG X.K zaC):=by
 intro pins s σ H v vs vv us Q I rv rvs ⟨A,st,x,xs,Q3,rs,ex,exs,h,k⟩;unfold zaC at h
 split at h
 ·obtain⟨w,rfl,ey⟩:=yT.one exs
  cases sC ex;obtain⟨ss,e,hl,h⟩:=h;obtain⟨a,ws,rfl,hs,r,z⟩:=ze9 rs ey e;cases zaP r;exact zkA pins s σ H _ _ vv us Q I rv rvs ⟨_,a,ss,rfl,rfl,hs,hl,k.now rs (.val (.str _)) h⟩
 ·exact h.elim
def uD:PV->Bool
 | .non=>true
 | .bl _=>true
 | .int _=>true
 | .str _=>true
 | _=>false
def vO (x:PV)(ys:List PV):Bool:=ys.any λy=>zX y x
theorem aU {K:Frag}{A:List Addr}{H:Hp}{x:PV}{v:V}(r:RV K A H x v):sP v=uD x:=by
 cases r <;> rfl
theorem aV {K:Frag}{A:List Addr}{H:Hp} : ∀{xs:List PV} {vs:List V},RVs K A H xs vs->vs.all sP=xs.all uD
 | _,_,.nil=>rfl
 | _,_,.cons r t=>by rw[List.all_cons,List.all_cons,aU r,aV t]
theorem ziH {K:Frag}{A:List Addr}{H:Hp}{x y:PV}{v w:V}(r:RV K A H x v)(r2:RV K A H y w)(f:uD x=true)(f2:uD y=true):sO v w=zX x y:=by
 cases r <;> first | (exact absurd f Bool.false_ne_true) | skip
 all_goals (cases r2 <;> first | (exact absurd f2 Bool.false_ne_true) | skip)
 all_goals (unfold sO zX;rfl)
theorem zab {K:Frag}{A:List Addr}{H:Hp}{x:PV}{v:V}(r:RV K A H x v)(f:uD x=true): ∀{xs:List PV} {vs:List V},RVs K A H xs vs->xs.all uD=true->qH v vs=vO x xs
 | _,_,.nil,_=>rfl
 | _,_,.cons r1 t,h=>by
  rw[List.all_cons,Bool.and_eq_true]at h;have ih:=zab r f t h.2;unfold qH vO at ih⊢
  rw[List.any_cons,List.any_cons,ih,ziH r1 r h.1 f]
def pY:PV->z4->Option (List PV)
 | .tup xs,_=>some xs
 | .lst xs,_=>some xs
 | .obj i,st=>(match st[i]? with | some (.lst xs)=>some xs | _=>none)
 | _,_=>none
def uI (neg:Bool):R3:=λx y st Q=>match pY y st with
 | some xs=>(uD x=true/\xs.all uD=true)/\Q (.bl (if neg then !vO x xs else vO x xs)) st
 | none=>(match qF y st with
  | some kvs=>(match vK x with | some k=>Q (.bl (if neg then !(zR kvs k).isSome else(zR kvs k).isSome)) st | none=>False)
  | none=>(match x,y with | .str i,.str j=>Q (.bl (if neg then !(!(Builtin.Str.occurrences j i 0 j.length 1).isEmpty)else !(Builtin.Str.occurrences j i 0 j.length 1).isEmpty)) st | _,_=>False))
theorem zfL {K:Frag}{A:List Addr}{H:Hp}{st:z4}{x:PV}{v:V}{xs:List PV}(rs:RS K A H st)(ex:RE K A H x v)(h:pY x st=some xs): ∃a vs,v= .ref a/\(yW K H a vs∨xQ K H a vs)/\RVs K A H xs vs:=by
 cases ex with
 | val e=>
  cases e with
  | lst t z r=>cases h;exact⟨_,_,rfl,.inl t.sq,r⟩
  | tup t z r=>cases h;exact⟨_,_,rfl,.inr t.sq,r⟩
  | _=>cases h
 | obj eo=>
  dsimp only[pY]at h
  split at h
  ·rename_i q
   cases h;obtain⟨vs,h1,r,z⟩:=rs.at_ _ _ _ eo q;exact⟨_,_,rfl,.inl (.of h1),r⟩
  ·cases h
theorem zdX {x:PV}(h:uD x=true):yP x=true:=by
 cases x <;> first | rfl | cases h
theorem zap {k:Nat}(hr:y4 k X.A):yG X (compareOp .In) (xN X.K (uI false)):=tZ λpins s σ H A st x y v w vv ww Q3 Q I rs ex ey rv rw h k=>by
 have hu:X.A.units+1 < cLine:=by have:=hr.units;omega
 unfold uI at h
 split at h
 ·rename_i xs e
  obtain⟨a,ws,rfl,hs,r⟩:=zfL rs ey e;obtain⟨⟨f1,f2⟩,h⟩:=h;have ex':=ex.rv (zdX f1);refine zl3 pins s σ H _ _ vv ww Q I rv rw ⟨a,ws,rfl,hs,by rw[aU ex'];exact f1,by rw[aV r];exact f2,?_⟩;have e2:=zab ex' f1 r f2;have:(if false=true then !qH v ws else qH v ws)=vO x xs:=by rw[if_neg Bool.false_ne_true,e2]
  rw[this];exact k.now rs (.val (.bl _)) h
 ·split at h
  ·rename_i kvs e
   obtain⟨a,us,rfl,h1,r,z⟩:=zc8 rs ey e
   split at h
   ·rename_i kk ek
    cases rw;refine zi0 hu I (.inl ⟨us,kk,.inl h1,sR ex ek,rfl⟩) rv λs' I'=>⟨.bl _,H,I',rfl,?_⟩;rcases r.val (k:=kk)with⟨x',v',e1,e2,r'⟩ | ⟨e1,e2⟩
    ·rw[e2];rw[e1]at h;exact k.now rs (.val (.bl _)) h
    ·rw[e2];rw[e1]at h;exact k.now rs (.val (.bl _)) h
   ·exact h.elim
  ·split at h
   ·cases sC ex;cases sC ey
    exact zl4 pins s σ H _ _ vv ww Q I rv rw ⟨_,_,rfl,rfl,k.now rs (.val (.bl _)) h⟩
   ·exact h.elim
theorem zeR {k:Nat}(hr:y4 k X.A):yG X (compareOp .NotIn) (xN X.K (uI true)):=tZ λpins s σ H A st x y v w vv ww Q3 Q I rs ex ey rv rw h k=>by
 have hu:X.A.units+1 < cLine:=by have:=hr.units;omega
 unfold uI at h
 split at h
 ·rename_i xs e
  obtain⟨a,ws,rfl,hs,r⟩:=zfL rs ey e;obtain⟨⟨f1,f2⟩,h⟩:=h;have ex':=ex.rv (zdX f1);refine zl9 pins s σ H _ _ vv ww Q I rv rw ⟨a,ws,rfl,hs,by rw[aU ex'];exact f1,by rw[aV r];exact f2,?_⟩;have e2:=zab ex' f1 r f2;have:(if true=true then !qH v ws else qH v ws)= !vO x xs:=by rw[if_pos rfl,e2]
  rw[this];exact k.now rs (.val (.bl _)) h
 ·split at h
  ·rename_i kvs e
   obtain⟨a,us,rfl,h1,r,z⟩:=zc8 rs ey e
   split at h
   ·rename_i kk ek
    cases rw;refine zi2 hu I (.inl ⟨us,kk,.inl h1,sR ex ek,rfl⟩) rv λs' I'=>⟨.bl _,H,I',rfl,?_⟩;rcases r.val (k:=kk)with⟨x',v',e1,e2,r'⟩ | ⟨e1,e2⟩
    ·rw[e2];rw[e1]at h;exact k.now rs (.val (.bl _)) h
    ·rw[e2];rw[e1]at h;exact k.now rs (.val (.bl _)) h
   ·exact h.elim
  ·split at h
   ·cases sC ex;cases sC ey
    exact zl_ pins s σ H _ _ vv ww Q I rv rw ⟨_,_,rfl,rfl,k.now rs (.val (.bl _)) h⟩
   ·exact h.elim
end
end L3
namespace L3
open PySem PySem.Spec PyProof.Rows L2
section
variable {X:Cx} {o:Expr} {To:zA} {p ap cp pos:Pos}
end
end L3
namespace L3
open PySem PySem.Spec PyProof.Rows L2
theorem at0 {α:Type}{x:α}{xs:List α} :atI (x::xs) 0=some x:=wY (j:=0) rfl
theorem at1 {α:Type}{x y:α}{xs:List α} :atI (x::y::xs) 1=some y:=wY (j:=1) rfl
theorem at2 {α:Type}{x y z:α}{xs:List α} :atI (x::y::z::xs) 2=some z:=wY (j:=2) rfl
theorem at3 {α:Type}{x y z u:α}{xs:List α} :atI (x::y::z::u::xs) 3=some u:=wY (j:=3) rfl
theorem at4 {α:Type}{x y z u v:α}{xs:List α} :atI (x::y::z::u::v::xs) 4=some v:=wY (j:=4) rfl
theorem ix0 {n:Nat} :xT (n+1) 0=some 0:=by unfold xT;rw[if_pos (by decide),if_pos (by omega)];rfl
theorem ix1 {n:Nat} :xT (n+2) 1=some 1:=by unfold xT;rw[if_pos (by decide),if_pos (by omega)];rfl
theorem zgy {α:Type}{st:List α} :st.take (st.length+0)=st:=by simp
theorem iK {α:Type}{st:List α}{i:Nat}{x:α} :(st.set i x).take (st.length+0)=st.set i x:=by rw[Nat.add_zero,List.take_of_length_le (by simp)]
theorem set_set {α:Type}{st:List α}{i:Nat}{x y:α} :(st.set i x).set i y=st.set i y:=by simp
theorem tU {α:Type}{st:List α}{i:Nat}{x y:α}(h:st[i]?=some y):(st.set i x)[i]?=some x:=List.getElem?_set_self (List.getElem?_eq_some_iff.mp h).1
end L3
namespace L3
open PySem PySem.Spec PyProof.Rows L2
def rE (l:List (Str×Int)):PV:= .tup (l.map λq=> .tup [.str q.1,.int q.2])
theorem zj7 {α:Type}{st:List α}{i:Nat}{x:α}(h:(st[i]?).isSome=true):(st.set i x)[i]?=some x:=by
 obtain⟨y,e⟩:=Option.isSome_iff_exists.mp h;exact tU e
theorem ziL {Q:K3}{st:z4}{x:PO} :xG (st.length+1) Q (.obj st.length) (st++ [x])=Q (.obj st.length) (st++ [x]):=by
 show(if st.length < st.length+1 then _ else _)=_;rw[if_pos (Nat.lt_succ_self _),List.take_of_length_le (by simp)]
theorem j3 {Q:K3}{st:z4}{xs:List PV} :xG (st.length+0) Q (.obj st.length) (st++ [.lst xs])=Q (.lst xs) st:=by
 show(if st.length < st.length+0 then _ else _)=_;rw[if_neg (by omega)];have:(st++ [PO.lst xs])[st.length]?=some (.lst xs):=by simp
 rw[this];simp
theorem zcR {Q:K3}{st:z4}{xs:List (z7×PV)} :xG (st.length+0) Q (.obj st.length) (st++ [.dct xs])=Q (.dct xs) st:=by
 show(if st.length < st.length+0 then _ else _)=_;rw[if_neg (by omega)];have:(st++ [PO.dct xs])[st.length]?=some (.dct xs):=by simp
 rw[this];simp
theorem oF {α:Type}(f:α->PV){ns:List α}{k:Int}(h0:0<=k)(h1:k < ns.length): ∃z∈ns,atI (ns.map f) k=some (f z):=by
 obtain⟨y,hy,e⟩:=zhJ (ns.map f) h0 (by simpa using h1);obtain⟨z,hz,rfl⟩:=List.mem_map.mp hy;exact⟨z,hz,e⟩
theorem rO {α:Type}{st:List α}{x:α} :(st++ [x])[st.length]?=some x:=by simp
theorem nB {α:Type}{st:List α}{x y:α} :(st++ [x]).set st.length y=st++ [y]:=by simp
theorem zbm {α:Type}{st:List α}{x:α} :(st++ [x]).take (st.length+0)=st:=by simp
theorem zoj {α:Type}{st:List α}{x:α} :(st++ [x]).take (st.length+1)=st++ [x]:=by rw[List.take_of_length_le (by simp)]
end L3
namespace L3
open PySem PySem.Spec PyProof.Rows L2
theorem rN {α:Type}{e:List α}(h:e.length=1): ∃a,e= [a]:=List.length_eq_one_iff.mp h
def CP (f:PV->Option PV)(own:Nat)(xs:List PV)(env:zF)(st:z4)(i:Nat)(ys:List PV)(env':zF)(st':z4):Prop:=ys=(xs.take i).filterMap f/\st'=st/\∃e',e'.length=own/\env'=env++e'
theorem lN {α:Type}{xs:List α}{i:Nat}{x:α}(h:xs[i]?=some x):xs.take (i+1)=xs.take i++ [x]:=by rw[List.take_succ,h];rfl
theorem CP.yes {f:PV->Option PV}{own:Nat}{xs:List PV}{env:zF}{st:z4}{i:Nat}{x y:PV}{e':zF}(h:xs[i]?=some x)(hf:f x=some y)(he:e'.length=own):CP f own xs env st (i+1) ((xs.take i).filterMap f++ [y]) (env++e') st:=by
 refine⟨?_,rfl,e',he,rfl⟩;rw[lN h,List.filterMap_append,List.filterMap_cons,hf];rfl
theorem CP.no {f:PV->Option PV}{own:Nat}{xs:List PV}{env:zF}{st:z4}{i:Nat}{x:PV}{e':zF}(h:xs[i]?=some x)(hf:f x=none)(he:e'.length=own):CP f own xs env st (i+1) ((xs.take i).filterMap f) (env++e') st:=by
 refine⟨?_,rfl,e',he,rfl⟩;rw[lN h,List.filterMap_append,List.filterMap_cons,hf];simp
theorem tS {own:Nat}{g:wC}{tt:xA}{el:zA}{xs:List PV}{Q:List PV->z4->Prop}{env:zF}{st:z4}(f:PV->Option PV)
  (hs: ∀i x e,xs[i]?=some x->e.length=own->g x (env++e) st λe1 s1=>tt e1 s1 λb s2=>if b=true then el e1 s2 λy s3=>yP y=true/\CP f own xs env st (i+1) ((xs.take i).filterMap f++ [y]) e1 s3 else CP f own xs env st (i+1) ((xs.take i).filterMap f) e1 s2)
  (hd:Q (xs.filterMap f) st):o9 own g tt el none xs Q env st:=by
 refine⟨CP f own xs env st,⟨by simp,rfl,_,by simp,rfl⟩,?_,?_⟩
 ·rintro i x ys env' st' hx ⟨rfl,rfl,e',he,rfl⟩
  exact hs i x e' hx he
 ·rintro ys env' st' ⟨rfl,rfl,e',he,rfl⟩
  show Q _ _;rw[List.take_of_length_le (Nat.le_refl _)];exact hd
theorem wZ {g:wC}{b:yU}{src:xY}{xs:List PV}{D:xR}{env:zF}{st:z4}(P:Nat->zF->z4->Prop)(h0:P 0 env st)
  (hs: ∀i x env st,xs[i]?=some x->P i env st->tP src st (g x env st λe s=>b {D with nx:=P (i+1),ct:=P (i+1),bk:=D.nx} e s)) (hd: ∀env st,P xs.length env st->tP src st (D.nx env st)):iY g b src xs D env st:=⟨P,h0,hs,hd⟩
theorem wW {α:Type}{f:α->PV}{l:List α}{i:Nat}{x:PV}(h:(l.map f)[i]?=some x): ∃y,l[i]?=some y/\x=f y:=by
 rw[List.getElem?_map]at h;cases e:l[i]? with
 | none=>rw[e]at h;cases h
 | some y=>rw[e]at h;exact⟨y,rfl,(Option.some.inj h).symm⟩
theorem zcP {x:PV}{Q:K3}{st:z4}(h:yP x=true)(q:Q x st):xG (st.length+0) Q x st:=by
 cases x with
 | obj i=>cases h
 | _=>show Q _ (st.take (st.length+0));rw[zgy];exact q
theorem ziK {x:PV}{Q:K3}{st:z4}{i:Nat}{o:PO}(h:yP x=true)(q:Q x (st.set i o)):xG (st.length+0) Q x (st.set i o):=by
 cases x with
 | obj i=>cases h
 | _=>show Q _ ((st.set i o).take (st.length+0));rw[iK];exact q
theorem zcD {α:Type}{f:α->PV}{n:Nat}(h: ∀x,zE (f x)<=n): ∀(l:List α),dpts (l.map f)<=n
 | []=>by rw[List.map_nil];unfold dpts;exact Nat.zero_le _
 | x::l=>by
  rw[List.map_cons];unfold dpts;exact Nat.max_le.mpr ⟨h x,zcD h l⟩
theorem zc_ (l:List (Str×Int)):zE (rE l)<=2:=by
 unfold rE zE;exact Nat.succ_le_succ (zcD (λq=>by simp[zE,dpts]) l)
end L3
namespace L3
open PySem PySem.Spec PyProof.Rows L2
theorem zaW {α:Type}{st:List α}{i:Nat}{x o:α}(h:i < st.length):(st++ [o]).set i x=st.set i x++ [o]:=by rw[List.set_append_left _ _ h]
theorem j7 {α:Type}{st:List α}{i:Nat}{x o:α}(h:st[i]?=some x):(st++ [o])[i]?=some x:=by rw[List.getElem?_append_left (List.getElem?_eq_some_iff.mp h).1];exact h
end L3
namespace L3
open PySem PySem.Spec PyProof.Rows L2
theorem sY {t u:yU}{D:xR}{env:zF}{st:z4}(P:zF->z4->Prop)(h1: ∀N:zF->z4->Prop,(∀e s,P e s->N e s)->t {D with nx:=N} env st)(h2: ∀e s,P e s->u D e s):uK t u D env st:=h1 (u D) h2
theorem rJ:(∀{i j:Int},zX (.int i) (.int j)=(i==j))/\(∀{a b:Str},zX (.str a) (.str b)=(a==b))/\(∀{a b:Bool},zX (.bl a) (.bl b)=(a==b))/\(zX .non .non=true)/\(∀{a b:List PV},zX (.tup a) (.tup b)=eqPs a b)/\(∀{a b:List PV},zX (.lst a) (.lst b)=eqPs a b)/\(∀{i:Int},zX (.int i) .non=false)/\(∀{i:Str},zX (.str i) .non=false)/\(∀{i:List PV},zX (.tup i) .non=false)/\(∀{i:Int},zX .non (.int i)=false)/\(∀{i:Str},zX .non (.str i)=false)/\(∀{i:List PV},zX .non (.tup i)=false)/\(∀{a:List PV} {b:Str},zX (.tup a) (.str b)=false)/\(∀{a:List PV} {b:Str},zX (.str b) (.tup a)=false)/\(eqPs [] []=true)/\(∀{x xs},eqPs (x::xs) []=false)/\(∀{x xs},eqPs [] (x::xs)=false)/\(∀{x xs y ys},eqPs (x::xs) (y::ys)=(zX x y&&eqPs xs ys)):=by
 refine⟨?_,?_,?_,?_,?_,?_,?_,?_,?_,?_,?_,?_,?_,?_,?_,?_,?_,?_⟩ <;> intros <;> first | rfl | (unfold zX;rfl) | (unfold eqPs;rfl)
theorem zcA:(zE .non=0)/\(∀{i},zE (.int i)=0)/\(∀{i},zE (.str i)=0)/\(∀{i},zE (.bl i)=0)/\(∀{i},zE (.tup i)=dpts i+1)/\(∀{i},zE (.lst i)=dpts i+1)/\(dpts []=0)/\(∀{x xs},dpts (x::xs)=max (zE x) (dpts xs)):=by
 refine⟨?_,?_,?_,?_,?_,?_,?_,?_⟩ <;> intros <;> first | rfl | (unfold zE;rfl) | (unfold dpts;rfl)
theorem zcB (l:List (Str×Int)):zE (rE l)<=50:=Nat.le_trans (zc_ l) (by decide)
theorem zcC (l:List (Str×Int)):zE (rE l) < 1000:=Nat.lt_of_le_of_lt (zc_ l) (by decide)
end L3
namespace L3
open PySem PySem.Spec PyProof.Rows L2
def zgH:yU:=λ_ _ _=>False
section
variable {X:Cx}
theorem zmN {st:Stmt} :PS X st (xK X.K zgH):=sA zm1 λD σ H ⟨A,env,s,D3,rel,h,k⟩=>h
theorem zia (n:Nat):sliceBounds none none (some (-1)) n=((n:Int) - 1,-1,-1):=by
 simp[sliceBounds]
theorem znk (n:Nat):sliceRange ((n:Int) - 1) (-1) (-1)=(List.range n).map λk=>n - 1 - k:=by
 unfold sliceRange;have e:(if(-1:Int) > 0 then(if(n:Int) - 1 < -1 then((-1:Int) - ((n:Int) - 1)+ -1 - 1) / -1 else 0)else(if(n:Int) - 1 > -1 then((n:Int) - 1 - -1 - -1 - 1) / (- -1)else 0)).toNat=n:=by
  rw[if_neg (by decide),show(- -1:Int)=1 by decide,Int.ediv_one]
  split <;> omega
 show(List.range ((if(-1:Int) > 0 then(if(n:Int) - 1 < -1 then((-1:Int) - ((n:Int) - 1)+ -1 - 1) / -1 else 0)else(if(n:Int) - 1 > -1 then((n:Int) - 1 - -1 - -1 - 1) / (- -1)else 0)).toNat)).map _=_;rw[e];refine List.map_congr_left λk hk=> ?_;have:=List.mem_range.mp hk;omega
theorem zmr (its:List Value):slicePick its.toArray none none (some (-1))=its.reverse.toArray:=by
 unfold slicePick;rw[zia];dsimp only;rw[znk]
 congr 1
 have gen: ∀(l:List Value) (n:Nat),n<=l.length->((List.range n).map λk=>n - 1 - k).filterMap (λi=>l.toArray[i]?)=(l.take n).reverse:=by
  intro l n
  induction n with
  | zero=>intro _;simp
  | succ n ih=>
   intro h;rw[List.range_succ_eq_map,List.map_cons,List.map_map,List.filterMap_cons];have h1:l.toArray[n+1 - 1 - 0]?=some l[n]:=by simp
   rw[h1];have e:((λk=>n+1 - 1 - k) ∘ Nat.succ)=λk=>n - 1 - k:=by funext k;show n+1 - 1 - (k+1)=n - 1 - k;omega
   rw[e,ih (by omega),lN (x:=l[n]) (by simp),List.reverse_append];rfl
 have:=gen its its.toArray.size (by simp);rw[this,List.take_of_length_le (by simp)]
def zoe (K:Frag)(te:TE)(tl:TO):TE:=λσ H Q=>te σ H λx H1=>tl σ H1 λl H2=>l=some (-1)/\∃a xs,x= .ref a/\yW K H2 a xs/\∀p,H2 p=none->Q (.ref p) (zJ H2 p (.lst xs.reverse))
theorem zmb {e se:Expr}{te:TE}{tl:TO}{p2 pos:Pos}(he:PE X e te)(hl:L2.PO X (some se) tl):PE X (.Subscript e (.Slice none none (some se) p2) pos) (zoe X.K te tl):=by
 refine⟨λpins s σ H Q I h=> ?_⟩;refine Subscript_ (zU (he pins s σ H _ I h) λv s1 ⟨x,H1,I1,r1,q1⟩=> ?_);refine wpAny_Slice ?_;rw[evalPart_none];refine wpAny_pure (wpAny_pure ?_);refine zU (hl pins s1 σ H1 _ I1 q1) λvu s3 ⟨u,H3,I3,pu,hu,a,xs,ex,hx,q⟩=> ?_;subst hu ex;cases r1;have I4:z5 X pins σ H3 {s3 with heap:=s3.heap.push {cls:= .type "slice",data:= .fields #[.none,.none,vu]}} :=I3.kept (t':=s3.toks) λb ob q=>Heap.get?_push_of_some _ q;obtain⟨its,r,ht,hz⟩:=I4.list hx;have hlen:=r.length;show wpAny (model X.prog X.w) X.A (subscriptTail e (.Slice none none (some se) p2) (.ref a) (.ref s3.heap.objs.size)) (EP X pins σ Q) X.xe {s3 with heap:=s3.heap.push {cls:= .type "slice",data:= .fields #[.none,.none,vu]}};refine tail_any (ops:= [.ref a,.ref s3.heap.objs.size]) ht.isList.typeIs slot_list_getitem.lookup ?_ (by with_unfolding_all rfl);refine wpAny_getItem_list_slice ht.isList (Heap.IsSliceOf.new ..) .none .none pu (by simp) ?_ (by rw[List.size_toArray] <;> omega);rw[zmr];refine⟨.ref _,_,I4.laid (t':=s3.toks) (o:= .lst xs.reverse) (λb ob q=>Heap.get?_push_of_some _ q) (Nat.le_refl _) ?_,rfl,q _ (I4.hok.fresh (Nat.le_refl _))⟩;exact⟨by rw[List.length_reverse];exact hz,its.reverse,0,r.reverse,Heap.get?_push_size _ rfl⟩
def zgL (T:zA)(Tl:rD):zA:=λenv st Q=>T env st λx st1=>Tl env st1 λl st2=>l=some (-1)/\(match x with | .lst xs=>Q (.lst xs.reverse) st2 | _=>False)
theorem zfx {e se:Expr}{Ta:zA}{Tl:rD}{p2 pos:Pos}(he:PE X e (zL X.K Ta))(hl:L2.PO X (some se) (mE X.K Tl)):PE X (.Subscript e (.Slice none none (some se) p2) pos) (zL X.K (zgL Ta Tl)):=by
 refine xW (zmb he hl) λσ H Q ⟨A,env,st,Q3,rel,h,k⟩=>⟨A,env,st,_,rel,h,λA1 H1 st1 x v g1 s1 e1 h1=>⟨A1,env,st1,_,rel.grow g1 s1,h1,λA2 H2 st2 l g2 s2 h2=>⟨h2.1,?_⟩⟩⟩;have h3:=h2.2
 split at h3
 ·cases e1.grow g2 with | val e=>cases e with | lst t z r=>
   exact⟨_,_,rfl,t.sq,(k.after (g1.trans g2)).lst s2 r.reverse (by rw[List.length_reverse];exact z) h3⟩
 ·exact h3.elim
end
end L3
namespace L3
open PySem PySem.Spec PyProof.Rows L2
theorem fB (xs:List PV)(a:Nat):wU xs (some (a:Int)) none=xs.drop a:=by
 unfold wU;rw[HT.sIx_nat,HT.sIx_none];rcases Nat.le_total a xs.length with h | h
 ·rw[Nat.min_eq_left h,List.take_of_length_le (by rw[List.length_drop];exact Nat.le_refl _)]
 ·rw[Nat.min_eq_right h,List.drop_of_length_le (Nat.le_refl _),List.drop_of_length_le h];simp
theorem oH (xs:List PV)(b:Nat):wU xs none (some (b:Int))=xs.take b:=by
 unfold wU;rw[HT.sIx_nat,HT.sIx_none,List.drop_zero,Nat.sub_zero];rcases Nat.le_total b xs.length with h | h
 ·rw[Nat.min_eq_left h]
 ·rw[Nat.min_eq_right h,List.take_of_length_le (Nat.le_refl _),List.take_of_length_le h]
end L3
namespace L3
open PySem PySem.Spec PyProof.Rows L2
section
variable {α:Type} [DecidableEq α]
end
section
variable {α:Type} [DecidableEq α]
def both (w:List α)(a b:Nat)(u:List α)(c d:Nat)(v:List α):List α:=w.take a++u++(w.take c).drop b++v++w.drop d
end
section
variable {X:Cx}
theorem zf9 {vs:List V}{its:List Value}{acc:Array Value}(r:zH vs its)(h:ItemsOf (λi v=>its.toArray[its.toArray.size - 1 - i]?=some v) acc its.toArray.size):zH vs.reverse acc.toList:=by
 have hl:=r.length;have h1:acc.size=its.length:=by simpa using h.1
 have h2:acc.toList.length=acc.size:=Array.length_toList;refine lR (by rw[List.length_reverse];omega) λj v x hv hx=> ?_;have hj:j < acc.size:=by have:=(List.getElem?_eq_some_iff.mp hv).1;simpa using this
 have q:=h.2 j v (by simpa using hv);have hj2:j < vs.length:=by omega
 rw[List.getElem?_reverse hj2]at hx;have hk:vs.length - 1 - j < vs.length:=by omega
 obtain⟨u,hu,ru⟩:=r.get (i:=vs.length - 1 - j) (x:=x) hx;rw[List.size_toArray,<- hl]at q;have q2:its[vs.length - 1 - j]?=some v:=by simpa using q
 rw[q2]at hu;cases hu;exact ru
def zoC (T:zA):zA:=λenv st Q=>T env st λx st1=>match x with | .tup xs=>Q (.tup xs.reverse) st1 | _=>False
end
end L3
namespace L3
open PySem PySem.Spec PyProof.Rows L2
section
variable {X:Cx} {a b c:Expr} {pos:Pos} {Tx:yI}
def zo_ (i j l:Nat)(T:yI):yU:=λD env st=>T env st λxs st1=>match xs with | [x,y,z]=>D.nx (((env.set l (some z)).set j (some y)).set i (some x)) st1 | _=>False
end
end L3
namespace L3
open PySem PySem.Spec PyProof.Rows L2
section
variable {X:Cx}
end
end L3
namespace L3
set_option smartUnfolding false
open PySem PySem.Spec PyProof.Rows L2
def wD {α:Type}(o:Option α)(F:α->Prop):Prop:=match o with | some x=>F x | none=>False
section
variable {i j:Int} {a b:Str} {xs ys zs:List PV} {x y z:PV} {n m:Nat} {st:z4} {Q:K3} {p q:Bool} {kvs:List (z7×PV)} {env:zF}
@[simp] theorem zpg:n9 (.int i) (.int j) st Q=Q (.int (i+j)) st:=rfl
@[simp] theorem zpi:n9 (.str a) (.str b) st Q=(a.length+b.length<=sizeLine/\Q (.str (a++b)) st):=rfl
@[simp] theorem zpj:n9 (.tup xs) (.tup ys) st Q=(xs.length+ys.length<=sizeLine/\Q (.tup (xs++ys)) st):=rfl
@[simp] theorem zph:n9 (.lst xs) (.lst ys) st Q=(xs.length+ys.length<=sizeLine/\Q (.lst (xs++ys)) st):=rfl
@[simp] theorem zrf:zaK (.int i) (.int j) st Q=Q (.int (i - j)) st:=rfl
@[simp] theorem zqx:i8 (.int i) (.int j) st Q=(((-(2 ^ 64) < i/\i < 2 ^ 64)∨(-(2 ^ 64) < j/\j < 2 ^ 64))/\Q (.int (i * j)) st):=rfl
@[simp] theorem zqy:i8 (.str a) (.int i) st Q=(if i=0 then Q (.str Str.empty) st else i=1/\Q (.str a) st):=rfl
@[simp] theorem zqw:zaD (.int i) (.int j) st Q=(0 < j/\Q (.int (i % j)) st):=rfl
@[simp] theorem zpy:za8 (.int i) (.int j) st Q=((0 < j/\j < 1099511627776)/\Q (.int (i / j)) st):=rfl
@[simp] theorem zqQ:zaH (.int i) (.int j) st Q=(lV i j/\Q (.int (i ^ j.toNat)) st):=rfl
@[simp] theorem zqz:zaE (.int i) st Q=Q (.int (-i)) st:=rfl
@[simp] theorem zpu {f:Int->Int->Bool} :qO f (.int i) (.int j) st Q=Q (.bl (f i j)) st:=rfl
@[simp] theorem zpQ:zmU x .non st Q=Q (.bl (tJ x)) st:=rfl
@[simp] theorem zq_:znd x .non st Q=Q (.bl (!tJ x)) st:=rfl
@[simp] theorem zq0:tJ .non=true:=rfl
@[simp] theorem zq3:tJ (.int i)=false:=rfl
@[simp] theorem zq6:tJ (.str a)=false:=rfl
@[simp] theorem zq1:tJ (.bl p)=false:=rfl
@[simp] theorem zq7:tJ (.tup xs)=false:=rfl
@[simp] theorem zq4:tJ (.lst xs)=false:=rfl
@[simp] theorem zq2:tJ (.dct kvs)=false:=rfl
@[simp] theorem zq5:tJ (.obj n)=false:=rfl
@[simp] theorem zqk:vK (.int i)=some (.inl i):=rfl
@[simp] theorem zcI:vK (.str a)=some (.inr a):=rfl
def ixO (o:Option PO)(y:PV)(st:z4)(Q:K3):Prop:=match o with
 | some (.lst xs)=>(match y with | .int i=>wD (atI xs i) λz=>Q z st | _=>False)
 | some (.dct kvs)=>wD (vK y) λk=>wD (zR kvs k) λz=>Q z st
 | _=>False
@[simp] theorem zqj:qP (.tup xs) (.int i) st Q=wD (atI xs i) λz=>Q z st:=rfl
@[simp] theorem zqg:qP (.lst xs) (.int i) st Q=wD (atI xs i) λz=>Q z st:=rfl
@[simp] theorem zqi:qP (.str a) (.int i) st Q=(a.length<=sizeLine/\wD (atI a.cps.toList i) λc=>Q (.str ⟨#[c]⟩) st):=rfl
@[simp] theorem zi_:qP (.dct kvs) y st Q=wD (vK y) λk=>wD (zR kvs k) λz=>Q z st:=rfl
@[simp] theorem ziA:qP (.obj n) y st Q=ixO st[n]? y st Q:=rfl
@[simp] theorem zqh:ixO (some (.lst xs)) (.int i) st Q=wD (atI xs i) λz=>Q z st:=rfl
@[simp] theorem ziB:ixO (some (.dct kvs)) y st Q=wD (vK y) λk=>wD (zR kvs k) λz=>Q z st:=rfl
def zaV (o:Option PO)(n:Nat)(i v:PV)(st:z4)(Q:z4->Prop):Prop:=match o with
 | some (.lst xs)=>(match i with | .int k=>yP v=true/\wD (xT xs.length k) λj=>Q (st.set n (.lst (xs.set j v))) | _=>False)
 | some (.dct kvs)=>wD (vK i) λk=>yP v=true/\kvs.length < sizeLine/\Q (st.set n (.dct (wM kvs k v)))
 | _=>False
@[simp] theorem zqX {Q:z4->Prop} :mY (.obj n) x y st Q=zaV st[n]? n x y st Q:=rfl
@[simp] theorem zqZ {Q:z4->Prop} :zaV (some (.lst xs)) n (.int i) y st Q=(yP y=true/\wD (xT xs.length i) λj=>Q (st.set n (.lst (xs.set j y)))):=rfl
@[simp] theorem zqY {Q:z4->Prop} :zaV (some (.dct kvs)) n x y st Q=wD (vK x) λk=>yP y=true/\kvs.length < sizeLine/\Q (st.set n (.dct (wM kvs k y))):=rfl
@[simp] theorem zrc {l h:Option Int} :pI (.tup xs) l h st Q=Q (.tup (wU xs l h)) st:=rfl
@[simp] theorem zra {l h:Option Int} :pI (.lst xs) l h st Q=Q (.lst (wU xs l h)) st:=rfl
@[simp] theorem zrb {l h:Option Int} :pI (.str a) l h st Q=(a.length<=sizeLine/\((Txt.slice a l h).length<=a.length->Q (.str (Txt.slice a l h)) st)):=rfl
def zai (o:Option PO)(k:Nat->Prop):Prop:=match o with | some (.lst xs)=>k xs.length | some (.dct kvs)=>k kvs.length | _=>False
@[simp] theorem zql:i7 [x] st Q=pG x st λn=>Q (.int n) st:=rfl
@[simp] theorem zqr {k:Nat->Prop} :pG (.tup xs) st k=k xs.length:=rfl
@[simp] theorem zqm {k:Nat->Prop} :pG (.lst xs) st k=k xs.length:=rfl
@[simp] theorem zqq {k:Nat->Prop} :pG (.str a) st k=(a.length<=sizeLine/\k a.length):=rfl
@[simp] theorem zqn {k:Nat->Prop} :pG (.obj n) st k=zai st[n]? k:=rfl
@[simp] theorem zqp {k:Nat->Prop} :zai (some (.lst xs)) k=k xs.length:=rfl
@[simp] theorem zqo {k:Nat->Prop} :zai (some (.dct kvs)) k=k kvs.length:=rfl
def zbs (o:Option PO)(st:z4)(Q:K3):Prop:=match o with | some (.lst ys)=>Q (.tup ys) st | some (.dct kvs)=>Q (.tup (kvs.map λq=>match q.1 with | .inl i=> .int i | .inr z=> .str z)) st | _=>False
@[simp] theorem zru:mZ [.lst ys] st Q=Q (.tup ys) st:=rfl
@[simp] theorem zry:mZ [.tup ys] st Q=Q (.tup ys) st:=rfl
@[simp] theorem zrv:mZ [.obj n] st Q=zbs st[n]? st Q:=rfl
@[simp] theorem zrx:zbs (some (.lst ys)) st Q=Q (.tup ys) st:=rfl
@[simp] theorem zrw:zbs (some (.dct kvs)) st Q=Q (.tup (kvs.map λq=>match q.1 with | .inl i=> .int i | .inr z=> .str z)) st:=rfl
@[simp] theorem zpZ {t:String} :zaA [x,.ty t] st Q=wD (wI x t) λb=>Q (.bl b) st:=rfl
@[simp] theorem zpE:wI (.bl p) "int" =some true:=rfl
@[simp] theorem zpF:wI (.bl p) "bool" =some true:=rfl
@[simp] theorem zpG:wI (.bl p) "str" =some false:=rfl
@[simp] theorem zpH:wI (.bl p) "tuple" =some false:=rfl
@[simp] theorem zpI:wI (.bl p) "list" =some false:=rfl
@[simp] theorem zpJ:wI (.int i) "int" =some true:=rfl
@[simp] theorem zpK:wI (.int i) "bool" =some false:=rfl
@[simp] theorem zpL:wI (.int i) "str" =some false:=rfl
@[simp] theorem zpM:wI (.int i) "tuple" =some false:=rfl
@[simp] theorem zpN:wI (.int i) "list" =some false:=rfl
@[simp] theorem zpR:wI (.str a) "int" =some false:=rfl
@[simp] theorem zpS:wI (.str a) "str" =some true:=rfl
@[simp] theorem zpT:wI (.str a) "tuple" =some false:=rfl
@[simp] theorem zpU:wI (.tup xs) "int" =some false:=rfl
@[simp] theorem zpV:wI (.tup xs) "str" =some false:=rfl
@[simp] theorem zpW:wI (.tup xs) "tuple" =some true:=rfl
@[simp] theorem zpX:wI (.tup xs) "list" =some false:=rfl
@[simp] theorem zpO:wI (.lst xs) "tuple" =some false:=rfl
@[simp] theorem zpP:wI (.lst xs) "list" =some true:=rfl
@[simp] theorem zpD:i5 [.int i] st Q=Q (.int i) st:=rfl
@[simp] theorem zpC:i5 [.bl p] st Q=Q (.int (if p then 1 else 0)) st:=rfl
@[simp] theorem zqv:znc [.int i,.int j] st Q=Q (.int (if j < i then j else i)) st:=rfl
@[simp] theorem zqu:znb [.int i,.int j] st Q=Q (.int (if j > i then j else i)) st:=rfl
def zbr (o:Option PO)(k:Bool->Prop):Prop:=match o with | some (.lst xs)=>k (!xs.isEmpty) | some (.dct xs)=>k (!xs.isEmpty) | _=>False
@[simp] theorem zro {k:Bool->Prop} :tN .non st k=k false:=rfl
@[simp] theorem zrk {k:Bool->Prop} :tN (.bl p) st k=k p:=rfl
@[simp] theorem zrm {k:Bool->Prop} :tN (.int i) st k=k (i !=0):=rfl
@[simp] theorem zrs {k:Bool->Prop} :tN (.str a) st k=(a.length<=sizeLine/\k ((a.length:Int) !=0)):=rfl
@[simp] theorem zrt {k:Bool->Prop} :tN (.tup xs) st k=k (!xs.isEmpty):=rfl
@[simp] theorem zrn {k:Bool->Prop} :tN (.lst xs) st k=k (!xs.isEmpty):=rfl
@[simp] theorem zrl {k:Bool->Prop} :tN (.dct kvs) st k=k (!kvs.isEmpty):=rfl
@[simp] theorem zrp {k:Bool->Prop} :tN (.obj n) st k=zbr st[n]? k:=rfl
@[simp] theorem zrr {k:Bool->Prop} :zbr (some (.lst xs)) k=k (!xs.isEmpty):=rfl
@[simp] theorem zrq {k:Bool->Prop} :zbr (some (.dct kvs)) k=k (!kvs.isEmpty):=rfl
def zch (o:Option PO)(n:Nat)(y:PV)(st:z4)(Q:K3):Prop:=match o with | some (.lst zs)=>yP y=true/\zs.length < sizeLine/\Q .non (st.set n (.lst (zs++ [y]))) | _=>False
@[simp] theorem zps:jZ (.obj n) [y] st Q=zch st[n]? n y st Q:=rfl
@[simp] theorem zpt:zch (some (.lst zs)) n y st Q=(yP y=true/\zs.length < sizeLine/\Q .non (st.set n (.lst (zs++ [y])))):=rfl
def zcS (o:Option PO)(n:Nat)(ys:List PV)(st:z4)(Q:K3):Prop:=match o with | some (.lst zs)=>zs.length+ys.length<=sizeLine/\Q .non (st.set n (.lst (zs++ys))) | _=>False
@[simp] theorem zp6:za_ (.obj n) [.lst ys] st Q=zcS st[n]? n ys st Q:=rfl
@[simp] theorem zp7:zcS (some (.lst zs)) n ys st Q=(zs.length+ys.length<=sizeLine/\Q .non (st.set n (.lst (zs++ys)))):=rfl
def zfp (o:Option PO)(n:Nat)(st:z4)(Q:K3):Prop:=match o with | some (.lst zs)=>wD zs.getLast? λy=>Q y (st.set n (.lst zs.dropLast)) | _=>False
@[simp] theorem zqO:zaF (.obj n) [] st Q=zfp st[n]? n st Q:=rfl
@[simp] theorem zqP:zfp (some (.lst zs)) n st Q=wD zs.getLast? λy=>Q y (st.set n (.lst zs.dropLast)):=rfl
def dctO (o:Option PO):Option (List (z7×PV)):=match o with | some (.dct kvs)=>some kvs | _=>none
@[simp] theorem zpv:qF (.dct kvs) st=some kvs:=rfl
@[simp] theorem zpw:qF (.obj n) st=dctO st[n]?:=rfl
@[simp] theorem zpx:dctO (some (.dct kvs))=some kvs:=rfl
def tyO (o:Option PO):String:=match o with | some (.lst _)=> "list" | some (.dct _)=> "dict" | _=> ""
@[simp] theorem zr0:sQ (.lst xs) st= "list" :=rfl
@[simp] theorem zrz:sQ (.dct kvs) st= "dict" :=rfl
@[simp] theorem zr4:sQ (.str a) st= "str" :=rfl
@[simp] theorem zr1:sQ (.obj n) st=tyO st[n]?:=rfl
@[simp] theorem zr3:tyO (some (.lst xs))= "list" :=rfl
@[simp] theorem zr2:tyO (some (.dct kvs))= "dict" :=rfl
def zae (o:Option PO):Option (List PV):=match o with | some (.lst xs)=>some xs | some (.dct kvs)=>some (kvs.map λq=>u0 q.1) | _=>none
@[simp] theorem zqb:qI (.lst xs) st=some xs:=rfl
@[simp] theorem zqf:qI (.tup xs) st=some xs:=rfl
@[simp] theorem zqa:qI (.dct kvs) st=some (kvs.map λq=>u0 q.1):=rfl
@[simp] theorem zqc:qI (.obj n) st=zae st[n]?:=rfl
@[simp] theorem zqe:zae (some (.lst xs))=some xs:=rfl
@[simp] theorem zqd:zae (some (.dct kvs))=some (kvs.map λq=>u0 q.1):=rfl
@[simp] theorem zqs:zmZ [x] st Q=wD (qI x st) λys=>Q (.lst ys) st:=rfl
@[simp] theorem zqt:zna [x] st Q=wD (qI x st) λys=>Q (.obj st.length) (st++ [.lst ys]):=rfl
def zgz (Q:Bool->z4->Prop)(x:PV)(st:z4):Prop:=match x with | .bl k=>Q k st | _=>False
@[simp] theorem zrg {T:zA}{Q:Bool->z4->Prop} :lO T env st Q=T env st (zgz Q):=rfl
@[simp] theorem zrh {Q:Bool->z4->Prop} :zgz Q (.bl p) st=Q p st:=rfl
def zcg (T:zA)(env:zF)(Q:K3)(x:PV)(st:z4):Prop:=match x with | .bl c=>if c=true then T env st Q else Q (.bl false) st | _=>False
@[simp] theorem zpk {T U:zA} :zg9 T U env st Q=T env st (zcg U env Q):=rfl
@[simp] theorem zpl {T:zA} :zcg T env Q (.bl p) st=if p=true then T env st Q else Q (.bl false) st:=rfl
def orK (T:zA)(env:zF)(Q:K3)(x:PV)(st:z4):Prop:=match x with | .bl c=>if c=true then Q (.bl true) st else T env st Q | _=>False
@[simp] theorem zqI {T U:zA} :zo9 T U env st Q=T env st (orK U env Q):=rfl
@[simp] theorem zqJ {T:zA} :orK T env Q (.bl p) st=if p=true then Q (.bl true) st else T env st Q:=rfl
def zeL (Q:K3)(x:PV)(st:z4):Prop:=match x with | .bl c=>Q (.bl (!c)) st | _=>False
@[simp] theorem zq8 {T:zA} :zo8 T env st Q=T env st (zeL Q):=rfl
@[simp] theorem zq9:zeL Q (.bl p) st=Q (.bl (!p)) st:=rfl
@[simp] theorem zp_ {gs:tH}{Q:zF->z4->Prop} :gT n gs (.tup xs) env st Q=(xs.length=n/\gs xs env st Q):=rfl
@[simp] theorem zp8 {gs:tH}{Q:zF->z4->Prop} :gT n gs (.lst xs) env st Q=(xs.length=n/\gs xs env st Q):=rfl
@[simp] theorem zpB {Q:zF->z4->Prop} :gsN [] env st Q=Q env st:=rfl
@[simp] theorem zpA {g:wC}{gs:tH}{Q:zF->z4->Prop} :gsC g gs (x::xs) env st Q=g x env st λenv1 st1=>gs xs env1 st1 Q:=rfl
def zfh (n m:Nat)(D:xR)(env:zF)(xs:List PV)(st:z4):Prop:=match xs with | [x,y]=>D.nx ((env.set n (some x)).set m (some y)) st | _=>False
@[simp] theorem zqK {T:yI}{D:xR} :zgJ n m T D env st=T env st (zfh n m D env):=rfl
@[simp] theorem zqL {D:xR} :zfh n m D env [x,y] st=D.nx ((env.set n (some x)).set m (some y)) st:=rfl
def zfg (n m l:Nat)(D:xR)(env:zF)(xs:List PV)(st:z4):Prop:=match xs with | [x,y,z]=>D.nx (((env.set l (some z)).set m (some y)).set n (some x)) st | _=>False
@[simp] theorem zqM {l:Nat}{T:yI}{D:xR} :zo_ n m l T D env st=T env st (zfg n m l D env):=rfl
@[simp] theorem zqN {l:Nat}{D:xR} :zfg n m l D env [x,y,z] st=D.nx (((env.set l (some z)).set m (some y)).set n (some x)) st:=rfl
def gL (o:Option PO)(n:Nat)(st:z4)(Q:xY->List PV->z4->Prop):Prop:=match o with | some (.lst xs)=>Q (some (n,.lst xs)) xs st | _=>False
def nX (Q:xY->List PV->z4->Prop)(x:PV)(st:z4):Prop:=match x with
 | .lst xs=>Q none xs st
 | .tup xs=>Q none xs st
 | .str z=>z.length<=sizeLine/\Q none (qU z) st
 | .obj n=>gL st[n]? n st Q
 | _=>False
@[simp] theorem zpm {T:zA}{Q:xY->List PV->z4->Prop} :zeg T env st Q=T env st (nX Q):=rfl
@[simp] theorem zpn {Q:xY->List PV->z4->Prop} :nX Q (.lst xs) st=Q none xs st:=rfl
@[simp] theorem zpr {Q:xY->List PV->z4->Prop} :nX Q (.tup xs) st=Q none xs st:=rfl
@[simp] theorem zpq {Q:xY->List PV->z4->Prop} :nX Q (.str a) st=(a.length<=sizeLine/\Q none (qU a) st):=rfl
@[simp] theorem zpo {Q:xY->List PV->z4->Prop} :nX Q (.obj n) st=gL st[n]? n st Q:=rfl
@[simp] theorem zpp {Q:xY->List PV->z4->Prop} :gL (some (.lst xs)) n st Q=Q (some (n,.lst xs)) xs st:=rfl
def zfA (Q:xY->List PV->z4->Prop)(xs:List PV)(st:z4):Prop:=match xs with | [.int j]=>(-1000000<=j/\j<=1000000)/\Q none (xM 0 j.toNat) st | _=>False
@[simp] theorem zqT {T:yI}{Q:xY->List PV->z4->Prop} :zei T env st Q=T env st (zfA Q):=rfl
@[simp] theorem zqU {Q:xY->List PV->z4->Prop} :zfA Q [.int j] st=((-1000000<=j/\j<=1000000)/\Q none (xM 0 j.toNat) st):=rfl
def zf_ (Q:xY->List PV->z4->Prop)(xs:List PV)(st:z4):Prop:=match xs with | [.int i,.int j]=>(-1000000<=i/\i<=1000000/\ -1000000<=j/\j<=1000000)/\Q none (xM i (j - i).toNat) st | _=>False
@[simp] theorem zqV {T:yI}{Q:xY->List PV->z4->Prop} :zej T env st Q=T env st (zf_ Q):=rfl
@[simp] theorem zqW {Q:xY->List PV->z4->Prop} :zf_ Q [.int i,.int j] st=((-1000000<=i/\i<=1000000/\ -1000000<=j/\j<=1000000)/\Q none (xM i (j - i).toNat) st):=rfl
def zfP (Q:Option Int->z4->Prop)(x:PV)(st:z4):Prop:=match x with | .int i=>Q (some i) st | _=>False
@[simp] theorem zrd {T:zA}{Q:Option Int->z4->Prop} :zeN T env st Q=T env st (zfP Q):=rfl
@[simp] theorem zre {Q:Option Int->z4->Prop} :zfP Q (.int i) st=Q (some i) st:=rfl
def zg3 (Q:K3)(x:PV)(st:z4):Prop:=match x with | .tup xs=>Q (.tup xs.reverse) st | _=>False
@[simp] theorem zri {T:zA} :zoC T env st Q=T env st (zg3 Q):=rfl
@[simp] theorem zrj:zg3 Q (.tup xs) st=Q (.tup xs.reverse) st:=rfl
def zf8 (Q:K3)(x:PV)(st:z4):Prop:=match x with | .lst xs=>Q (.lst xs.reverse) st | _=>False
@[simp] theorem zqR {T:zA}{U:rD} :zgL T U env st Q=T env st λx st1=>U env st1 λl st2=>l=some (-1)/\zf8 Q x st2:=rfl
@[simp] theorem zqS:zf8 Q (.lst xs) st=Q (.lst xs.reverse) st:=rfl
@[simp] theorem zp1:xG m Q (.int i) st=Q (.int i) (st.take m):=rfl
@[simp] theorem zp4:xG m Q (.str a) st=Q (.str a) (st.take m):=rfl
@[simp] theorem zpz:xG m Q (.bl p) st=Q (.bl p) (st.take m):=rfl
@[simp] theorem zp3:xG m Q .non st=Q .non (st.take m):=rfl
@[simp] theorem zp5:xG m Q (.tup xs) st=Q (.tup xs) (st.take m):=rfl
@[simp] theorem zp2:xG m Q (.lst xs) st=Q (.lst xs) (st.take m):=rfl
@[simp] theorem zp0:xG m Q (.dct kvs) st=Q (.dct kvs) (st.take m):=rfl
@[simp] theorem zr5 {P:Prop} :tP none st P=P:=rfl
@[simp] theorem zr6 {P:Prop}{o:PO} :tP (some (n,o)) st P=(st[n]?=some o/\P):=rfl
@[simp] theorem zqE:yP .non=true:=rfl
@[simp] theorem zqC:yP (.int i)=true:=rfl
@[simp] theorem zqG:yP (.str a)=true:=rfl
@[simp] theorem zqA:yP (.bl p)=true:=rfl
@[simp] theorem zqH:yP (.tup xs)=true:=rfl
@[simp] theorem zqD:yP (.lst xs)=true:=rfl
@[simp] theorem zqB:yP (.dct kvs)=true:=rfl
@[simp] theorem zqF:yP (.obj n)=false:=rfl
end
@[simp] theorem zse {D:xR}{env:zF}{st:z4} :zbz D env st=(D.nx env st):=rfl
@[simp] theorem zrG {T:zA}{g:wC}{D:xR}{env:zF}{st:z4} :nJ T g D env st=(T env st λx st1=>g x env st1 D.nx):=rfl
@[simp] theorem zrX {c:xA}{t u:yU}{D:xR}{env:zF}{st:z4} :iR c t u D env st=(c env st λb st1=>if b=true then t D env st1 else u D env st1):=rfl
@[simp] theorem zsk {T:zA}{D:xR}{env:zF}{st:z4} :zgK T D env st=(T env st D.rt):=rfl
@[simp] theorem zsl {D:xR}{w1:zF}{st:z4} :zoB D w1 st=(D.rt .non st):=rfl
@[simp] theorem zrU {T:zA}{D:xR}{env:zF}{st:z4} :iQ T D env st=(T env st λ_ st1=>D.nx env st1):=rfl
@[simp] theorem zsn {T:zA}{env:zF}{st:z4}{Q:Bool->z4->Prop} :zgN T env st Q=(T env st λx st1=>tN x st1 λk=>Q k st1):=rfl
@[simp] theorem zrF {t u:xA}{env:zF}{st:z4}{Q:Bool->z4->Prop} :iO t u env st Q=(t env st λc st1=>if c=true then u env st1 Q else Q false st1):=rfl
@[simp] theorem zsi {t u:xA}{env:zF}{st:z4}{Q:Bool->z4->Prop} :vOr t u env st Q=(t env st λc st1=>if c=true then Q true st1 else u env st1 Q):=rfl
@[simp] theorem zsg {t:xA}{env:zF}{st:z4}{Q:Bool->z4->Prop} :zgI t env st Q=(t env st λc st1=>Q (!c) st1):=rfl
@[simp] theorem zrW {t:xA}{Ta Tb:zA}{env:zF}{st:z4}{Q:K3} :vIf t Ta Tb env st Q=(t env st λc st1=>if c=true then Ta env st1 Q else Tb env st1 Q):=rfl
@[simp] theorem zsh {R:R3}{Ta Tb:zA}{env:zF}{st:z4}{Q:K3} :q0 R Ta Tb env st Q=(Ta env st λx st1=>Tb env st1 λy st2=>R x y st2 Q):=rfl
@[simp] theorem zsp {R:PV->z4->K3->Prop}{Ta:zA}{env:zF}{st:z4}{Q:K3} :vUn R Ta env st Q=(Ta env st λx st1=>R x st1 Q):=rfl
@[simp] theorem zrL {x:PV}{w0:zF}{st:z4}{Q:K3} :vC x w0 st Q=(Q x st):=rfl
@[simp] theorem zsf {w0:zF}{st:z4}{Q:List PV->z4->Prop} :o7 w0 st Q=(Q [] st):=rfl
@[simp] theorem zrQ {Ta:zA}{Tr:yI}{env:zF}{st:z4}{Q:List PV->z4->Prop} :t5 Ta Tr env st Q=(Ta env st λx st1=>Tr env st1 λxs st2=>Q (x::xs) st2):=rfl
@[simp] theorem zso {T:yI}{env:zF}{st:z4}{Q:K3} :zgO T env st Q=(T env st λxs st1=>uS xs=true/\Q (.tup xs) st1):=rfl
@[simp] theorem zrZ {T:yI}{env:zF}{st:z4}{Q:K3} :zgC T env st Q=(T env st λxs st1=>uS xs=true/\Q (.lst xs) st1):=rfl
@[simp] theorem zsa {T:yI}{env:zF}{st:z4}{Q:K3} :zgD T env st Q=(T env st λxs st1=>uS xs=true/\Q (.obj st1.length) (st1++ [.lst xs])):=rfl
@[simp] theorem zrM {R:y6}{T:yI}{env:zF}{st:z4}{Q:K3} :rZ R T env st Q=(T env st λxs st1=>R xs st1 Q):=rfl
@[simp] theorem zsm {T:zA}{Tl Th:rD}{env:zF}{st:z4}{Q:K3} :vSl T Tl Th env st Q=(T env st λx st1=>Tl env st1 λl st2=>Th env st2 λu st3=>pI x l u st3 Q):=rfl
@[simp] theorem zrA {w0:zF}{st:z4}{Q:Option Int->z4->Prop} :zeM w0 st Q=(Q none st):=rfl
@[simp] theorem zr_ {To Ti:zA}{v:PV}{env:zF}{st:z4}{Q:zF->z4->Prop} :gS To Ti v env st Q=(To env st λo st1=>Ti env st1 λi st2=>mY o i v st2 λst3=>Q env st3):=rfl
@[simp] theorem zrH {T:String}{R:PV->y6}{To:zA}{TA:yI}{env:zF}{st:z4}{Q:K3} :vBM T R To TA env st Q=(To env st λx st1=>sQ x st1=T/\TA env st1 λxs st2=>R x xs st2 Q):=rfl
@[simp] theorem zrI {T:String}{R:PV->y6}{To:zA}{env:zF}{st:z4}{Q:K3} :zg_ T R To env st Q=(To env st λx st1=>sQ x st1=T/\R x [] st1 Q):=rfl
@[simp] theorem zrS {w0:zF}{st:z4}{Q:K3} :zgA w0 st Q=(Q (.obj st.length) (st++ [.dct []])):=rfl
@[simp] theorem zrK {D:xR}{env:zF}{st:z4} :zo2 D env st=(D.bk env st):=rfl
@[simp] theorem zrR {D:xR}{env:zF}{st:z4} :zo4 D env st=(D.ct env st):=rfl
@[simp] theorem zrC {x:PV}{y:PV}{st:z4}{Q:K3} :za9 x y st Q=((zE x<=50/\zE y < 1000)/\Q (.bl (zX x y)) st):=rfl
@[simp] theorem zrD {x:PV}{y:PV}{st:z4}{Q:K3} :zf1 x y st Q=((zE x<=50/\zE y < 1000)/\Q (.bl (!zX x y)) st):=rfl
@[simp] theorem zr9 {i:Nat}{x:PV}{env:zF}{st:z4}{Q:zF->z4->Prop} :gN i x env st Q=(Q (env.set i (some x)) st):=rfl
@[simp] theorem zsd {w0:xR}{w1:zF}{w2:z4} :zgH w0 w1 w2=(False):=rfl
@[simp] theorem zrV {I:uL}{g:wC}{b:yU}{D:xR}{env:zF}{st:z4} :zgB I g b D env st=(I env st λsrc xs st1=>iY g b src xs D env st1):=rfl
@[simp] theorem zrO {own:Nat}{I:uL}{g:wC}{tt:xA}{el:zA}{env:zF}{st:z4}{Q:K3} :iP own I g tt el env st Q=(I env st λsrc xs st1=>o9 own g tt el src xs (λys st2=>Q (.lst ys) st2) env st1):=rfl
@[simp] theorem zrP {own:Nat}{I:uL}{g:wC}{tt:xA}{el:zA}{env:zF}{st:z4}{Q:K3} :zbx own I g tt el env st Q=(I env st λsrc xs st1=>o9 own g tt el src xs (λys st2=>Q (.obj st2.length) (st2++ [.lst ys])) env st1):=rfl
@[simp] theorem zsq {w0:zF}{st:z4}{Q:Bool->z4->Prop} :zgP w0 st Q=(Q true st):=rfl
@[simp] theorem zrE {N:List Str}{xs:List PV} :nH N xs=xs.map some++List.replicate (N.length - xs.length) none:=rfl
@[simp] theorem zrB {xs:List PV} :uS xs=(xs.all yP&&Nat.ble xs.length 1000):=rfl
@[simp] theorem zpe {x:PV}{e:zF}{st:z4}{Q:K3} :vR 0 (some x::e) st Q=Q x st:=rfl
@[simp] theorem zpf {i:Nat}{x:Option PV}{e:zF}{st:z4}{Q:K3} :vR (i+1) (x::e) st Q=vR i e st Q:=rfl
@[simp] theorem zoZ {α:Type}{x:α}{F:α->Prop} :wD (some x) F=F x:=rfl
section
variable {α β:Type} {x y z u v:α} {xs ys:List α} {f:α->β} {n i:Nat} {p:Prop} {b:Bool} {st:List α}
@[simp] theorem zoU:(x::xs).map f=f x::xs.map f:=rfl
@[simp] theorem zoV:([]:List α).map f= []:=rfl
@[simp] theorem zoS:(x::xs).length=xs.length+1:=rfl
@[simp] theorem zoT:([]:List α).length=0:=rfl
@[simp] theorem zoK:(x::xs)++ys=x::(xs++ys):=rfl
@[simp] theorem zoL: []++ys=ys:=rfl
@[simp] theorem zpa:List.replicate (n+1) x=x::List.replicate n x:=rfl
@[simp] theorem zpb:List.replicate 0 x= []:=rfl
@[simp] theorem zpc:(x::xs).set 0 y=y::xs:=rfl
@[simp] theorem zpd:(x::xs).set (n+1) y=x::xs.set n y:=rfl
@[simp] theorem zoQ:(x::xs)[0]?=some x:=rfl
@[simp] theorem zoR:(x::xs)[n+1]?=xs[n]?:=rfl
@[simp] theorem zoX:(!true)=false:=rfl
@[simp] theorem zoW:(!false)=true:=rfl
@[simp] theorem zct:(some x).isSome=true:=rfl
@[simp] theorem zoP:(some x).getD y=x:=rfl
@[simp] theorem zoO:(none:Option α).getD y=y:=rfl
@[simp] theorem zoI {q:α->Bool} :(x::xs).all q=(q x&&xs.all q):=rfl
@[simp] theorem zoJ {q:α->Bool} :([]:List α).all q=true:=rfl
@[simp] theorem zoM {m:Nat} :Nat.ble (n+1) (m+1)=Nat.ble n m:=rfl
end
section
variable {Q:K3} {st:z4} {x:PO} {xs:List PV} {kvs:List (z7×PV)} {i j:Int} {a b:Str} {p q:Bool} {l:List (Str×Int)}
@[simp] theorem zoN {m:Nat} :xG m Q (rE l) st=Q (rE l) (st.take m):=rfl
@[simp] theorem zoY:yP (rE l)=true:=rfl
end
theorem cB:(∀{α:Type} {x:α} {xs:List α},atI (x::xs) 0=some x)/\(∀{α:Type} {x y:α} {xs:List α},atI (x::y::xs) 1=some y)/\(∀{α:Type} {x y z:α} {xs:List α},atI (x::y::z::xs) 2=some z)/\(∀{α:Type} {x y z u:α} {xs:List α},atI (x::y::z::u::xs) 3=some u)/\(∀{α:Type} {x y z u v:α} {xs:List α},atI (x::y::z::u::v::xs) 4=some v)/\
  (∀{n:Nat},xT (n+1) 0=some 0)/\(∀{n:Nat},xT (n+2) 1=some 1)/\(∀{p:Prop},(True/\p)=p)/\(∀{p:Prop},(p/\True)=p)/\(∀{q r:Prop},(if True then q else r)=q)/\(∀{q r:Prop},(if False then q else r)=r)/\((false=true)=False)/\(∀{p:Prop},(p∨True)=True)/\(∀{p:Prop},(True∨p)=True)/\(∀{p:Prop},(p/\p)=p)/\
  (∀{α:Type} {st:List α},st.take (st.length+0)=st)/\(∀{α:Type} {st:List α},st.take st.length=st)/\(∀{α:Type} {st:List α} {i:Nat} {x:α},(st.set i x).take (st.length+0)=st.set i x)/\(∀{α:Type} {st:List α} {i:Nat} {x:α},(st.set i x).take st.length=st.set i x)/\(∀{α:Type} {st:List α} {i:Nat} {x y:α},(st.set i x).set i y=st.set i y)/\
  (∀{α:Type} {st:List α} {i:Nat} {x:α},(st[i]?).isSome=true->(st.set i x)[i]?=some x)/\(∀{α:Type} {st:List α} {x:α},(st++ [x])[st.length]?=some x)/\(∀{α:Type} {st:List α} {x y:α},(st++ [x]).set st.length y=st++ [y])/\(∀{α:Type} {st:List α} {x:α},(st++ [x]).take (st.length+0)=st)/\(∀{α:Type} {st:List α} {x:α},(st++ [x]).take st.length=st)/\(∀{α:Type} {st:List α} {x:α},(st++ [x]).take (st.length+1)=st++ [x])/\
  (∀{b:Bool},(b&&true)=b)/\(∀{b:Bool},(true&&b)=b)/\(∀{m:Nat},Nat.ble 0 m=true)/\(∀{m:Nat},(0<=m)=True)/\(∀{n:Nat},max n 0=n)/\(∀{n:Nat},max 0 n=n)/\(∀{h:Decidable True},@decide True h=true)/\(∀{h:Decidable False},@decide False h=false)/\
  (∀{Q:K3} {st:z4} {x:PO},xG (st.length+1) Q (.obj st.length) (st++ [x])=Q (.obj st.length) (st++ [x]))/\(∀{Q:K3} {st:z4} {xs:List PV},xG (st.length+0) Q (.obj st.length) (st++ [.lst xs])=Q (.lst xs) st)/\(∀{Q:K3} {st:z4} {kvs:List (z7×PV)},xG (st.length+0) Q (.obj st.length) (st++ [.dct kvs])=Q (.dct kvs) st)/\
  (∀{Q:K3} {st:z4} {xs:List PV},xG st.length Q (.obj st.length) (st++ [.lst xs])=Q (.lst xs) st)/\(∀{Q:K3} {st:z4} {kvs:List (z7×PV)},xG st.length Q (.obj st.length) (st++ [.dct kvs])=Q (.dct kvs) st):=
 ⟨at0,at1,at2,at3,at4,ix0,ix1,true_and _,and_true _,if_pos trivial,if_neg id,Bool.false_eq_true,or_true _,true_or _,and_self _,zgy,List.take_length,iK,iK,set_set,zj7,rO,nB,zbm,zbm,zoj,Bool.and_true _,Bool.true_and _,Nat.ble_eq_true_of_le (Nat.zero_le _),eq_true (Nat.zero_le _),Nat.max_zero _,Nat.zero_max _,(by simp),(by simp),ziL,j3,zcR,j3,zcR⟩
end L3
namespace L3
open PySem PySem.Spec PyProof.Rows L2
def iS:List (zA×zA)->zF->z4->(List (PV×PV)->z4->Prop)->Prop
 | [],_,st,Q=>Q [] st
 | (tk,tv)::r,env,st,Q=>tk env st λx st1=>tv env st1 λy st2=>iS r env st2 λps st3=>Q ((x,y)::ps) st3
abbrev PRs (K:Frag)(A:List Addr)(H:Hp):List (PV×PV)->List (V×V)->Prop:=Paired λp q=>RE K A H p.1 q.1/\RE K A H p.2 q.2
theorem zfe {K:Frag} : ∀{trs:List (zA×zA)} {A:List Addr} {env:zF} {st:z4} {σ:St} {H:Hp} {Q3:List (PV×PV)->z4->Prop} {Q:List (V×V)->Hp->Prop},x9 K A H σ env st->iS trs env st Q3->
  (∀A' H' st' ps qs,zZ A H A' H'->RS K A' H' st'->PRs K A' H' ps qs->Q3 ps st'->Q qs H')->iI (trs.map λp=>(zL K p.1,zL K p.2)) σ H Q
 | [],A,env,st,σ,H,Q3,Q,rel,h,k=>k A H st [] [] (.refl _ _) rel.rs .nil h
 | (tk,tv)::r,A,env,st,σ,H,Q3,Q,rel,h,k=>
  ⟨A,env,st,_,rel,h,λA1 H1 st1 x v g1 s1 e1 h1=>⟨A1,env,st1,_,rel.grow g1 s1,h1,λA2 H2 st2 y u g2 s2 e2 h2=>
   zfe (trs:=r) (rel.grow (g1.trans g2) s2) h2 λA3 H3 st3 ps qs g3 s3 e3 h3=>k A3 H3 st3 _ _ ((g1.trans g2).trans g3) s3 (.cons ⟨e1.grow (g2.trans g3),e2.grow g3⟩ e3) h3⟩⟩
theorem zkb {k:z7} :vK (u0 k)=some k:=by cases k <;> rfl
section
variable {X:Cx}
abbrev kR (K:Frag)(trs:List (zA×zA)):List (TE×TE):=trs.map λp=>(zL K p.1,zL K p.2)
theorem zmM {pos:Pos} :qB X pos [] [] (kR X.K []):=zmx
theorem jW {pos:Pos}{k v:Expr}{ks:List (Option Expr)}{vs:List Expr}{Tk Tv:zA}{trs:List (zA×zA)}(hk:PE X k (zL X.K Tk))(hv:PE X v (zL X.K Tv))(hr:qB X pos ks vs (kR X.K trs)):qB X pos (some k::ks) (v::vs) (kR X.K ((Tk,Tv)::trs)):=zmw hk hv hr
end
end L3
namespace L3
open PySem PySem.Spec PyProof.Rows L2 PySem.SeqAt
section
variable {X:Cx} {o e:Expr} {es:List Expr} {apos cpos:Pos} {To:zA} {TA:yI} {id:String} {name:Str} {R:PV->y6}
def zac:PV->Bool | .tup _=>true | _=>false
@[simp] theorem zpY {xs:List PV} :zac (.tup xs)=true:=rfl
def zo1 (R:PV->y6)(To:zA)(TA:yI):zA:=λenv st Q=>To env st λx st1=>zac x=true/\TA env st1 λys st2=>R x ys st2 Q
@[simp] theorem zrJ {env:zF}{st:z4}{Q:K3} :zo1 R To TA env st Q=To env st λx st1=>zac x=true/\TA env st1 λys st2=>R x ys st2 Q:=rfl
end
end L3
namespace L2
open PySem PySem.Spec PyProof.Rows
section
variable {X:Cx}
end
end L2
namespace L2
open PySem PySem.Spec PyProof.Rows
end L2
namespace L3
open PySem PySem.Spec PyProof.Rows L2
def jE (kvs:List (List Int×Int))(k:List Int):Option Int:=(kvs.find? λkv=>decide (kv.1=k)).map (·.2)
def zft (kvs:List (List Int×Int))(k:List Int)(v:Int):List (List Int×Int):=
 if(kvs.any λkv=>decide (kv.1=k))=true then kvs.map (λkv=>if kv.1=k then(kv.1,v)else kv)else kvs++ [(k,v)]
def zeu:PV->z4->Option (List (List Int×Int))
 | .itb kvs,_=>some kvs
 | .obj i,st=>(match st[i]? with | some (.itb kvs)=>some kvs | _=>none)
 | _,_=>none
def zo5:zA:=λ_ st Q=>Q (.obj st.length) (st++ [.itb []])
def zo7 (Ta:zA)(TA:yI):zA:=λenv st Q=>Ta env st λx st1=>TA env st1 λys st2=> ∃(k:List Int) (kvs:List (List Int×Int)) (v:Int),ys=k.map PV.int/\zeu x st2=some kvs/\k.length<=100/\jE kvs k=some v/\Q (.int v) st2
def zoA (Td:zA)(TA:yI)(Tv:zA):yU:=λD env st=>Tv env st λv st1=>Td env st1 λx st2=>TA env st2 λys st3=> ∃(k:List Int) (i:Nat) (kvs:List (List Int×Int)) (z:Int),ys=k.map PV.int/\v= .int z/\x= .obj i/\st3[i]?=some (.itb kvs)/\k.length<=100/\kvs.length < sizeLine/\D.nx env (st3.set i (.itb (zft kvs k z)))
@[simp] theorem zrT {env:zF}{st:z4}{Q:K3} :zo5 env st Q=Q (.obj st.length) (st++ [.itb []]):=rfl
@[simp] theorem zrY {Ta:zA}{TA:yI}{env:zF}{st:z4}{Q:K3} :zo7 Ta TA env st Q=(Ta env st λx st1=>TA env st1 λys st2=> ∃(k:List Int) (kvs:List (List Int×Int)) (v:Int),ys=k.map PV.int/\zeu x st2=some kvs/\k.length<=100/\jE kvs k=some v/\Q (.int v) st2):=rfl
@[simp] theorem zsj {Td:zA}{TA:yI}{Tv:zA}{D:xR}{env:zF}{st:z4} :zoA Td TA Tv D env st=(Tv env st λv st1=>Td env st1 λx st2=>TA env st2 λys st3=> ∃(k:List Int) (i:Nat) (kvs:List (List Int×Int)) (z:Int),ys=k.map PV.int/\v= .int z/\x= .obj i/\st3[i]?=some (.itb kvs)/\k.length<=100/\kvs.length < sizeLine/\D.nx env (st3.set i (.itb (zft kvs k z)))):=rfl
section
variable {X:Cx} {a value:Expr} {es:List Expr} {pos pos' p2:Pos} {Ta Tv:zA} {TA:yI}
end
end L3
namespace L3
open PySem PySem.Spec PyProof.Rows L2
def zo3 (good:qZ->Prop)(i:Nat)(TA:yI):zA:=λenv st Q=> ∃D:qZ,env[i]?=some (some (.clo D))/\good D/\TA env st λxs st1=> ∃(k:List Int) (v:Int),xs=k.map PV.int/\k.length=3/\jE D.kvs k=some v/\Q (.int v) st1
@[simp] theorem zrN {good:qZ->Prop}{i:Nat}{TA:yI}{env:zF}{st:z4}{Q:K3} :zo3 good i TA env st Q= ∃D:qZ,env[i]?=some (some (.clo D))/\good D/\TA env st λxs st1=> ∃(k:List Int) (v:Int),xs=k.map PV.int/\k.length=3/\jE D.kvs k=some v/\Q (.int v) st1:=rfl
section
variable {X:Cx} {e:Expr} {es:List Expr} {p pos:Pos} {TA:yI}
end
end L3
namespace L2
open PySem PySem.Spec PyProof.Rows
section
variable {prog:Program} {w:World} {A:Around} {J:Addr} {fp wr:List Addr} {n:Nat} {P:Nat->Value->Prop} {Sn:Nat->Heap->Prop}
end
section
variable {prog:Program} {w:World} {A:Around} {E:Value->Shared->Prop} {s:Shared}
end
section
variable {X:Cx} {e e2:Expr} {t:TA} {tk:TA} {p pos kpos:Pos}
end
end L2
namespace L3
open PySem PySem.Spec PyProof.Rows L2
end L3
namespace L3
open PySem PySem.Spec PyProof.Rows L2
section
variable {X:Cx} {a b e:Expr} {es:List Expr} {pos p p2:Pos} {Ta Tb:zA} {TA:yI}
end
end L3
namespace Sets
open PySem
def zh4 (xs:Array Nat):Prop:= ∀i j (hi:i < xs.size) (hj:j < xs.size),i < j->xs[i] < xs[j]
structure zhv (led:Bool)(n:Nat)(t:SetTable):Prop where
 fits:t.fits n=true
 led:t.led=led
 rise:zh4 t.place
 dum:t.dummies= #[]
end Sets
namespace Sets
open PySem PyProof.Rows
def zh5 (led:Bool)(a:Addr)(es:Array (Int×Value))(h:Heap):Prop:= ∃o ep t,h.get? a=some o/\o.ExactSet/\o.data= .set es ep t/\zhv led es.size t
section
variable {prog:Program} {w:World} {K:Type} [DecidableEq K] {knd:KeyKind prog w K} {A:Around} {E:Value->Shared->Prop} {s:Shared}
end
end Sets
namespace Sets
open PySem PyProof.Rows
section
variable {prog:Program} {w:World} {A:Around} {E:Value->Shared->Prop} {s:Shared}
end
end Sets
namespace Sets
open PySem PyProof.Rows
section
variable {prog:Program} {w:World} {A:Around} {E:Value->Shared->Prop} {s:Shared}
end
end Sets
namespace Sets
open PySem PyProof.Rows
section
variable {prog:Program} {w:World} {A:Around} {E:Value->Shared->Prop} {s:Shared}
end
end Sets
namespace Sets
open PySem PyProof.Rows
section
variable {prog:Program} {w:World} {A:Around} {E:Value->Shared->Prop} {s:Shared}
abbrev zkm (w:World):Bool:= !w.params.followText "set-order"
end
inductive kM {α β:Type}(R:α->β->Prop):List α->List β->Prop
 | nil:kM R [] []
 | cons {a:α} {b:β} {l:List α} {m:List β} :R a b->kM R l m->kM R (a::l) (b::m)
def zh_ {K:Type}[DecidableEq K](ds:List K)(k:K):List K:=if k∈ds then ds else ds++ [k]
def dd {K:Type}[DecidableEq K](ks:List K):List K:=ks.foldl zh_ []
section
variable {prog:Program} {w:World} {K:Type} [DecidableEq K] (knd:KeyKind prog w K)
def IsE (e:Int×Value)(k:K):Prop:=knd.is k e.2=true/\e.1=knd.hash k/\e.2.scannable=true
def zha (es:Array (Int×Value))(ds:List K):Prop:= ∃ds':List K,ds'.Perm ds/\kM (IsE knd) es.toList ds'
variable {knd}
end
end Sets
namespace Sets
open PySem PyProof.Rows
section
variable {prog:Program} {w:World} {A:Around} {E:Value->Shared->Prop} {s:Shared} {K:Type} [DecidableEq K] {knd:KeyKind prog w K}
def Holds (knd:KeyKind prog w K)(a:Addr)(ds:List K)(h:Heap):Prop:= ∃es,zh5 (zkm w) a es h/\zha knd es ds
end
end Sets
namespace Sets
open PySem PyProof.Rows
section
variable {prog:Program} {w:World} {A:Around} {E:Value->Shared->Prop} {s:Shared} {K:Type} [DecidableEq K] {knd:KeyKind prog w K}
end
end Sets
namespace L2
open PySem PySem.Spec PyProof.Rows
section
variable {X:Cx} {pins:List (Addr×Obj)} {σ:St} {H:Hp} {s s':Shared}
end
end L2
namespace L3
open PySem PySem.Spec PyProof.Rows L2
section
variable {X:Cx} {To:zA} {o:Expr} {p q pos ap:Pos}
end
end L3
set_option maxHeartbeats 1000000
namespace L3
section
variable {α:Type} [DecidableEq α] {w U u l:List α} {A B a b:Nat}
variable {ds:List (Nat×Nat×List α)} {h k:Nat} {x:List α} {n:Nat}
end
end L3
set_option maxHeartbeats 4000000
namespace L2
open PySem PySem.Spec PyProof.Rows
section
variable {X:Cx}
end
end L2
namespace L3
open PySem PySem.Spec PyProof.Rows L2
section
variable {X:Cx}
def zaG:PV->y6:=λx xs st Q=> ∃(i k:Nat) (y:PV) (zs:List PV),x= .obj i/\xs= [.int (k:Nat)]/\st[i]?=some (.lst zs)/\zs[k]?=some y/\Q y (st.set i (.lst (zs.eraseIdx k)))
theorem RVs.erase {K:Frag}{A:List Addr}{H:Hp} : ∀{xs:List PV} {vs:List V} (n:Nat),RVs K A H xs vs->RVs K A H (xs.eraseIdx n) (vs.eraseIdx n)
 | _,_,_,.nil=> .nil
 | _,_,0,.cons r t=>t
 | _,_,n+1,.cons r t=> .cons r (RVs.erase n t)
theorem zeS:tG X "list.pop" (rG X.K zaG):=by
 intro pins s σ H v vs vv us Q I rv rvs ⟨A,st,x,xs,Q3,rs,ex,exs,h,k⟩;obtain⟨i,n,y,zs,rfl,rfl,q,hy,h⟩:=h;obtain⟨w,rfl,e1⟩:=yT.one exs;cases xL e1;cases ex with
 | val e=>cases e
 | obj eo=>
  have hm:=List.mem_of_getElem? eo;obtain⟨ws,h1,r,z⟩:=rs.at_ _ _ _ eo q;obtain⟨u,hu,ru⟩:=r.get hy;have hlt:n < ws.length:=(List.getElem?_eq_some_iff.mp hu).1;have hi:((n:Nat):Int) < 2 ^ 63:=Int.lt_of_lt_of_le (Int.ofNat_lt.mpr (Nat.lt_of_lt_of_le hlt z)) (by decide);refine zkC pins s σ H _ _ vv us Q I rv rvs ⟨_,ws,(n:Int),n,u,rfl,rfl,h1,Int.le_trans (by decide: -(2:Int) ^ 63<=0) (Int.natCast_nonneg n),hi,PySem.StrLaws.seqIndex_nonneg (Int.natCast_nonneg n) (Int.ofNat_lt.mpr hlt),hu,k A _ _ _ _ (.put hm) (rs.put (q:= .lst (zs.eraseIdx n)) eo ⟨_,yQ,(r.erase n).grow (.put hm),?_⟩) (.val (ru.grow (.put hm))) h⟩;exact Nat.le_trans (List.length_eraseIdx_le ..) z
end
end L3
namespace L2
open PySem PySem.Spec PyProof.Rows
section
variable {X:Cx} {es:List Expr} {pos:Pos} {t:TA}
end
end L2
namespace L3
open PySem PySem.Spec PyProof.Rows L2
section
variable {X:Cx} {Te:zA} {e:Expr} {p q r pos tp:Pos} {k:Nat}
end
end L3
namespace L2
open PySem PySem.Spec PyProof.Rows
section
variable {prog:Program} {w:World} {A:Around} {E:Value->Shared->Prop} {s:Shared}
end
section
variable {X:Cx} {elts:List Expr} {k:Nat} {pos':Pos}
end
end L2
namespace L3
open PySem PySem.Spec PyProof.Rows L2
section
variable {X:Cx} {a:Expr} {p pos:Pos} {TA:yI}
end
end L3
namespace L3
open PySem PySem.Spec PyProof.Rows L2
def vZ (m:Nat)(y:PV):Option PV->Option PV
 | some (.obj i)=>if i=m then some y else some (.obj i)
 | o=>o
def j5 (m:Nat)(y:PV)(env:zF):zF:=env.map (vZ m y)
section
variable {K:Frag} {A:List Addr} {H:Hp} {σ:St} {env:zF} {st0:z4} {xs:List PV}
theorem x9.freeze (r:x9 K A H σ env (st0++ [.lst xs])):x9 K (A.take st0.length) H σ (j5 st0.length (.lst xs) env) st0:=by
 have s:=r.rs.take st0.length;have et:(st0++ [PO.lst xs]).take st0.length=st0:=by rw[List.take_append_of_le_length (Nat.le_refl _),List.take_length]
 rw[et]at s;refine⟨s,by unfold j5;rw[List.length_map];exact r.len,λi x e=> ?_⟩;unfold j5 at e;rw[List.getElem?_map]at e;cases e1:env[i]? with
 | none=>rw[e1]at e;cases e
 | some o=>
  rw[e1]at e;have e2:vZ st0.length (.lst xs) o=some x:=Option.some.inj e;cases o with
  | none=>cases e2
  | some y=>
   obtain⟨v,ev,re⟩:=r.at_ i y e1;refine⟨v,ev,?_⟩;cases re with
   | val rv=>
    have:y=x:=by
     cases y with
     | obj j=>cases rv
     | _=>exact Option.some.inj e2
    rw[<- this];exact .val (rv.less oW)
   | obj eo=>
    rename_i j a;unfold vZ at e2;dsimp only at e2;by_cases hj:j=st0.length
    ·rw[if_pos hj]at e2
     cases e2;subst hj;obtain⟨vs,h1,rr,z⟩:=r.rs.at_ _ _ _ eo (by simp:(st0++ [PO.lst xs])[st0.length]?=some (.lst xs));refine .val (.lst (.inl ⟨.inl h1,λhm'=> ?_⟩) z (rr.less oW));obtain⟨k,hk,ek⟩:=List.getElem_of_mem hm';rw[List.length_take]at hk;have e3:A[k]?=some a:=by rw[<- List.getElem?_take_of_lt (show k < st0.length by omega),List.getElem?_eq_getElem (by rw[List.length_take];omega),ek]
     have:=(List.getElem?_inj (List.getElem?_eq_some_iff.mp e3).1 r.rs.nd).mp (e3.trans eo.symm);omega
    ·rw[if_neg hj]at e2
     cases e2;have hl:=r.rs.len;have hlt:=(List.getElem?_eq_some_iff.mp eo).1;rw[List.length_append,List.length_singleton]at hl;exact .obj (by rw[List.getElem?_take_of_lt (by omega)];exact eo)
end
section
variable {X:Cx} {a b:Stmt} {rst:List Stmt} {Ts Tu Tw:yU}
def zby (T:yU):yU:=λD env st=>T {D with nx:=λenv' st'=> ∃st0 xs,st'=st0++ [.lst xs]/\st.length<=st0.length/\D.nx (j5 st0.length (.lst xs) env') st0} env st
theorem zfz (h1:PS X a (xK X.K Ts))(h2:PS X b (xK X.K Tu))(h3:xI X rst (xK X.K Tw)):xI X (a::b::rst) (xK X.K (uK (zby (uK Ts Tu)) Tw)):=
 jT (mU h1 (mU h2 h3)) λD σ H ⟨A,env,st,D3,rel,h,k⟩=>⟨A,env,st,_,rel,h,λA1 H1 σ1 env1 st1 g1 r1 h1=>⟨A1,env1,st1,_,r1,h1,λA2 H2 σ2 env2 st2 g2 r2 h2=>by
  obtain⟨st0,xs,rfl,hl,h2⟩:=h2;exact⟨_,_,st0,D3,r2.freeze,h2,k.after ((g1.trans g2).take (by rw[rel.rs.len];exact hl))⟩,k.rt.after g1,(k.after g1).bk,(k.after g1).ct⟩,k.rt,k.bk,k.ct⟩
end
end L3
namespace L3
open PySem PySem.Spec PyProof.Rows L2
section
variable {K:Frag} {A B:List Addr} {H H':Hp}
theorem xP.val {a:Addr}{k:z7}{x:PV} : ∀{kvs:List (z7×PV)} {us:List (z7×V)},xP K A H a kvs us->zR kvs k=some x->∃v,vT us k=some v/\RE K A H x v
 | _,_,.nil,h=>by cases h
 | (k',x')::ps,(k2,v')::qs,.cons r t,h=>by
  have ek:k'=k2:=r.1;have rx:RR K A H a x' v':=r.2;subst ek;by_cases e:k'=k
  ·have e1:zR ((k',x')::ps) k=some x':=by unfold zR;rw[List.find?_cons,decide_eq_true e];rfl
   rw[e1]at h;cases h;refine⟨v',lQ e,?_⟩;cases rx with
   | val r=>exact .val r
   | obj _ _ e=>exact .obj e
  ·have e1:zR ((k',x')::ps) k=zR ps k:=by unfold zR;rw[List.find?_cons,decide_eq_false e]
   rw[e1]at h;obtain⟨v,e2,r2⟩:=xP.val t h;exact⟨v,(lP (p:=(k',v')) e).trans e2,r2⟩
theorem zZ.perm {C C':List Addr}(g:zZ A H (A++C) H')(h: ∀b,b∈C'->b∈C):zZ A H (A++C') H':=by
 obtain⟨⟨D,e,hD⟩,k,l⟩:=g;have:=List.append_cancel_left e;subst this;exact⟨⟨C',rfl,λb m=>hD b (h b m)⟩,k,l⟩
theorem RS.rot {p:Addr}{st tl:z4}{o:PO}(hl:A.length=st.length)(s:RS K (A++p::B) H (st++o::tl))(hn: ∀x∈tl,∀kvs,x≠PO.rcd kvs):RS K (A++(B++ [p])) H (st++(tl++ [o])):=by
 have hm: ∀b,b∈A++(B++ [p])->b∈A++p::B:=λb h=>by
  simp only[List.mem_append,List.mem_cons,List.not_mem_nil,or_false]at h⊢
  rcases h with h | h | h <;> simp[h]
 have hlen:=s.len;rw[List.length_append,List.length_append,List.length_cons,List.length_cons]at hlen;have hlB:B.length=tl.length:=by omega
 refine⟨?_,by simp only[List.length_append,List.length_cons,List.length_nil];omega,λi a u h1 h2=> ?_⟩
 ·have hp:(A++(B++ [p])).Perm (A++p::B):=List.Perm.append_left A (List.perm_append_singleton p B)
  exact hp.nodup_iff.mpr s.nd
 ·by_cases hi:i < A.length
  ·rw[List.getElem?_append_left hi]at h1
   rw[List.getElem?_append_left (by omega)]at h2;have h1':(A++p::B)[i]?=some a:=by rw[List.getElem?_append_left hi];exact h1
   refine(s.at_ i a u h1' (by rw[List.getElem?_append_left (by omega)];exact h2)).less hm λi' j q e l e'=> ?_;have hii:i'=i:=(List.getElem?_inj (List.getElem?_eq_some_iff.mp e).1 s.nd).mp (e.trans h1'.symm);subst hii;refine⟨i',by rw[List.getElem?_append_left hi];exact h1,l,?_⟩;rw[List.getElem?_append_left (by omega)]at e'⊢
   exact e'
  ·rw[List.getElem?_append_right (by omega)]at h1
   rw[List.getElem?_append_right (by omega)]at h2;by_cases hj:i < A.length+B.length
   ·rw[List.getElem?_append_left (by omega)]at h1
    rw[List.getElem?_append_left (by omega)]at h2;have hu:=hn u (List.mem_of_getElem? h2);have h1':(A++p::B)[i+1]?=some a:=by rw[List.getElem?_append_right (by omega),show i+1 - A.length=(i - A.length)+1 by omega,List.getElem?_cons_succ];exact h1
    have h2':(st++o::tl)[i+1]?=some u:=by rw[List.getElem?_append_right (by omega),show i+1 - st.length=(i - st.length)+1 by omega,List.getElem?_cons_succ];exact h2
    have oa:=s.at_ _ _ _ h1' h2';cases u with
    | lst xs=>obtain⟨vs,e,r,z⟩:=oa;exact⟨vs,e,r.less hm,z⟩
    | dct xs=>obtain⟨vs,e,r,z⟩:=oa;exact⟨vs,e,r.less hm,z⟩
    | tbl T pos q=>obtain⟨ea,ps,e,r⟩:=oa;exact⟨ea,ps,e,r.imp id λ⟨c',e1,e2,e3⟩=>⟨c',e1,e2,λm=>e3 (hm _ m)⟩⟩
    | itb kvs=>exact oa
    | rcd xs=>exact absurd rfl (hu xs)
    | fd ob xs=>obtain⟨vs,e,r,z⟩:=oa;exact⟨vs,e,r.less hm,z⟩
   ·rw[List.getElem?_append_right (by omega)]at h1
    rw[List.getElem?_append_right (by omega)]at h2;have hz:i - A.length - B.length=0:=by
     have:=(List.getElem?_eq_some_iff.mp h1).1;rw[List.length_singleton]at this;omega
    rw[hz]at h1;rw[show i - st.length - tl.length=0 by omega]at h2;obtain rfl:p=a:=Option.some.inj h1;obtain rfl:o=u:=Option.some.inj h2;have h1':(A++p::B)[A.length]?=some p:=by rw[List.getElem?_append_right (Nat.le_refl _),Nat.sub_self];rfl
    refine(s.at_ A.length p o h1' (by rw[hl,List.getElem?_append_right (Nat.le_refl _),Nat.sub_self];rfl)).less hm λi' j q e l e'=> ?_;have hii:i'=A.length:=(List.getElem?_inj (List.getElem?_eq_some_iff.mp e).1 s.nd).mp (e.trans h1'.symm);subst hii;refine⟨A.length+B.length,by rw[List.getElem?_append_right (by omega),List.getElem?_append_right (by omega),show A.length+B.length - A.length - B.length=0 by omega];rfl,by omega,?_⟩;rw[List.getElem?_append_left (by omega)]at e'⊢
    exact e'
end
section
variable {X:Cx} {a b e:Expr} {es:List Expr} {pos p2:Pos} {Ta Tb:zA} {TA:yI}
def i6:R3:=λx y st Q=>match x with
 | .obj n=>(match y with
  | .str k=>(match st[n]? with | some (.rcd kvs)=>(match zR kvs (.inr k)with | some z=>Q z st | none=>False) | _=>False)
  | _=>False)
 | _=>False
theorem u3 {k:Nat}(hr:y4 k X.A):rB X (xN X.K i6):=by
 intro value slice pins s σ H v w vv ww Q I rv rw ⟨A,st,x,y,Q3,rs,ex,ey,h,k⟩ hs;unfold i6 at h
 split at h
 ·split at h
  ·rename_i n y' kk
   split at h
   ·rename_i kvs q
    split at h
    ·rename_i z e
     cases ex with
     | val ex=>cases ex
     | obj eo=>
      obtain⟨us,h1,r,hzz⟩:=rs.at_ _ _ _ eo q;obtain⟨v',e2,r'⟩:=xP.val r e;exact jB hr value slice pins s σ H _ _ vv ww Q I rv rw ⟨_,v',rfl,.inl ⟨_,.inr kk,.inl h1,sR ey rfl,e2.symm⟩,k.now rs r' h⟩ hs
    ·exact h.elim
   ·exact h.elim
  ·exact h.elim
 ·exact h.elim
@[simp] theorem wQ {n:Nat}{x:Str}{st:z4}{Q:K3} :i6 (.obj n) (.str x) st Q=(match st[n]? with | some (.rcd kvs)=>(match zR kvs (.inr x)with | some z=>Q z st | none=>False) | _=>False):=rfl
def zaI:V->V->V->Hp->(Hp->Prop)->Prop:=λo i v H Q=> ∃a us k,o= .ref a/\i=kV k/\H a=some (.dK us)/\us.length < sizeLine/\Q (zJ H a (.dK (wL us k v)))
theorem zfM {k:Nat}(hr:y4 k X.A):kI X zaI:=by
 intro pins s σ H o i v ov iv u Q I ro ri rv ⟨a,us,kk,eo,ei,h1,hl,q⟩;subst eo ei;cases ro;exact zc7 (by have:=hr.units;omega) I (.inl ⟨us,kk,h1,rfl,hl,rfl⟩) ri rv λs' I'=>⟨_,I',q⟩
theorem za3 {us:List (z7×V)}{k:z7}{v:V}(h:k∉us.map (·.1)):wL us k v=us++ [(k,v)]:=by
 unfold wL;rw[if_neg];intro z;obtain⟨p,hp,e⟩:=List.any_eq_true.mp z;exact h (List.mem_map.mpr ⟨p,hp,of_decide_eq_true e⟩)
theorem zeD: ∀{us acc:List (z7×V)},(us.map (·.1)).Nodup->(∀p∈us,p.1∉acc.map (·.1))->uQ acc us=acc++us
 | [],acc,_,_=>(List.append_nil _).symm
 | p::us,acc,hn,hd=>by
  rw[List.map_cons,List.nodup_cons]at hn;show uQ (wL acc p.1 p.2) us=_;rw[za3 (hd p (List.mem_cons_self ..)),zeD hn.2 λq hq=> ?_]
  ·simp
  ·rw[List.map_append,List.mem_append]
   rintro(h | h)
   ·exact hd q (List.mem_cons_of_mem _ hq) h
   ·rw[List.map_cons,List.map_nil,List.mem_singleton]at h
    exact hn.1 (h▸List.mem_map_of_mem hq)
def sB (n:Nat):PV->PV
 | .obj j=>if j < n then .obj j else .obj (j - 1)
 | x=>x
theorem zfC {K:Frag}{A B:List Addr}{H:Hp}{p:Addr} : ∀{kvs:List (z7×PV)} {qs:List (V×V)},(A++(B++ [p])).Nodup->PRs K (A++p::B) H (kvs.map λkv=>(u0 kv.1,kv.2)) qs->(∀q∈kvs,q.2≠ .obj A.length)->
  ∃us:List (z7×V),qs=us.map (λkv=>(kV kv.1,kv.2))/\us.map (·.1)=kvs.map (·.1)/\xP K (A++(B++ [p])) H p (kvs.map λq=>(q.1,sB A.length q.2)) us
 | [],qs,_,h,_=>by cases h;exact⟨[],rfl,rfl,.nil⟩
 | kv::kvs,qs,hd,h,hn=>by
  have hm: ∀b,b∈A++(B++ [p])->b∈A++p::B:=λb h=>by
   simp only[List.mem_append,List.mem_cons,List.not_mem_nil,or_false]at h⊢
   rcases h with h | h | h <;> simp[h]
  cases h with
  | @cons _ b _ _ r t=>
   obtain⟨us,rfl,ek,rk⟩:=zfC hd t λq hq=>hn q (List.mem_cons_of_mem _ hq);obtain⟨q1,q2⟩:=b;have e1:q1=kV kv.1:=sR r.1 zkb;subst e1;refine⟨(kv.1,q2)::us,rfl,by rw[List.map_cons,List.map_cons,ek],.cons ⟨rfl,?_⟩ rk⟩;have h0:=hn kv (List.mem_cons_self ..);obtain⟨k0,x0⟩:=kv;have r2:=r.2;dsimp only at r2 h0⊢
   have ip:(A++(B++ [p]))[A.length+B.length]?=some p:=by rw[List.getElem?_append_right (by omega),List.getElem?_append_right (by omega),show A.length+B.length - A.length - B.length=0 by omega];rfl
   cases r2 with
   | val rv=>
    have:sB A.length x0=x0:=by
     cases x0 with
     | obj j=>cases rv
     | _=>rfl
    rw[this];exact .val (rv.less hm)
   | obj eo=>
    rename_i j q;have hjA:j≠A.length:=λz=>h0 (by rw[z]);unfold sB;dsimp only
    split
    ·rename_i hj
     refine .obj ip (by omega) ?_;rw[List.getElem?_append_left hj]at eo⊢
     exact eo
    ·rename_i hj
     have hb:=(List.getElem?_eq_some_iff.mp eo).1;rw[List.length_append,List.length_cons]at hb;refine .obj ip (by omega) ?_;rw[List.getElem?_append_right (by omega),show j - A.length=(j - 1 - A.length)+1 by omega,List.getElem?_cons_succ]at eo;rw[List.getElem?_append_right (by omega),List.getElem?_append_left (by omega)];exact eo
theorem xP.append {K:Frag}{A:List Addr}{H:Hp}{a:Addr} : ∀{x y:List (z7×PV)} {c d:List (z7×V)},xP K A H a x c->xP K A H a y d->xP K A H a (x++y) (c++d)
 | _,_,_,_,.nil,h=>h
 | _,_,_,_,.cons r t,h=> .cons r (xP.append t h)
def zgw (K:Frag)(i:Nat)(k5 k6:Str):TS:=lK (zgv (zbh zbi (zbh zbi zgr))) (zeb K 2 (aW (aX (iJ i) (tC (.str k5)) zaI) (aW (aX (iJ i) (tC (.str k6)) zaI) zea)))
def n4 (n:Nat)(k5 k6:Str)(kvs:List (z7×PV))(m:Nat):List (z7×PV):=kvs.map (λq=>(q.1,sB n q.2))++ [(.inr k5,.obj m),(.inr k6,.obj (m+1))]
def zb1 (i:Nat)(k5 k6:Str)(trs:List (zA×zA)):yU:=λD env st=>iS trs env (st++ [.dct []]) λps st2=> ∃(kvs:List (z7×PV)) (tl:z4),ps=kvs.map (λkv=>(u0 kv.1,kv.2))/\kvs.length<=13/\st2=st++ .dct []::tl/\
 (∀x∈tl,∀kvs,x≠PO.rcd kvs)/\(∀q∈kvs,q.2≠ .obj st.length)/\((kvs.map λ(q:z7×PV)=>q.1)++ [Sum.inr k5,Sum.inr k6]).Nodup/\i < env.length/\
 D.nx (env.set i (some (.obj (st.length+tl.length+2)))) (st++(tl++ [.dct [],.dct [],.rcd (n4 st.length k5 k6 kvs (st.length+tl.length))]))
theorem zmQ {i:Nat}{x:Str}{k5 k6:Str}{pos' dpos:Pos}{keys:List (Option Expr)}{values:List Expr}{trs:List (zA×zA)}{s2:Stmt}{rst:List Stmt}{Tw:yU}(hN:X.N.Nodup)(hi:X.N[i]?=some x)(hx:sH X.env.scope x)
  (h:qB X dpos keys values (kR X.K trs)) (hall:keys.all (·.isSome)=true) (hl:keys.length=values.length) (h0:keys≠ []) (h15:keys.length<=15) (h2:PS X s2 (zgw X.K i k5 k6)) (h3:xI X rst (xK X.K Tw))
  (hs:swapsWith (.Dict keys values dpos) (some (.Name x pos')) pos.line X.env=pure false:=by rfl) (hf:X.fn x=true∨X.env.scope.names.lookup x=some .local:=by first | exact .inl rfl | exact .inr rfl | assumption):
  xI X (.Assign [.Name x pos'] (.Dict keys values dpos) pos::s2::rst) (xK X.K (uK (zb1 i k5 k6 trs) Tw)):=by
 refine jT (mU (zfr hN hi hx (zlT h hall hl h0 h15) hs hf) (mU h2 h3)) λD σ H ⟨A,env,st,D3,rel,hT,k⟩=> ?_;intro p hp;have hT':=hT;unfold uK zb1 at hT';have g0:zZ A H (A++ [p]) (zJ H p (.dK [])):= .newObj hp;have rs1:RS X.K (A++ [p]) (zJ H p (.dK [])) (st++ [.dct []]):=rel.rs.newObj (q:= .dct []) hp ⟨[],yQ,.nil,Nat.zero_le _⟩;refine zfe (rel.grow g0 rs1) hT' λA2 H2 st2 ps qs g s2 e hQ=> ?_;obtain⟨kvs,tl,rfl,h13,rfl,hno,hne,hnd,hie,q⟩:=hQ;have hAl:=rel.rs.len;obtain⟨B,eA,hB⟩:=g.ext;rw[List.append_assoc,List.singleton_append]at eA;subst eA;have g2:zZ A H (A++p::B) H2:=g0.trans g;have s3:=s2.rot hAl hno;rw[<- hAl]at hne;obtain⟨us,rfl,ek,rr⟩:=zfC s3.nd e hne;have hpA:(A++p::B)[A.length]?=some p:=by rw[List.getElem?_append_right (Nat.le_refl _),Nat.sub_self];rfl
 obtain⟨us0,e0,r0,_⟩:=s2.at_ _ _ _ hpA (by rw[hAl,List.getElem?_append_right (Nat.le_refl _),Nat.sub_self];rfl);cases r0;have hul:us.length=kvs.length:=by rw[<- List.length_map (f:=(·.1)),ek,List.length_map]
 refine⟨e0,us,rfl,by omega,?_⟩;have hnd':=List.nodup_append.mp hnd;have hm0:uQ [] us=us:=by rw[zeD (by rw[ek];exact hnd'.1) (λ_ _ z=>by simp at z)];rfl
 rw[hm0];have g3:zZ A H (A++(B++ [p])) H2:=g2.perm λb hb=>by
  simp only[List.mem_append,List.mem_cons,List.not_mem_nil,or_false]at hb⊢
  rcases hb with hb | hb <;> simp[hb]
 have hp3:(A++(B++ [p]))[A.length+B.length]?=some p:=by rw[List.getElem?_append_right (by omega),List.getElem?_append_right (by omega),show A.length+B.length - A.length - B.length=0 by omega];rfl
 have mp:p∈A++(B++ [p]):=List.mem_of_getElem? hp3;have hlB:B.length=tl.length:=by
  have:=s2.len;rw[List.length_append,List.length_append,List.length_cons,List.length_cons]at this;omega
 have gp:zZ (A++(B++ [p])) H2 (A++(B++ [p])) (zJ H2 p (.dK us)):= .put mp;have s4:RS X.K (A++(B++ [p])) (zJ H2 p (.dK us)) (st++(tl++ [.rcd (kvs.map λq=>(q.1,sB A.length q.2))])):=by
  have:=s3.put (o:= .dK us) (q:= .rcd (kvs.map λq=>(q.1,sB A.length q.2))) hp3 ⟨us,yQ,xP.grow gp rr,by rw[sizeLine_eq];omega⟩;rw[List.set_append_right _ _ (by omega),List.set_append_right _ _ (by omega),show A.length+B.length - st.length - tl.length=0 by omega]at this;exact this
 show zgw X.K i k5 k6 _ (σ.set i (some (.ref p))) (zJ H2 p (.dK us));intro p3 hp3n p4 hp4n;refine⟨by show 2<=sizeLine;decide,λp5 hp5n=>⟨p5,[.ref p3,.ref p4],rfl,.inl (.inl yQ),rfl,?_⟩⟩;have hσ:(σ.set i (some (V.ref p)))[i]?=some (some (.ref p)):=by
  rw[List.getElem?_set_self (by rw[<- rel.len];exact hie)]
 have g5:zZ (A++(B++ [p])) (zJ H2 p (.dK us)) (A++(B++ [p])++ [p3]) (zJ (zJ H2 p (.dK us)) p3 (.dK [])):= .newObj hp3n;have s5:=s4.newObj (p:=p3) (o:= .dK []) (q:= .dct []) hp3n ⟨[],yQ,.nil,Nat.zero_le _⟩;have s6:=s5.newObj (p:=p4) (o:= .dK []) (q:= .dct []) hp4n ⟨[],yQ,.nil,Nat.zero_le _⟩;have g6:=g5.trans (.newObj (o:= .dK []) hp4n);have s7:=s6.new (o:= .tup [.ref p3,.ref p4]) hp5n;have g7:=g6.trans (.new (o:= .tup [.ref p3,.ref p4]) hp5n);have hpp3:p≠p3:=λz=>by rw[<- z,yQ]at hp3n;cases hp3n
 have hpp4:p≠p4:=λz=>by rw[<- z,yK hpp3,yQ]at hp4n;cases hp4n
 have hpp5:p≠p5:=λz=>by rw[<- z,yK hpp4,yK hpp3,yQ]at hp5n;cases hp5n
 have eA':A++(B++ [p])++ [p3]++ [p4]=(A++B)++p:: [p3,p4]:=by simp
 have eS':st++(tl++ [PO.rcd (kvs.map λq=>(q.1,sB A.length q.2))])++ [PO.dct []]++ [PO.dct []]=(st++tl)++PO.rcd (kvs.map λq=>(q.1,sB A.length q.2)):: [.dct [],.dct []]:=by simp
 rw[eA',eS']at s7;have s8:=s7.rot (by rw[List.length_append,List.length_append];omega) (by intro x hx kvs z;subst z;simp at hx);rw[eA']at g7;have gAll:zZ A H (A++(B++p:: [p3,p4])) (zJ (zJ (zJ (zJ H2 p (.dK us)) p3 (.dK [])) p4 (.dK [])) p5 (.tup [.ref p3,.ref p4])):=by
  have:=(g3.trans gp).trans g7;rw[List.append_assoc]at this;exact this
 have g8:zZ A H (A++(B++([p3,p4]++ [p]))) (zJ (zJ (zJ (zJ H2 p (.dK us)) p3 (.dK [])) p4 (.dK [])) p5 (.tup [.ref p3,.ref p4])):=gAll.perm λb hb=>by
  simp only[List.mem_append,List.mem_cons,List.not_mem_nil,or_false]at hb⊢
  rcases hb with hb | (hb | hb) | hb <;> simp[hb]
 rw[<- List.append_assoc]at g8;have hat:(A++B++([p3,p4]++ [p]))[A.length+B.length+2]?=some p:=by
  rw[List.getElem?_append_right (by rw[List.length_append];omega),List.length_append,show A.length+B.length+2 - (A.length+B.length)=2 by omega];rfl
 obtain⟨us8,e8,r8,_⟩:=s8.at_ _ _ _ hat (by rw[List.getElem?_append_right (by rw[List.length_append];omega),List.length_append,show A.length+B.length+2 - (st.length+tl.length)=2 by omega];rfl);have e9:us8=us:=by
  rw[yK hpp5,yK hpp4,yK hpp3,yQ]at e8;cases e8;rfl
 subst e9;have k1:(Sum.inr k5:z7)∉us8.map (·.1):=by
  rw[ek];intro z;exact hnd'.2.2 _ z _ (by simp) rfl
 have hk56:(Sum.inr k5:z7)≠ .inr k6:=by
  have:=hnd'.2.1;simp at this;intro z;cases z;exact this rfl
 have k2:(Sum.inr k6:z7)∉(us8++ [(Sum.inr k5,V.ref p3)]).map (λ(q:z7×V)=>q.1):=by
  rw[List.map_append,List.mem_append,ek];rintro(z | z)
  ·exact hnd'.2.2 _ z _ (by simp) rfl
  ·simp only[List.map_cons,List.map_nil,List.mem_singleton]at z
   exact hk56 z.symm
 refine⟨.ref p3,[.ref p4],rfl,.ref p,hσ,p,us8,.inr k5,rfl,rfl,e8,by rw[sizeLine_eq];omega,?_⟩;rw[za3 k1];refine⟨.ref p4,[],rfl,.ref p,hσ,p,_,.inr k6,rfl,rfl,yQ,by rw[sizeLine_eq,List.length_append,List.length_singleton];omega,?_⟩;rw[za3 k2];refine⟨rfl,?_⟩;have m8:p∈A++B++([p3,p4]++ [p]):=List.mem_of_getElem? hat;have g9:=(zZ.put (H:=zJ (zJ (zJ (zJ H2 p (.dK us8)) p3 (.dK [])) p4 (.dK [])) p5 (.tup [.ref p3,.ref p4])) (o:=HO.dK (us8++ [(Sum.inr k5,V.ref p3)])) m8).trans (zZ.put (o:=HO.dK (us8++ [(Sum.inr k5,V.ref p3)]++ [(Sum.inr k6,V.ref p4)])) m8);have a3:(A++B++([p3,p4]++ [p]))[A.length+B.length]?=some p3:=by
  rw[List.getElem?_append_right (by rw[List.length_append];omega),List.length_append,Nat.sub_self];rfl
 have a4:(A++B++([p3,p4]++ [p]))[A.length+B.length+1]?=some p4:=by
  rw[List.getElem?_append_right (by rw[List.length_append];omega),List.length_append,show A.length+B.length+1 - (A.length+B.length)=1 by omega];rfl
 have r9:=xP.append (xP.append (xP.grow g9 r8) (y:= [(Sum.inr k5,.obj (A.length+B.length))]) (d:= [(Sum.inr k5,V.ref p3)]) (.cons ⟨rfl,.obj hat (by omega) a3⟩ .nil)) (y:= [(Sum.inr k6,.obj (A.length+B.length+1))]) (d:= [(Sum.inr k6,V.ref p4)]) (.cons ⟨rfl,.obj hat (by omega) a4⟩ .nil);have s9:=s8.put (q:= .rcd ((kvs.map λ(q:z7×PV)=>(q.1,sB A.length q.2))++ [(Sum.inr k5,.obj (A.length+B.length))])) hat (o:=HO.dK (us8++ [(Sum.inr k5,V.ref p3)])) ⟨_,yQ,xP.append (xP.grow (.put m8) r8) (.cons ⟨rfl,.obj hat (by omega) a3⟩ .nil),by rw[sizeLine_eq,List.length_append,List.length_singleton];omega⟩;have s10:=s9.put (q:= .rcd (n4 A.length k5 k6 kvs (A.length+B.length))) hat (o:=HO.dK (us8++ [(Sum.inr k5,V.ref p3)]++ [(Sum.inr k6,V.ref p4)])) ⟨_,yQ,by
  have:=r9;rw[List.append_assoc (kvs.map _)]at this;exact this,by rw[sizeLine_eq,List.length_append,List.length_append,List.length_singleton,List.length_singleton];omega⟩
 have g10:=g8.trans g9;have eFin:(((st++tl)++([PO.dct [],.dct []]++ [PO.rcd (kvs.map λq=>(q.1,sB A.length q.2))])).set (A.length+B.length+2) (.rcd ((kvs.map λq=>(q.1,sB A.length q.2))++ [(Sum.inr k5,.obj (A.length+B.length))]))).set (A.length+B.length+2) (.rcd (n4 A.length k5 k6 kvs (A.length+B.length)))=st++(tl++ [.dct [],.dct [],.rcd (n4 st.length k5 k6 kvs (st.length+tl.length))]):=by
  rw[List.set_set,List.set_append_right _ _ (by rw[List.length_append];omega),List.length_append,show A.length+B.length+2 - (st.length+tl.length)=2 by omega,List.append_assoc,hAl,hlB];rfl
 rw[eFin]at s10;have hrel:=(rel.grow g10 s10).set i (x:= .obj (st.length+tl.length+2)) (v:= .ref p) (.obj (by rw[<- hAl,<- hlB];exact hat));exact⟨_,_,_,D3,hrel,q,k.after g10⟩
end
end L3
namespace L3
open PySem PySem.Spec PyProof.Rows L2
namespace LR
theorem no_len:typeLookup (.type "list_reverseiterator") "__len__" =pure none:=by rw[typeLookup_type,builtinLookup_eq_fast];kernel_rfl
theorem hint_at:typeLookup (.type "list_reverseiterator") "__length_hint__" =pure (some (.builtin "list_reverseiterator.__length_hint__")):=by rw[typeLookup_type,builtinLookup_eq_fast];kernel_rfl
end LR
section
variable {prog:Program} {w:World} {A:Around} {E:Value->Shared->Prop} {s:Shared}
theorem zjC {I l:Addr}{i:Int}{Q:Bool->Shared->Prop}(hit:s.heap.IsRevIter I l i)(h:Q false s):wpAny (model prog w) A (Builtin.List.listLengthHint (.ref I)) Q E s:=by
 have hT:=hit.typeIs;unfold Builtin.List.listLengthHint;refine wpAny_bind (wpAny_specialOf hT LR.no_len ?_);show wpAny _ A (specialOf (Value.ref I) (Str.ofString "__length_hint__") >>= _) _ _ _;refine wpAny_bind (wpAny_specialOf hT LR.hint_at ?_)
 (generalize hid:("list_reverseiterator.__length_hint__" :String)=id0;(fail_if_success (clear hid id0));wp_delta;rw[show splitId id0=some ("list_reverseiterator","__length_hint__")from by subst hid;decide+kernel];subst hid)
 refine wpAny_bind (wpAny_isInstance (b:=true) hT (by rw[isSubtype_type];kernel_rfl) ?_);refine wpAny_ite_split (λhab=>absurd hab (by decide)) (λ_=> ?_);refine wpAny_ite_split (λ_=> ?_) (λhab=>absurd (by decide+kernel) hab);refine wpAny_ite_split (λhab=>absurd hab (by decide+kernel)) (λ_=> ?_);exact wpAny_pure h
abbrev kJ (items:Array Value):Nat->Value->Prop:=λi v=>items[items.size - 1 - i]?=some v
theorem ziM {R:Result->Shared->Prop}{I l S:Addr}{items:Array Value}(hh:A.handled=none)(hit:s.heap.IsRevIter I l ((items.size:Int) - 1))(hl:s.heap.IsList l items)(hlI:l≠I)(hSI:S≠I)(hSl:S≠l)(res:Value)(c₀:Nat)
  (hS:s.heap.get? S=some {cls:= .type "list",data:= .seq #[] c₀})
  (hR: ∀h' tk acc' c',(∀b o,b≠S->b≠I->s.heap.get? b=some o->h'.get? b=some o)->h'.get? S=some {cls:= .type "list",dict:=none,data:= .seq acc' c',slots:= #[]} ->ItemsOf (kJ items) acc' items.size->R (.ok (.ret res)) {s with heap:=h',toks:=tk}) (hn:items.size<=sizeLine):
  wpAny (model prog w) A.in1 (Builtin.List.listExtendWith (.ref S) (.ref I) res)
   (λfin s'=>match fin with | .done f=>R (.ok f) s' | .again c'=>c'.quiet=true/\codeAny (model prog w) A c' R s') (λe s'=>R (.error e) s') s:=by
 have hSf:S∉ [I,l]:=by simp only[List.mem_cons,List.not_mem_nil,or_false,not_or];exact⟨hSI,hSl⟩
 have W:=Walks.listRev (prog:=prog) (w:=w) (A:=A.in1) hh I l hlI items;have st:0<=items.size/\s.heap.IsRevIter I l ((items.size:Int) - 1 - ((0:Nat):Int))/\s.heap.IsList l items:=⟨Nat.zero_le _,by simpa using hit,hl⟩;have key: ∀(h:Heap) (c₁ tk:Nat),(0<=items.size/\h.IsRevIter I l ((items.size:Int) - 1 - ((0:Nat):Int))/\h.IsList l items)->(∀b o,b≠S->s.heap.get? b=some o->h.get? b=some o)->
   h.get? S=some {cls:= .type "list",data:= .seq #[] c₁} ->codeAny (model prog w) A (.builtin "list.extend.loop" ⟨[.ref S,.ref I,res],[]⟩) R {s with heap:=h,toks:=tk} :=by
  intro h c₁ tk hst hk hS₁;refine codeAny_extend_loopS W.toS hn S hSf res items.size 0 _ #[] c₁ rfl (Nat.zero_le _) hst hS₁ (ItemsOf.nil _) λs' acc' c' hm hS' hacc=> ?_;rw[Moved.eq_with hm];refine hR s'.heap s'.toks acc' c' (λb o hb hbI e=>hm.heap b o (λhmem=> ?_) (hk b o hb e)) hS' hacc;rcases List.mem_cons.mp hmem with e' | hmem
  ·exact hb e'
  ·exact hbI (List.mem_singleton.mp hmem)
 unfold Builtin.List.listExtendWith;refine wpAny_bind (wpAny_typeOf (T:= "list_reverseiterator") hit.typeIs ?_);have h1:Builtin.List.listSameRef (.ref S) (.ref I)=false:=by simp[Builtin.List.listSameRef,hSI]
 have h2:(Value.type "list_reverseiterator" ==Value.type "list")=false:=by decide
 have h3:(Value.type "list_reverseiterator" ==Value.type "tuple")=false:=by decide
 simp only[h1,h2,h3,Bool.or_false,Bool.false_eq_true,if_false];refine wpAny_bind (wpAny_pyIter_revIter hit ?_);refine wpAny_bind (wpAny_holding (zjC hit ?_));refine wpAny_ite_split (λ_=> ?_) (λ_=>wpAny_pure ⟨plainId_quiet PySem.F.plain_extend_loop _,key _ c₀ _ st (λb o _ e=>e) hS⟩);refine wpAny_bind (wpAny_rule ?_);refine wpAny_bind ?_;show wpAny _ _ (updateSeq S (·.push .none) >>= λ_=>updateSeq S (·.pop)) _ _ _;refine wpAny_bind (wpAny_updateSeq hS rfl ?_);have hS₂:=Heap.get?_update_self (Obj.mapSeq (·.push Value.none)) hS rfl;refine wpAny_updateSeq (hz:=by seq_fits) hS₂ rfl ?_;have hS₃:=Heap.get?_update_self (Obj.mapSeq (·.pop)) hS₂ rfl;refine wpAny_pure ⟨plainId_quiet PySem.F.plain_extend_loop _,key _ _ _ ?_ (λb o hb e=> ?_) hS₃⟩
 ·refine W.frame 0 _ _ st λb hb o e=> ?_
  have hbS:b≠S:=λh=>hSf (h▸hb);exact(Heap.get?_update_other _ _ (Ne.symm hbS)).trans ((Heap.get?_update_other _ _ (Ne.symm hbS)).trans e)
 ·exact(Heap.get?_update_other _ _ (Ne.symm hb)).trans ((Heap.get?_update_other _ _ (Ne.symm hb)).trans e)
theorem zie {Q:Value->Shared->Prop}{I l:Addr}{items:Array Value}(hh:A.handled=none)(hit:s.heap.IsRevIter I l ((items.size:Int) - 1))(hl:s.heap.IsList l items)(hlI:l≠I)(hn:items.size<=sizeLine)
  (hQ: ∀h' tk acc' c',(∀b o,b≠I->s.heap.get? b=some o->h'.get? b=some o)->h'.get? s.heap.objs.size=some {cls:= .type "list",dict:=none,data:= .seq acc' c',slots:= #[]} ->ItemsOf (kJ items) acc' items.size->Q (.ref s.heap.objs.size) {s with heap:=h',toks:=tk}):
  wpAny (model prog w) A (call (.type "list") [.ref I]) Q E s:=by
 refine callType_codes (Q₁:=λobj s₁=>obj= .ref s.heap.objs.size/\s₁= {s with heap:=s.heap.push {cls:= .type "list",data:= .seq #[]}}) PySem.F.called_list (PySem.F.typeCall_list_1 _) PySem.F.entry_list_init
  (code_list_new _ ⟨rfl,rfl⟩) λobj s₁ h₁=> ?_
 obtain⟨rfl,rfl⟩:=h₁;have hIl:I < s.heap.objs.size:=by obtain⟨o,e,_⟩:=id hit;exact Heap.lt_size e
 have hll:l < s.heap.objs.size:=by obtain⟨o,e,_⟩:=id hl;exact Heap.lt_size e
 have kp: ∀b o,s.heap.get? b=some o->(s.heap.push {cls:= .type "list",data:= .seq #[]}).get? b=some o:=λb o e=>Heap.get?_push_of_some _ e;generalize hS':s.heap.objs.size=S at *;have hS:(s.heap.push {cls:= .type "list",data:= .seq #[]}).get? S=some {cls:= .type "list",data:= .seq #[]} :=by rw[<- hS'];exact Heap.get?_push_size _ rfl
 refine⟨⟨_,hS,rfl⟩,PySem.F.args_list_init_2 _ _,?_⟩;show wpAny _ _ (do let old <- Builtin.List.listItems (.ref S);Builtin.List.listUpdate (.ref S) (λ_=> #[]);letGo old.toList.reverse;Builtin.List.listExtendWith (.ref S) (.ref I) .none) _ _ _;refine wpAny_bind ?_;unfold Builtin.List.listItems;refine wpAny_bind (wpAny_seqItems hS rfl (wpAny_pure ?_));show wpAny _ _ (updateSeq S (λ_=> #[]) >>= λ_=>letGo (#[]:Array Value).toList.reverse >>= λ_=>Builtin.List.listExtendWith (.ref S) (.ref I) .none) _ _ _;refine wpAny_bind (wpAny_updateSeq hS rfl ?_);have hS₂:=Heap.get?_update_self (Obj.mapSeq (λ_=>(#[]:Array Value))) hS rfl;have oth: ∀b o,b≠S->s.heap.get? b=some o->((s.heap.push {cls:= .type "list",data:= .seq #[]}).update S (Obj.mapSeq (λ_=>(#[]:Array Value)))).get? b=some o:=
  λb o hb e=>(Heap.get?_update_other _ _ (Ne.symm hb)).trans (kp b o e)
 refine wpAny_bind (wpAny_letGo ?_);refine ziM (A:=A.in1) hh (hit.at λo e=>oth _ _ (Nat.ne_of_lt hIl) e) (hl.at λo e=>oth _ _ (Nat.ne_of_lt hll) e) hlI (Nat.ne_of_gt hIl) (Nat.ne_of_gt hll) .none _ hS₂ (λh' tk acc' c' hk hSS hacc=> ?_) hn;refine⟨rfl,?_⟩;exact hQ h' tk acc' c' (λb o hb e=>hk b o (by rw[<- hS'];exact Nat.ne_of_lt (Heap.lt_size e)) hb (oth b o (by rw[<- hS'];exact Nat.ne_of_lt (Heap.lt_size e)) e)) hSS hacc
end
section
variable {X:Cx}
def znU (K:Frag)(te:TE):TE:=λσ H Q=>te σ H λx H1=> ∃(a:Addr) (xs:List V),x= .ref a/\yW K H1 a xs/\∀p,H1 p=none->Q (.ref p) (zJ H1 p (.lst xs.reverse))
theorem zlW {e:Expr}{te:TE}{p p2 pos pos2:Pos}(hc:X.calm=true)(hg:Gl X "list")(hm:X.mg "list" =none)(hg2:Gl X "reversed")(hm2:X.mg "reversed" =none)(he:PE X e te)
  (hs:starEach [e] X.env= [(false,eval e X.env)]) (hs2:starEach [.Call (.Name "reversed" p2) [e] [] pos2] X.env= [(false,eval (.Call (.Name "reversed" p2) [e] [] pos2) X.env)]):
  PE X (.Call (.Name "list" p) [.Call (.Name "reversed" p2) [e] [] pos2] [] pos) (znU X.K te):=⟨λpins s σ H Q I h=>by
 refine wpAny_Call_Name_kw (tX I hg hm (show bootBuiltins "list" =some (.type "list") by decide+kernel) (callWith_type1 ?_ hs2 rfl));rw[hs2];show wpAny _ _ (spliced ((false,eval (.Call (.Name "reversed" p2) [e] [] pos2) X.env)::backTo pos [])) _ _ s;refine Calls.spliced_cons (wpAny_Call_Name_kw (tX I hg2 hm2 zcs (callWith_type1 ?_ hs rfl)));rw[hs];show wpAny _ _ (spliced ((false,eval e X.env)::backTo pos2 [])) _ _ s;refine Calls.spliced_cons (zU (he pins s σ H _ I h) λu s1 ⟨x,H1,I1,r1,q1⟩=>Calls.spliced_nil ?_);obtain⟨a,xs,rfl,hq,q⟩:=q1;cases r1;obtain⟨its,rv,ip,hz⟩:=I1.list hq;have hl:=rv.length;have hzz:its.toArray.size<=sizeLine:=by rw[List.size_toArray];omega
 have al:a < s1.heap.objs.size:=by obtain⟨o,e,_⟩:=id ip.isList;exact Heap.lt_size e
 refine call_reversed_list ip.isList ?_;refine Calls.spliced_nil ?_;have kp: ∀b o,s1.heap.get? b=some o->(s1.heap.push (revObj a ((its.toArray.size:Int) - 1))).get? b=some o:=λb o e=>Heap.get?_push_of_some _ e;refine zie (I:=s1.heap.objs.size) (l:=a) (items:=its.toArray) (I1.ok.hd hc) ⟨_,Heap.get?_push_size _ rfl,rfl,rfl⟩ (ip.isList.at λo e=>kp _ _ e) (Nat.ne_of_lt al) hzz λh' tk acc c' k1 hS hacc=> ?_;have k5: ∀b o,s1.heap.get? b=some o->h'.get? b=some o:=λb o e=>k1 b o (Nat.ne_of_lt (Heap.lt_size e)) (kp b o e);have hfr:H1 (s1.heap.push (revObj a ((its.toArray.size:Int) - 1))).objs.size=none:=I1.hok.fresh (by rw[Heap.size_push];exact Nat.le_succ _);refine⟨.ref _,_,I1.laid (t':=tk) (o:= .lst xs.reverse) k5 (by rw[Heap.size_push];exact Nat.le_succ _) ⟨by rw[List.length_reverse];exact hz,acc.toList,c',zf9 rv hacc,?_⟩,rfl,q _ hfr⟩;simpa using hS⟩
def zgE (T:zA):zA:=λenv st Q=>T env st λx st1=>match x with | .lst xs=>Q (.lst xs.reverse) st1 | _=>False
@[simp] theorem zsb {T:zA}{env:zF}{st:z4}{Q:K3} :zgE T env st Q=(T env st λx st1=>match x with | .lst xs=>Q (.lst xs.reverse) st1 | _=>False):=rfl
theorem zmG {e:Expr}{Ta:zA}{p p2 pos pos2:Pos}(hc:X.calm=true)(hg:Gl X "list")(hm:X.mg "list" =none)(hg2:Gl X "reversed")(hm2:X.mg "reversed" =none)(he:PE X e (zL X.K Ta))
  (hs:starEach [e] X.env= [(false,eval e X.env)]:=by rfl) (hs2:starEach [.Call (.Name "reversed" p2) [e] [] pos2] X.env= [(false,eval (.Call (.Name "reversed" p2) [e] [] pos2) X.env)]:=by rfl):
  PE X (.Call (.Name "list" p) [.Call (.Name "reversed" p2) [e] [] pos2] [] pos) (zL X.K (zgE Ta)):=by
 refine xW (zlW hc hg hm hg2 hm2 he hs hs2) λσ H Q ⟨A,env,st,Q3,rel,h,k⟩=>⟨A,env,st,_,rel,h,λA1 H1 st1 x v g1 s1 e1 h1=> ?_⟩
 split at h1
 ·cases e1 with | val e=>cases e with | lst t z r=>
   exact⟨_,_,rfl,t.sq,(k.after g1).lst s1 r.reverse (by rw[List.length_reverse];exact z) h1⟩
 ·exact h1.elim
def oP (lo hi:Int):List V:=(List.range (hi - lo).toNat).map λ(i:Nat)=> .int (lo+(i:Int))
def znW (ta:TA):TE:=λσ H Q=>ta σ H λvs H1=> ∃lo hi:Int,vs= [.int lo,.int hi]/\(-(2 ^ 20)<=lo/\lo < 2 ^ 20/\ -(2 ^ 20)<=hi/\hi < 2 ^ 20)/\∀p,H1 p=none->Q (.ref p) (zJ H1 p (.lst (oP lo hi)))
theorem zlY {a b:Expr}{ta:TA}{p p2 pos pos2:Pos}(hc:X.calm=true)(hg:Gl X "list")(hm:X.mg "list" =none)(hg2:Gl X "range")(hm2:X.mg "range" =none)(ha:PA X [a,b] ta)
  (hs:starEach [a,b] X.env= [(false,eval a X.env),(false,eval b X.env)]) (hs1:starEach [b] X.env= [(false,eval b X.env)]) (hs2:starEach [.Call (.Name "range" p2) [a,b] [] pos2] X.env= [(false,eval (.Call (.Name "range" p2) [a,b] [] pos2) X.env)]):
  PE X (.Call (.Name "list" p) [.Call (.Name "range" p2) [a,b] [] pos2] [] pos) (znW ta):=⟨λpins s σ H Q I h=>by
 refine wpAny_Call_Name_kw (tX I hg hm (show bootBuiltins "list" =some (.type "list") by decide+kernel) (callWith_type1 ?_ hs2 rfl));rw[hs2];show wpAny _ _ (spliced ((false,eval (.Call (.Name "range" p2) [a,b] [] pos2) X.env)::backTo pos [])) _ _ s;refine Calls.spliced_cons (wpAny_Call_Name_kw (tX I hg2 hm2 boot_range (callWith_type1 (zU (ha pos2 pins s σ H _ I h) λus s1 ⟨vs,H1,I1,r1,q1⟩=> ?_) (by rw[hs,hs1]) (by rw[hs1];rfl))));obtain⟨lo,hi,rfl,⟨b1,b2,b3,b4⟩,q⟩:=q1;cases r1 with
 | cons r rr=>
  cases rr with
  | cons r' rr=>
   cases rr;obtain⟨t,rfl⟩:=r;obtain⟨t',rfl⟩:=r';refine call_range_2 ?_;refine Calls.spliced_nil ?_;have hrs:Builtin.Range.rangeSize lo hi 1=(((hi - lo).toNat:Nat):Int):=by rw[rangeSize_one];split <;> omega
   refine call_list_range (n:=(hi - lo).toNat) (I1.ok.hd hc) (IsRange.new ..) (small_one (by omega) (by omega) (by omega) (by omega)) hrs (by omega) λh' tk acc c' k1 hS hacc=> ?_;have kp:=k1;have k5: ∀b o,s1.heap.get? b=some o->h'.get? b=some o:=λb o e=>k1 b o (Heap.get?_push_of_some _ e);refine⟨.ref _,_,I1.laid (t':=tk) (o:= .lst (oP lo hi)) k5 (by rw[Heap.size_push];exact Nat.le_succ _) ⟨by unfold oP;rw[List.length_map,List.length_range,sizeLine_eq];omega,acc.toList,c',lR ?_ λj v x hv hx=> ?_,by simpa using hS⟩,rfl,q _ (I1.hok.fresh (by rw[Heap.size_push];exact Nat.le_succ _))⟩
   ·unfold oP;rw[List.length_map,List.length_range];simpa using hacc.1.symm
   ·obtain⟨u,rfl⟩:=hacc.2 j v (by simpa using hv)
    unfold oP at hx;rw[List.getElem?_map]at hx;cases ej:(List.range (hi - lo).toNat)[j]? with
    | none=>rw[ej]at hx;cases hx
    | some k=>
     rw[ej]at hx;cases hx;have:=List.getElem?_eq_some_iff.mp ej;obtain⟨hj,e⟩:=this;rw[List.getElem_range]at e;subst e;exact⟨u,by rw[Int.mul_one]⟩⟩
def zgG (T:yI):zA:=λenv st Q=>T env st λxs st1=>match xs with | [.int lo,.int hi]=>(-(2 ^ 20)<=lo/\lo < 2 ^ 20/\ -(2 ^ 20)<=hi/\hi < 2 ^ 20)/\Q (.obj st1.length) (st1++ [.lst ((List.range (hi - lo).toNat).map λ(i:Nat)=> .int (lo+(i:Int)))]) | _=>False
@[simp] theorem zsc {T:yI}{env:zF}{st:z4}{Q:K3} :zgG T env st Q=(T env st λxs st1=>match xs with | [.int lo,.int hi]=>(-(2 ^ 20)<=lo/\lo < 2 ^ 20/\ -(2 ^ 20)<=hi/\hi < 2 ^ 20)/\Q (.obj st1.length) (st1++ [.lst ((List.range (hi - lo).toNat).map λ(i:Nat)=> .int (lo+(i:Int)))]) | _=>False):=rfl
theorem zfE {K:Frag}{A:List Addr}{H:Hp}{α:Type}(f:α->Int): ∀l:List α,RVs K A H (l.map λi=>PV.int (f i)) (l.map λi=>V.int (f i))
 | []=> .nil
 | x::l=> .cons (.int _) (zfE f l)
theorem zmI {a b:Expr}{TA:yI}{p p2 pos pos2:Pos}(hc:X.calm=true)(hg:Gl X "list")(hm:X.mg "list" =none)(hg2:Gl X "range")(hm2:X.mg "range" =none)(ha:PA X [a,b] (vW X.K TA))
  (hs:starEach [a,b] X.env= [(false,eval a X.env),(false,eval b X.env)]:=by rfl) (hs1:starEach [b] X.env= [(false,eval b X.env)]:=by rfl) (hs2:starEach [.Call (.Name "range" p2) [a,b] [] pos2] X.env= [(false,eval (.Call (.Name "range" p2) [a,b] [] pos2) X.env)]:=by rfl):
  PE X (.Call (.Name "list" p) [.Call (.Name "range" p2) [a,b] [] pos2] [] pos) (zL X.K (zgG TA)):=by
 refine xW (zlY hc hg hm hg2 hm2 ha hs hs1 hs2) λσ H Q ⟨A,env,st,Q3,rel,h,k⟩=>⟨A,env,st,_,rel,h,λA1 H1 st1 xs vs g1 s1 e1 h1=> ?_⟩
 split at h1
 ·rename_i lo hi
  obtain⟨v,w,rfl,r1,r2⟩:=yT.two e1;cases xL r1;cases xL r2;refine⟨lo,hi,rfl,h1.1,λp hp=>k (A1++ [p]) _ _ _ _ (g1.trans (.newObj hp)) (s1.newObj (q:= .lst _) hp ⟨_,yQ,zfE _ _,?_⟩) (.obj (jK s1.len)) h1.2⟩;have:=h1.1;unfold oP;rw[List.length_map,List.length_range,sizeLine_eq];omega
 ·exact h1.elim
end
section
variable {prog:Program} {w:World} {A:Around} {E:Value->Shared->Prop}
theorem zcF {I:Addr}{fp wr:List Addr}{n:Nat}{P:Nat->Value->Prop}{St:Nat->Heap->Prop}(W:Walks prog w A I fp wr n P St): ∀(m i:Nat) (s:Shared) (Q:List Value->Shared->Prop),St i s.heap->i+m<=n->
  (∀vs h' tk,vs.length=m->(∀(j:Nat) (v:Value),vs[j]?=some v->P (i+j) v)->St (i+m) h'->(∀b o,b∉wr->s.heap.get? b=some o->h'.get? b=some o)->Q vs {s with heap:=h',toks:=tk})->wpAny (model prog w) A (draw (.ref I) m) Q E s
 | 0,i,s,Q,st,_,hQ=>by
  show wpAny _ _ (pure []) Q E s;exact wpAny_pure (hQ [] s.heap s.toks rfl (λj v h=>by simp at h) st λ_ _ _ e=>e)
 | m+1,i,s,Q,st,hle,hQ=>by
  show wpAny _ _ (pyNext (.ref I) >>= _) Q E s;refine wpAny_bind (W.item i s _ _ (by omega) st λv h1 tk1 hv st1 k1=> ?_);refine wpAny_bind (wpAny_holding (zcF W m (i+1) {s with heap:=h1,toks:=tk1} _ st1 (by omega) λvs h2 tk2 hl hP st2 k2=>wpAny_pure ?_));refine hQ (v::vs) h2 tk2 (by rw[List.length_cons,hl]) (λj u hj=> ?_) (by rw[show i+(m+1)=i+1+m by omega];exact st2) λb o hb e=>k2 b o hb (k1 b o hb e);cases j with
  | zero=>simp at hj;subst hj;exact hv
  | succ j=>rw[show i+(j+1)=i+1+j by omega];exact hP j u (by simpa using hj)
theorem zo0 {x:Str}{t:Tok}{targets:List (Bool×(Value->Sem Unit))}{Q:Unit->Shared->Prop}{s:Shared}(hh:A.handled=none)(hn:targets.length=x.cps.size)(hst:targets.findIdx? (·.1)=none)
  (h: ∀vs h' tk,vs.length=x.cps.size->(∀(j:Nat) (v:Value),vs[j]?=some v->SignAt x j v)->(∀b o,s.heap.get? b=some o->h'.get? b=some o)->wpAny (model prog w) A (assignInOrder (targets.map (·.2)) vs) Q E {s with heap:=h',toks:=tk}):
  wpAny (model prog w) A (unpack (.str x t) targets) Q E s:=by
 unfold unpack;rw[hn,hst];refine wpAny_bind (wpAny_holding ?_);unfold unpackItems;refine wpAny_bind ?_;unfold notIterableAtAll;refine wpAny_bind (wpAny_specialOf (T:= "str") rfl PySem.F.slot_str_iter.lookup ?_);refine wpAny_pure ?_;simp only[Bool.false_eq_true,if_false];refine wpAny_bind (wpAny_holding (wpAny_pyIter_strU ?_));have hW: ∃St:Nat->Heap->Prop,Walks prog w A s.heap.objs.size [s.heap.objs.size] [s.heap.objs.size] x.cps.size (SignAt x) St/\St 0 (s.heap.push {cls:= .type (strIterType x),data:= .fields #[.str x t,.int 0 0]}):=by
  unfold strIterType;by_cases ha:x.cps.all (· < 128)=true
  ·rw[if_pos ha]
   exact⟨_,Walks.strAscii hh _ x t,⟨_,Heap.get?_push_size _ rfl,rfl,rfl⟩⟩
  ·rw[if_neg ha]
   exact⟨_,Walks.strWide hh _ x t,⟨_,Heap.get?_push_size _ rfl,rfl,rfl⟩⟩
 obtain⟨St,W,st⟩:=hW;refine wpAny_bind (wpAny_holding (zcF W x.cps.size 0 _ _ st (by omega) λvs h1 tk1 hl hP st1 k1=> ?_));rw[if_neg (by omega)];refine wpAny_bind (wpAny_holding (W.done _ _ _ (by simpa using st1) λh2 tk2 k2=> ?_));simp only[Option.isSome_none,Bool.false_eq_true,if_false];refine wpAny_pure (h vs h2 tk2 hl (λj v hj=>by simpa using hP j v hj) λb o e=> ?_);have hb:b∉ [s.heap.objs.size]:=λz=>Nat.ne_of_lt (Heap.lt_size e) (List.mem_singleton.mp z);exact k2 b o hb (k1 b o hb (Heap.get?_push_of_some _ e))
end
section
variable {X:Cx} {es:List Expr} {pos:Pos}
def nE (x:Str):List Str:=x.cps.toList.map λc=>⟨#[c]⟩
def zj4 (n:Nat)(t:uB):TG:=λv σ H Q=> ∃x:Str,v= .str x/\x.cps.size=n/\t ((nE x).map V.str) σ H Q
theorem zmk {k:Nat}{t:uB}{n:Nat}(hc:X.calm=true)(h:vU X es t)(hn:(assignEach es X.env).length=n:=by rfl)(hst:(assignEach es X.env).findIdx? (·.1)=none:=by rfl):PG X (.Tuple es k pos) (zj4 n t):=by
 refine⟨λpins s σ H v u Q I r hw=> ?_⟩;obtain⟨x,rfl,hl,hw⟩:=hw;obtain⟨t0,rfl⟩:=r;rw[assign_Tuple];refine wpAny_bind (wpAny_standAt (zo0 (I.ok.hd hc) (by rw[hn,hl]) hst λvs h' tk hv hP kp=> ?_));have I1:z5 X pins σ H {s with heap:=h',toks:=tk} :=I.kept (t':=tk) kp;refine h pins _ σ H _ _ Q I1 (lR ?_ λj v x' hv' hx'=> ?_) hw
 ·unfold nE;rw[List.length_map,List.length_map,Array.length_toList,hv]
 ·obtain⟨c,u,e,rfl⟩:=hP j v hv'
  unfold nE at hx';rw[List.map_map,List.getElem?_map]at hx';rw[Array.getElem?_toList,e]at hx';cases hx';exact⟨u,rfl⟩
def aY (n:Nat)(gs:tH):wC:=λx env st Q=>match x with | .str z=>z.cps.size=n/\gs ((nE z).map PV.str) env st Q | _=>False
@[simp] theorem zp9 {n:Nat}{gs:tH}{z:Str}{env:zF}{st:z4}{Q:zF->z4->Prop} :aY n gs (.str z) env st Q=(z.cps.size=n/\gs ((nE z).map PV.str) env st Q):=rfl
theorem zfF {K:Frag}{A:List Addr}{H:Hp} : ∀l:List Str,yT K A H (l.map PV.str) (l.map V.str)
 | []=> .nil
 | x::l=> .cons (.val (.str _)) (zfF l)
theorem zmK {k:Nat}{n:Nat}{Tgs:tH}(hc:X.calm=true)(h:vU X es (mD X.K Tgs))(hn:(assignEach es X.env).length=n:=by rfl)(hst:(assignEach es X.env).findIdx? (·.1)=none:=by rfl):PG X (.Tuple es k pos) (vX X.K (aY n Tgs)):=
 za0 (zmk hc h hn hst) λv σ H Q ⟨A,env,st,x,Q3,rel,e,q,k⟩=>by
  unfold aY at q
  split at q
  ·cases sC e
   exact⟨_,rfl,q.1,A,env,st,_,Q3,rel,zfF _,q.2,k⟩
  ·exact q.elim
end
section
variable {K:Frag} {A:List Addr} {H:Hp} {st:z4}
end
section
variable {X:Cx}
end
end L3
namespace L3
open PySem PySem.Spec PyProof.Rows L2
def oN (kvs:List (z7×PV))(k:z7):List (z7×PV):=kvs.filter λkv=>decide (kv.1≠k)
theorem RKs.drop {K:Frag}{A:List Addr}{H:Hp}{k:z7} : ∀{kvs:List (z7×PV)} {us:List (z7×V)},RKs K A H kvs us->RKs K A H (oN kvs k) (oM us k)
 | _,_,.nil=> .nil
 | _,_,.cons (k:=k') r t=>by
  unfold oN oM;rw[List.filter_cons,List.filter_cons];by_cases e:k'=k
  ·rw[if_neg (by simp[e]),if_neg (by simp[e])];exact RKs.drop t
  ·rw[if_pos (by simp[e]),if_pos (by simp[e])];exact .cons r (RKs.drop t)
section
variable {X:Cx}
def zf2:PV->y6:=λx xs st Q=> ∃(i:Nat) (k:z7) (z:PV) (kvs:List (z7×PV)) (y:PV),x= .obj i/\xs= [y]/\vK y=some k/\st[i]?=some (.dct kvs)/\zR kvs k=some z/\Q z (st.set i (.dct (oN kvs k)))
theorem zkV:tG X "dict.pop" (rG X.K zf2):=by
 intro pins s σ H v vs vv us Q I rv rvs ⟨A,st,x,xs,Q3,rs,ex,exs,h,k⟩;obtain⟨i,kk,z,kvs,y,rfl,rfl,ek,q,hz,h⟩:=h;obtain⟨w,rfl,ey⟩:=yT.one exs;cases ex with
 | val e=>cases e
 | obj eo=>
  have hm:=List.mem_of_getElem? eo;obtain⟨ks,h1,r,hl⟩:=rs.at_ _ _ _ eo q;cases rv;obtain⟨u,rfl,ru⟩:=zH.one rvs;have ew:=sR ey ek;subst ew;rcases r.val (k:=kk)with⟨x',v',e1,e2,r'⟩ | ⟨e1,e2⟩
  ·rw[hz]at e1;cases e1
   refine zi3 I h1 ru e2 (.inl rfl) λw' s' I' rw'=>⟨v',_,I',rw',k A _ _ _ _ (.put hm) (rs.put (q:= .dct (oN kvs kk)) eo ⟨_,yQ,(r.grow (.put hm)).drop,Nat.le_trans (zcG ks kk) hl⟩) (.val (r'.grow (.put hm))) h⟩
  ·rw[hz]at e1;cases e1
def zf3:PV->y6:=λx xs st Q=> ∃(i:Nat) (kvs more:List (z7×PV)),x= .obj i/\xs= [.dct more]/\st[i]?=some (.dct kvs)/\kvs.length+more.length<=sizeLine/\Q .non (st.set i (.dct (rP kvs more)))
theorem zkZ:tG X "dict.update" (rG X.K zf3):=by
 intro pins s σ H v vs vv us Q I rv rvs ⟨A,st,x,xs,Q3,rs,ex,exs,h,k⟩;obtain⟨i,kvs,more,rfl,rfl,q,hl,h⟩:=h;obtain⟨w,rfl,ey⟩:=yT.one exs;cases ex with
 | val e=>cases e
 | obj eo=>
  rename_i a;have hm:=List.mem_of_getElem? eo;obtain⟨ks,h1,r,hz⟩:=rs.at_ _ _ _ eo q;cases ey with | val ey=>cases ey with | dct t z2 r2=>
   rename_i o ms;cases rv;obtain⟨u,rfl,ru⟩:=zH.one rvs;cases ru;have hao:a≠o:=λz=>t.2 (z▸hm);obtain⟨z,hd,vs1,rel,dd⟩:=oI I.hok h1;obtain⟨z',hd',vs2,rel2,dd2⟩:=oI I.hok t.1;have hlen:vs1.length+vs2.length<=sizeLine:=by rw[<- rel.length,<- rel2.length,<- r.len,<- r2.len];exact hl
   refine call_meetsIn PySem.F.slot_dict_update dd.typeIs PySem.F.entry_dict_update (PySem.F.args_dict_update_2 _ _) (meets_dict_update (x6 X.prog X.w) a o hao hd') ⟨vs1,vs2,dd,dd2,hlen,λh' dd' ddo hs=> ?_⟩;have he: ∃q,h'.get? a=some q:=let⟨q,_,_,hq,_⟩:=dd';⟨q,hq⟩;have hml:(uQ ks ms).length<=sizeLine:=Nat.le_trans (mO ms ks) (by rw[<- r.len,<- r2.len];exact hl);have I':=mG (t':=s.toks) I (by rw[h1];exact True.intro) hs he (mH hml hd (rel2.merge rel) dd');exact⟨.non,_,I',rfl,k A _ _ _ _ (.put hm) (rs.put (q:= .dct (rP kvs more)) eo ⟨_,yQ,RKs.merge (r.grow (.put hm)) (r2.grow (.put hm)),hml⟩) (.val .non) h⟩
end
section
variable {prog:Program} {w:World} {A:Around} {E:Value->Shared->Prop} {s:Shared}
theorem zkn {I t:Addr}{items:Array Value}{Q:Bool->Shared->Prop}(hit:tB s.heap I t ((items.size:Int) - 1))(ht:IsTup s.heap t items)(hn:items.size<=sizeLine)
  (h: ∀tk,Q ((items.size:Int) !=0) {s with toks:=tk}):wpAny (model prog w) A (Builtin.List.listLengthHint (.ref I)) Q E s:=by
 have hT:s.TypeIs (.ref I) "reversed" :=⟨_,hit,rfl⟩;unfold Builtin.List.listLengthHint;refine wpAny_bind (wpAny_specialOf hT RV.no_len ?_);show wpAny _ A (specialOf (Value.ref I) (Str.ofString "__length_hint__") >>= _) _ _ _;refine wpAny_bind (wpAny_specialOf hT RV.slot_hint.lookup ?_)
 (generalize hid:("reversed.__length_hint__" :String)=id0;(fail_if_success (clear hid id0));wp_delta;rw[show splitId id0=some ("reversed","__length_hint__")from by subst hid;decide+kernel];subst hid)
 refine wpAny_bind (wpAny_isInstance (b:=true) hT (by rw[isSubtype_type];kernel_rfl) ?_);show wpAny _ A (rule "list.length-hint.hint" >>= _) _ _ _;refine wpAny_bind (wpAny_rule ?_);refine wpAny_bind (wpAny_of_eq (RV.slot_hint.bind _) ?_);dsimp only;refine wpAny_bind (wpAny_attempt (zjD hit ht hn λtk u htk=> ?_));dsimp only;rw[show asInt? (Value.int (items.size:Int) u)=pure (some (items.size:Int))from rfl];rw[pure_bind];dsimp only;have f1:Builtin.List.listFitsIndex (items.size:Int)=true:=by
  unfold Builtin.List.listFitsIndex;have:=sS;simp only[Bool.and_eq_true,decide_eq_true_eq];omega
 have f2:Builtin.List.listTooLong (items.size:Int).toNat=false:=by
  unfold Builtin.List.listTooLong;simp only[Int.toNat_natCast,decide_eq_false_iff_not];omega
 try dsimp only
 rw[if_neg (by rw[f1];decide)];rw[if_neg (by omega)];rw[if_neg (by rw[f2];decide)];exact wpAny_pure (h tk)
theorem ziN {R:Result->Shared->Prop}{I l S:Addr}{items:Array Value}(hh:A.handled=none)(hit:tB s.heap I l ((items.size:Int) - 1))(hl:IsTup s.heap l items)(hlI:l≠I)(hSI:S≠I)(hSl:S≠l)(res:Value)(c₀:Nat)
  (hS:s.heap.get? S=some {cls:= .type "list",data:= .seq #[] c₀})
  (hR: ∀h' tk acc' c',(∀b o,b≠S->b≠I->s.heap.get? b=some o->h'.get? b=some o)->h'.get? S=some {cls:= .type "list",dict:=none,data:= .seq acc' c',slots:= #[]} ->ItemsOf (kJ items) acc' items.size->R (.ok (.ret res)) {s with heap:=h',toks:=tk}) (hn:items.size<=sizeLine):
  wpAny (model prog w) A.in1 (Builtin.List.listExtendWith (.ref S) (.ref I) res)
   (λfin s'=>match fin with | .done f=>R (.ok f) s' | .again c'=>c'.quiet=true/\codeAny (model prog w) A c' R s') (λe s'=>R (.error e) s') s:=by
 have hSf:S∉ [I,l]:=by simp only[List.mem_cons,List.not_mem_nil,or_false,not_or];exact⟨hSI,hSl⟩
 have W:=zh7 (prog:=prog) (w:=w) (A:=A.in1) hh I l hlI items hn;have st:0<=items.size/\tB s.heap I l ((items.size:Int) - 1 - ((0:Nat):Int))/\IsTup s.heap l items:=⟨Nat.zero_le _,by simpa using hit,hl⟩;have hT:s.TypeIs (.ref I) "reversed" :=⟨_,hit,rfl⟩;have key: ∀(h:Heap) (c₁ tk:Nat),(0<=items.size/\tB h I l ((items.size:Int) - 1 - ((0:Nat):Int))/\IsTup h l items)->(∀b o,b≠S->s.heap.get? b=some o->h.get? b=some o)->
   h.get? S=some {cls:= .type "list",data:= .seq #[] c₁} ->codeAny (model prog w) A (.builtin "list.extend.loop" ⟨[.ref S,.ref I,res],[]⟩) R {s with heap:=h,toks:=tk} :=by
  intro h c₁ tk hst hk hS₁;refine codeAny_extend_loopS W.toS hn S hSf res items.size 0 _ #[] c₁ rfl (Nat.zero_le _) hst hS₁ (ItemsOf.nil _) λs' acc' c' hm hS' hacc=> ?_;rw[Moved.eq_with hm];refine hR s'.heap s'.toks acc' c' (λb o hb hbI e=>hm.heap b o (λhmem=> ?_) (hk b o hb e)) hS' hacc;rcases List.mem_cons.mp hmem with e' | hmem
  ·exact hb e'
  ·exact hbI (List.mem_singleton.mp hmem)
 unfold Builtin.List.listExtendWith;refine wpAny_bind (wpAny_typeOf (T:= "reversed") hT ?_);have h1:Builtin.List.listSameRef (.ref S) (.ref I)=false:=by simp[Builtin.List.listSameRef,hSI]
 have h2:(Value.type "reversed" ==Value.type "list")=false:=by decide
 have h3:(Value.type "reversed" ==Value.type "tuple")=false:=by decide
 simp only[h1,h2,h3,Bool.or_false,Bool.false_eq_true,if_false];refine wpAny_bind (zew hit ?_);refine wpAny_bind (wpAny_holding (zkn hit hl hn λtk=> ?_));refine wpAny_ite_split (λ_=> ?_) (λ_=>wpAny_pure ⟨plainId_quiet PySem.F.plain_extend_loop _,key _ c₀ _ st (λb o _ e=>e) hS⟩);refine wpAny_bind (wpAny_rule ?_);refine wpAny_bind ?_;show wpAny _ _ (updateSeq S (·.push .none) >>= λ_=>updateSeq S (·.pop)) _ _ _;refine wpAny_bind (wpAny_updateSeq (s:= {s with toks:=tk}) hS rfl ?_);have hS₂:=Heap.get?_update_self (Obj.mapSeq (·.push Value.none)) hS rfl;refine wpAny_updateSeq (s:= {s with heap:=s.heap.update S (Obj.mapSeq (·.push Value.none)),toks:=tk}) (hz:=by seq_fits) hS₂ rfl ?_;have hS₃:=Heap.get?_update_self (Obj.mapSeq (·.pop)) hS₂ rfl;refine wpAny_pure ⟨plainId_quiet PySem.F.plain_extend_loop _,key _ _ _ ?_ (λb o hb e=> ?_) hS₃⟩
 ·refine W.frame 0 _ _ st λb hb o e=> ?_
  have hbS:b≠S:=λh=>hSf (h▸hb);exact(Heap.get?_update_other _ _ (Ne.symm hbS)).trans ((Heap.get?_update_other _ _ (Ne.symm hbS)).trans e)
 ·exact(Heap.get?_update_other _ _ (Ne.symm hb)).trans ((Heap.get?_update_other _ _ (Ne.symm hb)).trans e)
theorem zif {Q:Value->Shared->Prop}{I l:Addr}{items:Array Value}(hh:A.handled=none)(hit:tB s.heap I l ((items.size:Int) - 1))(hl:IsTup s.heap l items)(hlI:l≠I)(hn:items.size<=sizeLine)
  (hQ: ∀h' tk acc' c',(∀b o,b≠I->s.heap.get? b=some o->h'.get? b=some o)->h'.get? s.heap.objs.size=some {cls:= .type "list",dict:=none,data:= .seq acc' c',slots:= #[]} ->ItemsOf (kJ items) acc' items.size->Q (.ref s.heap.objs.size) {s with heap:=h',toks:=tk}):
  wpAny (model prog w) A (call (.type "list") [.ref I]) Q E s:=by
 refine callType_codes (Q₁:=λobj s₁=>obj= .ref s.heap.objs.size/\s₁= {s with heap:=s.heap.push {cls:= .type "list",data:= .seq #[]}}) PySem.F.called_list (PySem.F.typeCall_list_1 _) PySem.F.entry_list_init
  (code_list_new _ ⟨rfl,rfl⟩) λobj s₁ h₁=> ?_
 obtain⟨rfl,rfl⟩:=h₁;have hIl:I < s.heap.objs.size:=Heap.lt_size hit;have hll:l < s.heap.objs.size:=by obtain⟨o,e,_⟩:=id hl;exact Heap.lt_size e
 have kp: ∀b o,s.heap.get? b=some o->(s.heap.push {cls:= .type "list",data:= .seq #[]}).get? b=some o:=λb o e=>Heap.get?_push_of_some _ e;generalize hS':s.heap.objs.size=S at *;have hS:(s.heap.push {cls:= .type "list",data:= .seq #[]}).get? S=some {cls:= .type "list",data:= .seq #[]} :=by rw[<- hS'];exact Heap.get?_push_size _ rfl
 refine⟨⟨_,hS,rfl⟩,PySem.F.args_list_init_2 _ _,?_⟩;show wpAny _ _ (do let old <- Builtin.List.listItems (.ref S);Builtin.List.listUpdate (.ref S) (λ_=> #[]);letGo old.toList.reverse;Builtin.List.listExtendWith (.ref S) (.ref I) .none) _ _ _;refine wpAny_bind ?_;unfold Builtin.List.listItems;refine wpAny_bind (wpAny_seqItems hS rfl (wpAny_pure ?_));show wpAny _ _ (updateSeq S (λ_=> #[]) >>= λ_=>letGo (#[]:Array Value).toList.reverse >>= λ_=>Builtin.List.listExtendWith (.ref S) (.ref I) .none) _ _ _;refine wpAny_bind (wpAny_updateSeq hS rfl ?_);have hS₂:=Heap.get?_update_self (Obj.mapSeq (λ_=>(#[]:Array Value))) hS rfl;have oth: ∀b o,b≠S->s.heap.get? b=some o->((s.heap.push {cls:= .type "list",data:= .seq #[]}).update S (Obj.mapSeq (λ_=>(#[]:Array Value)))).get? b=some o:=
  λb o hb e=>(Heap.get?_update_other _ _ (Ne.symm hb)).trans (kp b o e)
 refine wpAny_bind (wpAny_letGo ?_);have hit2:tB ((s.heap.push {cls:= .type "list",data:= .seq #[]}).update S (Obj.mapSeq (λ_=>(#[]:Array Value)))) I l ((items.size:Int) - 1):=oth _ _ (Nat.ne_of_lt hIl) hit;have hl2:IsTup ((s.heap.push {cls:= .type "list",data:= .seq #[]}).update S (Obj.mapSeq (λ_=>(#[]:Array Value)))) l items:=by obtain⟨o,e,r⟩:=id hl;exact⟨o,oth _ _ (Nat.ne_of_lt hll) e,r⟩
 refine ziN (A:=A.in1) (items:=items) (I:=I) (l:=l) hh hit2 hl2 hlI (Nat.ne_of_gt hIl) (Nat.ne_of_gt hll) .none _ hS₂ (λh' tk acc' c' hk hSS hacc=> ?_) hn;refine⟨rfl,?_⟩;exact hQ h' tk acc' c' (λb o hb e=>hk b o (by rw[<- hS'];exact Nat.ne_of_lt (Heap.lt_size e)) hb (oth b o (by rw[<- hS'];exact Nat.ne_of_lt (Heap.lt_size e)) e)) hSS hacc
end
section
variable {X:Cx}
def znV (K:Frag)(te:TE):TE:=λσ H Q=>te σ H λx H1=> ∃(a:Addr) (xs:List V),x= .ref a/\xQ K H1 a xs/\∀p,H1 p=none->Q (.ref p) (zJ H1 p (.lst xs.reverse))
theorem zlX {e:Expr}{te:TE}{p p2 pos pos2:Pos}(hc:X.calm=true)(hg:Gl X "list")(hm:X.mg "list" =none)(hg2:Gl X "reversed")(hm2:X.mg "reversed" =none)(he:PE X e te)
  (hs:starEach [e] X.env= [(false,eval e X.env)]) (hs2:starEach [.Call (.Name "reversed" p2) [e] [] pos2] X.env= [(false,eval (.Call (.Name "reversed" p2) [e] [] pos2) X.env)]):
  PE X (.Call (.Name "list" p) [.Call (.Name "reversed" p2) [e] [] pos2] [] pos) (znV X.K te):=⟨λpins s σ H Q I h=>by
 refine wpAny_Call_Name_kw (tX I hg hm (show bootBuiltins "list" =some (.type "list") by decide+kernel) (callWith_type1 ?_ hs2 rfl));rw[hs2];show wpAny _ _ (spliced ((false,eval (.Call (.Name "reversed" p2) [e] [] pos2) X.env)::backTo pos [])) _ _ s;refine Calls.spliced_cons (wpAny_Call_Name_kw (tX I hg2 hm2 zcs (callWith_type1 ?_ hs rfl)));rw[hs];show wpAny _ _ (spliced ((false,eval e X.env)::backTo pos2 [])) _ _ s;refine Calls.spliced_cons (zU (he pins s σ H _ I h) λu s1 ⟨x,H1,I1,r1,q1⟩=>Calls.spliced_nil ?_);obtain⟨a,xs,rfl,hq,q⟩:=q1;cases r1;obtain⟨its,rv,ip,hz⟩:=I1.tuple hq;have hl:=rv.length;have hzz:its.toArray.size<=sizeLine:=by rw[List.size_toArray];omega
 have al:a < s1.heap.objs.size:=by obtain⟨o,e,_⟩:=id ip;exact Heap.lt_size e
 refine zig (show IsTup s1.heap a its.toArray from ip) hzz λtk=> ?_;refine Calls.spliced_nil ?_;have kp: ∀b o,s1.heap.get? b=some o->(s1.heap.push (l0 a ((its.toArray.size:Int) - 1))).get? b=some o:=λb o e=>Heap.get?_push_of_some _ e;refine zif (I:=s1.heap.objs.size) (l:=a) (items:=its.toArray) (I1.ok.hd hc) (Heap.get?_push_size _ rfl) (by obtain⟨o,e,r⟩:=id ip;exact⟨o,kp _ _ e,r⟩) (Nat.ne_of_lt al) hzz λh' tk acc c' k1 hS hacc=> ?_;have k5: ∀b o,s1.heap.get? b=some o->h'.get? b=some o:=λb o e=>k1 b o (Nat.ne_of_lt (Heap.lt_size e)) (kp b o e);have hfr:H1 (s1.heap.push (l0 a ((its.toArray.size:Int) - 1))).objs.size=none:=I1.hok.fresh (by rw[Heap.size_push];exact Nat.le_succ _);refine⟨.ref _,_,I1.laid (t':=tk) (o:= .lst xs.reverse) k5 (by rw[Heap.size_push];exact Nat.le_succ _) ⟨by rw[List.length_reverse];exact hz,acc.toList,c',zf9 rv hacc,?_⟩,rfl,q _ hfr⟩;simpa using hS⟩
def zgF (T:zA):zA:=λenv st Q=>T env st λx st1=>match x with | .tup xs=>Q (.lst xs.reverse) st1 | _=>False
@[simp] theorem zox {T:zA}{env:zF}{st:z4}{Q:K3} :zgF T env st Q=(T env st λx st1=>match x with | .tup xs=>Q (.lst xs.reverse) st1 | _=>False):=rfl
theorem zmH {e:Expr}{Ta:zA}{p p2 pos pos2:Pos}(hc:X.calm=true)(hg:Gl X "list")(hm:X.mg "list" =none)(hg2:Gl X "reversed")(hm2:X.mg "reversed" =none)(he:PE X e (zL X.K Ta))
  (hs:starEach [e] X.env= [(false,eval e X.env)]:=by rfl) (hs2:starEach [.Call (.Name "reversed" p2) [e] [] pos2] X.env= [(false,eval (.Call (.Name "reversed" p2) [e] [] pos2) X.env)]:=by rfl):
  PE X (.Call (.Name "list" p) [.Call (.Name "reversed" p2) [e] [] pos2] [] pos) (zL X.K (zgF Ta)):=by
 refine xW (zlX hc hg hm hg2 hm2 he hs hs2) λσ H Q ⟨A,env,st,Q3,rel,h,k⟩=>⟨A,env,st,_,rel,h,λA1 H1 st1 x v g1 s1 e1 h1=> ?_⟩
 split at h1
 ·cases e1 with | val e=>cases e with | tup t z r=>
   exact⟨_,_,rfl,t.sq,(k.after g1).lst s1 r.reverse (by rw[List.length_reverse];exact z) h1⟩
 ·exact h1.elim
end
end L3
namespace L3
open PySem PySem.Spec PyProof.Rows L2
section
variable {X:Cx} {a b c:Expr} {pos:Pos} {Ta Tb Tc:zA}
def zbw (R R':R3)(Ta Tb Tc:zA):zA:=λenv st Q=>Ta env st λx st1=>Tb env st1 λy st2=>R x y st2 λr st3=>match r with
 | .bl true=>Tc env st3 λz st4=>R' y z st4 Q
 | .bl false=>Q (.bl false) st3
 | _=>False
@[simp] theorem iN {R R':R3}{env:zF}{st:z4}{Q:K3} :zbw R R' Ta Tb Tc env st Q=(Ta env st λx st1=>Tb env st1 λy st2=>R x y st2 λr st3=>match r with | .bl true=>Tc env st3 λz st4=>R' y z st4 Q | .bl false=>Q (.bl false) st3 | _=>False):=rfl
theorem zim {K:Frag}{R R':R3}{σ:St}{H:Hp}{Q:VK} :zL K (zbw R R' Ta Tb Tc) σ H Q->zgp (xN K R) (xN K R') (zL K Ta) (zL K Tb) (zL K Tc) σ H Q:=by
 rintro⟨A,env,st,Q3,rel,h,k⟩;refine⟨A,env,st,_,rel,h,λA1 H1 st1 x v g1 s1 e1 h1=>⟨A1,env,st1,_,rel.grow g1 s1,h1,λA2 H2 st2 y w g2 s2 e2 h2=>⟨A2,st2,x,y,_,s2,e1.grow g2,e2,h2,λA3 H3 st3 r u g3 s3 e3 h3=> ?_⟩⟩⟩;have g12:=g1.trans g2
 split at h3
 ·cases e3 with
  | val e3=>
   cases e3;refine⟨true,rfl,?_⟩;rw[if_pos rfl];exact⟨A3,env,st3,_,rel.grow (g12.trans g3) s3,h3,λA4 H4 st4 z v4 g4 s4 e4 h4=>⟨A4,st4,y,z,Q3,s4,e2.grow (g3.trans g4),e4,h4,k.after ((g12.trans g3).trans g4)⟩⟩
 ·cases e3 with
  | val e3=>
   cases e3;refine⟨false,rfl,?_⟩;rw[if_neg (by decide)];exact k A3 H3 st3 _ _ (g12.trans g3) s3 (.val (.bl _)) h3
 ·exact h3.elim
theorem zmF {op op':CmpOp}{R R':R3}(ho:yG X (compareOp op) (xN X.K R))(ho':yG X (compareOp op') (xN X.K R'))(ha:PE X a (zL X.K Ta))(hb:PE X b (zL X.K Tb))(hc:PE X c (zL X.K Tc))(hm:lastMarks [op,op'] [b,c]=false:=by with_unfolding_all rfl):PE X (.Compare a [op,op'] [b,c] pos) (zL X.K (zbw R R' Ta Tb Tc)):=
 xW (zlQ ho ho' ha hb hc hm) λ_ _ _=>zim
end
end L3
namespace L2
open PySem PySem.Spec PyProof.Rows
theorem z5.freeze {X:Cx}{pins:List (Addr×Obj)}{σ:St}{H:Hp}{s:Shared}{a:Addr}{o:Obj}{us:List (z7×V)}(I:z5 X pins σ H s)(h:H a=some (.dK us))(ho:s.heap.get? a=some o):z5 X pins σ (zJ H a (.frz o (.dK us))) s:=by
 have ne: ∀{b:Addr} {u:HO},H b=some u->u≠ .dK us->b≠a:=λ{b u} e d=>zeJ e h d;have ow: ∀b c,H b=some (.own c)->zJ H a (.frz o (.dK us)) b=some (.own c):=λb c e=>by rw[yK (ne e (λz=>by cases z))];exact e
 have tp: ∀b xs,H b=some (.tup xs)->zJ H a (.frz o (.dK us)) b=some (.tup xs):=λb xs e=>by rw[yK (ne e (λz=>by cases z))];exact e
 refine I.step (h':=s.heap) (g':=s.gens) (t':=s.toks) (d':=s.drawn) (ch:= []) (λ_ z=>nomatch z) (λb o _ _ _ e _=>e) (λb o _ _ _ e _=>⟨o.slots,e⟩) (λb _ _ _ n=> ?_) (λb o _ e=>⟨o,e⟩) tp (λb o' u e=> ?_) (λb ps e=>⟨#[],?_⟩) (λ_ e=>e) (λb u e=> ?_) I.bare
 ·rw[yK (λz=>by rw[z,h]at n;cases n)];exact n
 ·rw[yK (ne e (λz=>by cases z))];exact e
 ·rw[yK (ne e (λz=>by cases z)),e];simp
 ·by_cases hb:b=a
  ·subst hb
   rw[yQ]at e;cases e;exact⟨ho,(I.hok b _ h).stay (λ_ _ _ e=>e) (λc e=>ow c b e) tp⟩
  ·rw[yK hb]at e
   exact(I.hok b u e).stay (λ_ _ _ e=>e) (λc e=>ow c b e) tp
def nP (a:Addr)(o:Obj)(n:Nat):It:=⟨λi H=> ∃us,H a=some (.frz o (.dK us))/\us.length=n/\i < n,λi H x H'=>H'=H/\∀us,H a=some (.frz o (.dK us))->∃q,us[i]?=some q/\x=kV q.1,λi H=> ∃us,H a=some (.frz o (.dK us))/\us.length=n/\i=n⟩
theorem zdZ {P:Program}{w:World}{H:Hp}{h:Heap}{a:Addr}{o:Obj}{us:List (z7×V)}{es:Array _}{ep:Nat}(ok:xD P w H h)(e:H a=some (.frz o (.dK us)))(hd:o.data= .dict es ep): ∃vs,KV us vs/\h.DictAt (x6 P w) a vs ep:=by
 obtain⟨e1,_,_,vs,r,o',es',ep',e2,c1,c2,c3⟩:=(show wA P w H h a (.frz o (.dK us))from ok a _ e);rw[e1]at e2;cases e2;rw[hd]at c2;cases c2;exact⟨vs,r,o,es,e1,c1,hd,c3⟩
theorem zos {P:Program}{w:World}{K:Frag}{tg:Expr}(a it:Addr)(o:Obj)(n:Nat){es:Array _}{ep:Nat}(hd:o.data= .dict es ep)(hne:a≠it):
  p7 P w K tg (nP a o n) [it] it (λi h=>h.IsKeyIter it a i n ep) where
 mem:=by simp
 obj:=λi h st b hb=>by
  have e:b=it:=by simpa using hb
  subst e;obtain⟨o,e,c,d⟩:=st;exact⟨o,e,λv z=>by rw[d]at z;cases z⟩
 keep:=λi h h' st k=>by
  obtain⟨o,e,r⟩:=st;exact⟨o,k it (by simp) o e,r⟩
 item:=by
  intro X hP hw hK hc i pins s σ H E I hf st hg;subst hP hw hK;obtain⟨f0,f1,f2,f3,f4,f5⟩:=hf it (by simp);obtain⟨us,hz,hul,hi⟩:=hg;obtain⟨vs,r,at1⟩:=zdZ I.hok hz hd;have hl:n=vs.length:=hul.symm.trans (mN r);have W:=Walks.dictKeys (knd:=x6 X.prog X.w) (A:=X.A) (I.ok.hd hc) it a hne vs ep;refine W.item i s _ _ (by omega) ⟨by rw[<- hl];exact st,at1⟩ λv h' tk hv st' kk=> ?_;obtain⟨k,x,ek,ev⟩:=hv;obtain⟨y,ey⟩:=zah r ek;have I1:z5 X pins σ H {s with heap:=h',toks:=tk} :=I.turned (λb o hb e=>kk b o (by simpa using hb) e) f0 f1 f3 f4 f5;have st2:=st'.1;rw[<- hl]at st2;obtain⟨ob,e,c',d⟩:=id st2;refine⟨_,rfl,mK (s:= {s with heap:=h',toks:=tk}) e c' d (by decide) ⟨kV k,H,I1,?_,⟨rfl,λus' hz'=>by rw[hz]at hz';cases hz';exact⟨_,ey,rfl⟩⟩,st2,λb hb=>(hf b hb).1⟩⟩;rcases tW ev with⟨i,t,rfl,rfl⟩ | ⟨z',t,rfl,rfl⟩
  ·exact⟨t,rfl⟩
  ·exact⟨t,rfl⟩
 done:=by
  intro X hP hw hK hc i pins s σ H E I hf st hg;subst hP hw hK;obtain⟨f0,f1,f2,f3,f4,f5⟩:=hf it (by simp);obtain⟨us,hz,hul,rfl⟩:=hg;obtain⟨vs,r,at1⟩:=zdZ I.hok hz hd;have hl:i=vs.length:=hul.symm.trans (mN r);have W:=Walks.dictKeys (knd:=x6 X.prog X.w) (A:=X.A) (I.ok.hd hc) it a hne vs ep;refine W.done s _ _ ⟨by rw[<- hl];exact st,at1⟩ λh' tk kk=>⟨rfl,I.turned (λb o hb e=>kk b o (by simpa using hb) e) f0 f1 f3 f4 f5⟩
 self:=λ_ _ _ _ _ st h=>wpAny_pyIter_keyiter st h
section
variable {X:Cx} {tg:Expr}
def zjF (tl:TE):TI:=λσ H R=>tl σ H λx H1=> ∃a us,x= .ref a/\((H1 a=some (.dK us)/\∀o,R (nP a o us.length) (zJ H1 a (.frz o (.dK us))))∨∃o,H1 a=some (.frz o (.dK us))/\R (nP a o us.length) H1)
theorem zmn {l:Expr}{tl:TE}(hl:PE X l tl):PI X tg l (zjF tl):=by
 refine⟨?_⟩;intro pins s σ H R I h;refine zU (hl pins s σ H _ I h) λv s1 ⟨x,H1,I1,r1,q1⟩=> ?_;obtain⟨a,us,e,q⟩:=q1;subst e;cases r1;have core: ∀{H2:Hp} {o:Obj},z5 X pins σ H2 s1->H2 a=some (.frz o (.dK us))->R (nP a o us.length) H2->wpAny (model X.prog X.w) X.A (pyIter (.ref a)) (nT X pins σ tg R) X.xe s1:=λ{H2 o} I2 hz q=>by
  obtain⟨e1,_,hs,vs,r,o',es,ep,e2,c1,c2,c3⟩:=(show wA X.prog X.w H2 s1.heap a (.frz o (.dK us))from I2.hok a _ hz);rw[e1]at e2;cases e2;have hl:=mN r;have hlt:=Heap.lt_size e1;refine wpAny_pyIter_dict (knd:=x6 X.prog X.w) hs ⟨o,es,e1,c1,c2,c3⟩ ?_;refine⟨s1.heap.objs.size,[s1.heap.objs.size],_,_,H2,rfl,I2.kept (t':=s1.toks) λb o e=>Heap.get?_push_of_some _ e,zos a _ o us.length c2 (Nat.ne_of_lt hlt),⟨_,Heap.get?_push_size _ rfl,rfl,by rw[hl];rfl⟩,λb hb=> ?_,q⟩;have e:b=s1.heap.objs.size:=by simpa using hb
  subst e;exact I2.fpOk (Nat.le_refl _) (I2.hok.fresh (Nat.le_refl _))
 rcases q with⟨hz,q⟩ | ⟨o,hz,q⟩
 ·obtain⟨_,_,_,_,o,_,_,e1,_⟩:=(show wA X.prog X.w H1 s1.heap a (.dK us)from I1.hok a _ hz)
  exact core (I1.freeze hz e1) yQ (q o)
 ·exact core I1 hz q
end
end L2
namespace L3
open PySem PySem.Spec PyProof.Rows L2
theorem RKs.get {K:Frag}{A:List Addr}{H:Hp} : ∀{kvs:List (z7×PV)} {us:List (z7×V)} {i:Nat} {p:z7×PV} {q:z7×V},RKs K A H kvs us->kvs[i]?=some p->us[i]?=some q->p.1=q.1
 | _,_,0,p,q,.cons r t,h1,h2=>by simp at h1 h2;subst h1 h2;rfl
 | _,_,i+1,p,q,.cons r t,h1,h2=>RKs.get (i:=i) t (by simpa using h1) (by simpa using h2)
section
variable {X:Cx} {iter tg a b:Expr} {Ta:zA}
theorem zes {K:Frag}{A:List Addr}{H:Hp}{i0:Nat}{a:Addr}{o:Obj}{kvs:List (z7×PV)}(e:A[i0]?=some a)(hz:kvs.length<=sizeLine):qA K A H (some (i0,.fd o kvs)) (nP a o kvs.length) (kvs.map λq=>u0 q.1) where
 go:=λi A' H' st g rs ok hi=>by
  obtain⟨us,h,r,_⟩:=rs.at_ _ _ _ (g.sub e) ok;rw[List.length_map]at hi;exact⟨us,h,r.len.symm,hi⟩
 yld:=λi x A' H' st v H2 hx g rs ok y=>by
  obtain⟨us,h,r,_⟩:=rs.at_ _ _ _ (g.sub e) ok;obtain⟨rfl,y⟩:=y;obtain⟨q,hq,rfl⟩:=y us h;rw[List.getElem?_map]at hx;cases hp:kvs[i]? with
  | none=>rw[hp]at hx;cases hx
  | some p=>
   rw[hp]at hx;cases hx;refine⟨.refl _ _,rs,?_⟩;show RE K A' H2 (u0 p.1) (kV q.1);rw[RKs.get r hp hq];cases q.1 with
   | inl j=>exact .val (.int _)
   | inr z=>exact .val (.str _)
 stop:=λA' H' st g rs ok=>by
  obtain⟨us,h,r,_⟩:=rs.at_ _ _ _ (g.sub e) ok;rw[List.length_map];exact⟨us,h,r.len.symm,rfl⟩
 small:=by rw[List.length_map];exact hz
def zeh (T:zA):uL:=λenv st Q=>T env st λx st1=> ∃(i:Nat) (kvs:List (z7×PV)),x= .obj i/\((st1[i]?=some (.dct kvs)/\∀o,Q (some (i,.fd o kvs)) (kvs.map λq=>u0 q.1) (st1.set i (.fd o kvs)))∨∃o,st1[i]?=some (.fd o kvs)/\Q (some (i,.fd o kvs)) (kvs.map λq=>u0 q.1) st1)
theorem zmL (h:PE X iter (zL X.K Ta)):PI X tg iter (sM X.K (zeh Ta)):=by
 refine jR (zmn h) λσ H R ⟨A,env,st,Q3,rel,h,k⟩=>⟨A,env,st,_,rel,h,λA1 H1 st1 x v g1 s1 e1 h1=> ?_⟩;obtain⟨i,kvs,rfl,h1⟩:=h1;cases e1 with
 | val e=>cases e
 | obj eo=>
  rename_i av;have hm:=List.mem_of_getElem? eo;rcases h1 with⟨q,h1⟩ | ⟨o,q,h1⟩
  ·obtain⟨us,h2,r,hz⟩:=s1.at_ _ _ _ eo q
   refine⟨_,us,rfl,.inl ⟨h2,λo=> ?_⟩⟩;have:=zes (K:=X.K) (H:=zJ H1 av (.frz o (.dK us))) (o:=o) (kvs:=kvs) eo (by rw[r.len];exact hz);rw[r.len]at this;exact k A1 _ _ _ _ _ (g1.trans (.put hm)) (s1.put (q:= .fd o kvs) eo ⟨us,yQ,r.grow (.put hm),hz⟩) this (h1 o)
  ·obtain⟨us,h2,r,hz⟩:=s1.at_ _ _ _ eo q
   have:=zes (K:=X.K) (H:=H1) (o:=o) (kvs:=kvs) eo (by rw[r.len];exact hz);rw[r.len]at this;exact⟨_,us,rfl,.inr ⟨o,h2,k A1 _ _ _ _ _ g1 s1 this h1⟩⟩
def zaB:R3:=λx y st Q=>match x with
 | .obj n=>(match y with
  | .str k=>(match st[n]? with | some (.fd _ kvs)=>(match zR kvs (.inr k)with | some z=>Q z st | none=>False) | _=>False)
  | _=>False)
 | _=>False
theorem zkS {k:Nat}(hr:y4 k X.A):rB X (xN X.K zaB):=by
 intro value slice pins s σ H v w vv ww Q I rv rw ⟨A,st,x,y,Q3,rs,ex,ey,h,k⟩ hs;unfold zaB at h
 split at h
 ·split at h
  ·rename_i n y' kk
   split at h
   ·rename_i ob kvs q
    split at h
    ·rename_i z e
     cases ex with
     | val ex=>cases ex
     | obj eo=>
      obtain⟨us,h1,r,hzz⟩:=rs.at_ _ _ _ eo q;rcases r.val (k:= .inr kk)with⟨x',v',e1,e2,r'⟩ | ⟨e1,e2⟩
      ·rw[e]at e1;cases e1
       exact jB hr value slice pins s σ H _ _ vv ww Q I rv rw ⟨_,v',rfl,.inl ⟨_,.inr kk,.inr ⟨ob,h1⟩,sR ey rfl,e2.symm⟩,k.now rs (.val r') h⟩ hs
      ·rw[e]at e1;cases e1
    ·exact h.elim
   ·exact h.elim
  ·exact h.elim
 ·exact h.elim
end
@[simp] theorem zg7 {T:zA}{env:zF}{st:z4}{Q:xY->List PV->z4->Prop} :zeh T env st Q=(T env st λx st1=> ∃(i:Nat) (kvs:List (z7×PV)),x= .obj i/\((st1[i]?=some (.dct kvs)/\∀o,Q (some (i,.fd o kvs)) (kvs.map λq=>u0 q.1) (st1.set i (.fd o kvs)))∨∃o,st1[i]?=some (.fd o kvs)/\Q (some (i,.fd o kvs)) (kvs.map λq=>u0 q.1) st1)):=rfl
@[simp] theorem zcH {n:Nat}{x:Str}{st:z4}{Q:K3} :zaB (.obj n) (.str x) st Q=(match st[n]? with | some (.fd _ kvs)=>(match zR kvs (.inr x)with | some z=>Q z st | none=>False) | _=>False):=rfl
end L3
set_option maxHeartbeats 1000000
namespace N19
open PySem L2 L3
def xX (i:Nat):Stmt:=PySem.Challenge.pw_copiedhouse_k19_what_a_hand_holds.main.body.getD i (.Pass ⟨0,0,0,0⟩)
theorem rF:bootBuiltins "tuple" =some (.type "tuple"):=by decide+kernel
theorem zhZ:bootBuiltins "dict" =some (.type "dict"):=by decide+kernel
theorem oG:bootBuiltins "int" =some (.type "int"):=by decide+kernel
abbrev qT:Stmt:=xX 4
theorem znu:xH ["tuples","word"] ["tuples","word"] (zS qT):=⟨rfl,rfl,rfl,by decide+kernel,rfl,by decide+kernel,by decide+kernel⟩
abbrev pZ:Stmt:=xX 5
theorem znv:xH ["program","H"] ["program","H"] (zS pZ):=⟨rfl,rfl,rfl,by decide+kernel,rfl,by decide+kernel,by decide+kernel⟩
abbrev qX:Stmt:=xX 6
theorem zaT:xH ["program","kind","named","hand"] ["program","kind"] (zS qX):=⟨rfl,rfl,rfl,by decide+kernel,rfl,by decide+kernel,by decide+kernel⟩
abbrev qW:Stmt:=xX 7
theorem lG:xH ["program","splits","order","waiting","word"] ["program"] (zS qW):=⟨rfl,rfl,rfl,by decide+kernel,rfl,by decide+kernel,by decide+kernel⟩
abbrev o0:Stmt:=xX 9
theorem zfK:xH ["program","H","n","rows"] ["program","H","n"] (zS o0):=⟨rfl,rfl,rfl,by decide+kernel,rfl,by decide+kernel,by decide+kernel⟩
abbrev o3:Stmt:=xX 10
theorem iD:xH ["program","rows_of","ends","word"] ["program"] (zS o3):=⟨rfl,rfl,rfl,by decide+kernel,rfl,by decide+kernel,by decide+kernel⟩
abbrev o4:Stmt:=xX 11
theorem zaS:xH ["rows","ends","held","row"] ["rows","ends"] (zS o4):=⟨rfl,rfl,rfl,by decide+kernel,rfl,by decide+kernel,by decide+kernel⟩
abbrev qV:Stmt:=xX 12
theorem znw:xH ["program","held"] ["program","held"] (zS qV):=⟨rfl,rfl,rfl,by decide+kernel,rfl,by decide+kernel,by decide+kernel⟩
abbrev pK:Stmt:=xX 14
theorem lC:xH ["_law_script","_law_k","_law_cell","_law_seed"] ["_law_script","_law_k"] (zS pK):=⟨rfl,rfl,rfl,by decide+kernel,rfl,by decide+kernel,by decide+kernel⟩
abbrev pS:Stmt:=xX 15
theorem zaR:xH ["_law_box_here","_law_many","_law_digit","_law_one"] ["_law_box_here","_law_many"] (zS pS):=⟨rfl,rfl,rfl,by decide+kernel,rfl,by decide+kernel,by decide+kernel⟩
abbrev qS:Stmt:=xX 16
theorem uY:xH ["_law_box_here","_law_many","_law_letters","_law_k","_law_common","_law_at","_law_first","_law_longer","_law_found","_law_word","_law_own"] ["_law_box_here","_law_many"] (zS qS):=⟨rfl,rfl,rfl,by decide+kernel,rfl,by decide+kernel,by decide+kernel⟩
abbrev pQ:Stmt:=xX 17
theorem zfJ:xH ["_law_box_here","_law_form"] ["_law_box_here"] (zS pQ):=⟨rfl,rfl,rfl,by decide+kernel,rfl,by decide+kernel,by decide+kernel⟩
abbrev pT:Stmt:=xX 18
theorem pX:xH ["_law_box_here","_law_leaves_here","_law_room","_law_deep","_law_form","_law_third","_law_one","_law_other","_law_half"] ["_law_box_here","_law_leaves_here","_law_room","_law_deep"] (zS pT):=⟨rfl,rfl,rfl,by decide+kernel,rfl,by decide+kernel,by decide+kernel⟩
abbrev pJ:Stmt:=xX 19
theorem zfH:xH ["_law_box_here","_law_leaves_here","_law_room"] ["_law_box_here","_law_leaves_here"] (zS pJ):=⟨rfl,rfl,rfl,by decide+kernel,rfl,by decide+kernel,by decide+kernel⟩
abbrev pP:Stmt:=xX 20
theorem lF:xH ["_law_box_here","_law_kinds","_law_calm","_law_word","_law_three","_law_term_here"] ["_law_box_here","_law_kinds","_law_calm"] (zS pP):=⟨rfl,rfl,rfl,by decide+kernel,rfl,by decide+kernel,by decide+kernel⟩
abbrev qQ:Stmt:=xX 21
theorem lB:xH ["_law_box_here","_law_manner_here","_law_things","_law_found","_law_word","_law_many"] ["_law_box_here","_law_manner_here","_law_things"] (zS qQ):=⟨rfl,rfl,rfl,by decide+kernel,rfl,by decide+kernel,by decide+kernel⟩
abbrev pO:Stmt:=xX 22
theorem lE:xH ["_law_box_here","_law_shelves","_law_things","_law_found","_law_ks","_law_manner_here","_law_begin_here"] ["_law_box_here","_law_shelves","_law_things"] (zS pO):=⟨rfl,rfl,rfl,by decide+kernel,rfl,by decide+kernel,by decide+kernel⟩
abbrev pL:Stmt:=xX 23
theorem pV:xH ["_law_box_here","_law_shelf","_law_leaves_here","_law_things","_law_ks","_law_manner_here","_law_begin_here","_law_word","_law_term_here"] ["_law_box_here","_law_shelf","_law_leaves_here","_law_things"] (zS pL):=⟨rfl,rfl,rfl,by decide+kernel,rfl,by decide+kernel,by decide+kernel⟩
abbrev pR:Stmt:=xX 24
theorem nA:xH ["_law_box_here","_law_uses","_law_things","_law_own","_law_asked","_law_leaves_here","_law_row_here"] ["_law_box_here","_law_uses","_law_things"] (zS pR):=⟨rfl,rfl,rfl,by decide+kernel,rfl,by decide+kernel,by decide+kernel⟩
abbrev pN:Stmt:=xX 25
theorem zfI:xH ["_law_box_here","_law_plan","_law_rows","_law_held","_law_other"] ["_law_box_here","_law_plan","_law_rows","_law_held"] (zS pN):=⟨rfl,rfl,rfl,by decide+kernel,rfl,by decide+kernel,by decide+kernel⟩
abbrev pM:Stmt:=xX 26
theorem pW:xH ["_law_script","_law_at","_law_plan","_law_number_here","_law_box_here","_law_uses","_law_rows","_law_held","_law_k","_law_kind","_law_other"] ["_law_script","_law_at","_law_plan","_law_number_here"] (zS pM):=⟨rfl,rfl,rfl,by decide+kernel,rfl,by decide+kernel,by decide+kernel⟩
abbrev pU:Stmt:=xX 27
theorem rX:xH ["_law_box_here","_law_form","_law_some","_law_x","_law_y","_law_z","_law_at"] ["_law_box_here"] (zS pU):=⟨rfl,rfl,rfl,by decide+kernel,rfl,by decide+kernel,by decide+kernel⟩
abbrev rW:Stmt:=xX 28
theorem uX:xH ["_law_script","_law_at","_law_kinds","_law_calm","_law_hands","_law_box_here","_law_words_here","_law_names","_law_things","_law_shelves","_law_k","_law_manner_here","_law_many","_law_uses","_law_plan","_law_others","_law_turn"] ["_law_script","_law_at","_law_kinds","_law_calm","_law_hands"] (zS rW):=⟨rfl,rfl,rfl,by decide+kernel,rfl,by decide+kernel,by decide+kernel⟩
abbrev sX:Stmt:=xX 29
theorem uJ:xH ["_law_program_here","_law_kx","_law_found","_law_kh","_law_rows","_law_n","_law_first","_law_joins","_law_taken","_law_other","_law_some"] ["_law_program_here","_law_kx"] (zS sX):=⟨rfl,rfl,rfl,by decide+kernel,rfl,by decide+kernel,by decide+kernel⟩
abbrev qR:Stmt:=xX 30
theorem zaQ:xH ["_law_program_here","_law_ways","_law_kh","_law_n","_law_due_here","_law_kx"] ["_law_program_here","_law_ways","_law_kh","_law_n"] (zS qR):=⟨rfl,rfl,rfl,by decide+kernel,rfl,by decide+kernel,by decide+kernel⟩
abbrev rY:Stmt:=xX 31
theorem u7:xH ["_law_script","_law_program_here","_law_ways","_law_kx","_law_rows","_law_some_rows","_law_kh","_law_n","_law_some","_law_found","_law_first"] ["_law_script"] (zS rY):=⟨rfl,rfl,rfl,by decide+kernel,rfl,by decide+kernel,by decide+kernel⟩
structure Mo (K:Frag)(mg:Str->Option Value):Prop where
 len:mg "len" =none
 int:mg "int" =none
 range:mg "range" =none
 tuple:mg "tuple" =none
 isinstance:mg "isinstance" =none
 bool:mg "bool" =none
 str:mg "str" =none
 dict:mg "dict" =none
 list:mg "list" =none
 sorted:mg "sorted" =none
 min:mg "min" =none
 max:mg "max" =none
 all:mg "all" =none
 set:mg "set" =none
 enumerate:mg "enumerate" =none
 reversed:mg "reversed" =none
 first_called: ∃f fd,yC K "first_called" "first_called" qT f fd/\x5 K fd ["tuples","word"] []/\mg "first_called" =some (.ref f)
 hand_named: ∃f fd,yC K "hand_named" "hand_named" pZ f fd/\x5 K fd ["program","H"] []/\mg "hand_named" =some (.ref f)
 named_by_hands: ∃f fd,yC K "named_by_hands" "named_by_hands" qX f fd/\x5 K fd ["program","kind"] []/\mg "named_by_hands" =some (.ref f)
 in_split_order: ∃f fd,yC K "in_split_order" "in_split_order" qW f fd/\x5 K fd ["program"] []/\mg "in_split_order" =some (.ref f)
 held_at: ∃f fd,yC K "held_at" "held_at" o0 f fd/\x5 K fd ["program","H","n"] []/\mg "held_at" =some (.ref f)
 held_at_ends: ∃f fd,yC K "held_at_ends" "held_at_ends" o3 f fd/\x5 K fd ["program"] []/\mg "held_at_ends" =some (.ref f)
 held_behind: ∃f fd,yC K "held_behind" "held_behind" o4 f fd/\x5 K fd ["rows","ends"] []/\mg "held_behind" =some (.ref f)
 in_order_of_hands: ∃f fd,yC K "in_order_of_hands" "in_order_of_hands" qV f fd/\x5 K fd ["program","held"] []/\mg "in_order_of_hands" =some (.ref f)
 _law_box: ∃f fd,yC K "_law_box" "_law_box" pK f fd/\x5 K fd ["_law_script","_law_k"] []/\mg "_law_box" =some (.ref f)
 _law_take: ∃f fd,yC K "_law_take" "_law_take" pS f fd/\x5 K fd ["_law_box_here","_law_many"] []/\mg "_law_take" =some (.ref f)
 _law_words: ∃f fd,yC K "_law_words" "_law_words" qS f fd/\x5 K fd ["_law_box_here","_law_many"] []/\mg "_law_words" =some (.ref f)
 _law_number: ∃f fd,yC K "_law_number" "_law_number" pQ f fd/\x5 K fd ["_law_box_here"] []/\mg "_law_number" =some (.ref f)
 _law_term: ∃f fd,yC K "_law_term" "_law_term" pT f fd/\x5 K fd ["_law_box_here","_law_leaves_here","_law_room","_law_deep"] []/\mg "_law_term" =some (.ref f)
 _law_any_term: ∃f fd,yC K "_law_any_term" "_law_any_term" pJ f fd/\x5 K fd ["_law_box_here","_law_leaves_here"] []/\mg "_law_any_term" =some (.ref f)
 _law_manner: ∃f fd,yC K "_law_manner" "_law_manner" pP f fd/\x5 K fd ["_law_box_here","_law_kinds","_law_calm"] []/\mg "_law_manner" =some (.ref f)
 _law_begin: ∃f fd,yC K "_law_begin" "_law_begin" qQ f fd/\x5 K fd ["_law_box_here","_law_manner_here","_law_things"] []/\mg "_law_begin" =some (.ref f)
 _law_leaves: ∃f fd,yC K "_law_leaves" "_law_leaves" pO f fd/\x5 K fd ["_law_box_here","_law_shelves","_law_things"] []/\mg "_law_leaves" =some (.ref f)
 _law_deed: ∃f fd,yC K "_law_deed" "_law_deed" pL f fd/\x5 K fd ["_law_box_here","_law_shelf","_law_leaves_here","_law_things"] []/\mg "_law_deed" =some (.ref f)
 _law_row: ∃f fd,yC K "_law_row" "_law_row" pR f fd/\x5 K fd ["_law_box_here","_law_uses","_law_things"] []/\mg "_law_row" =some (.ref f)
 _law_join: ∃f fd,yC K "_law_join" "_law_join" pN f fd/\x5 K fd ["_law_box_here","_law_plan","_law_rows","_law_held"] []/\mg "_law_join" =some (.ref f)
 _law_hand: ∃f fd,yC K "_law_hand" "_law_hand" pM f fd/\x5 K fd ["_law_script","_law_at","_law_plan","_law_number_here"] []/\mg "_law_hand" =some (.ref f)
 _law_three_words: ∃f fd,yC K "_law_three_words" "_law_three_words" pU f fd/\x5 K fd ["_law_box_here"] []/\mg "_law_three_words" =some (.ref f)
 _law_program: ∃f fd,yC K "_law_program" "_law_program" rW f fd/\x5 K fd ["_law_script","_law_at","_law_kinds","_law_calm","_law_hands"] []/\mg "_law_program" =some (.ref f)
 _law_way: ∃f fd,yC K "_law_way" "_law_way" sX f fd/\x5 K fd ["_law_program_here","_law_kx"] []/\mg "_law_way" =some (.ref f)
 _law_due: ∃f fd,yC K "_law_due" "_law_due" qR f fd/\x5 K fd ["_law_program_here","_law_ways","_law_kh","_law_n"] []/\mg "_law_due" =some (.ref f)
local macro_rules | `(tactic| simp_all? only[$ts,*])=> `(tactic| ((try dsimp[uK]);repeat(simp only[cB,zct,rJ,zcA,zcB,zcC,Nat.reduceAdd,Nat.reduceSub,Nat.reduceLT,Nat.reduceLeDiff,Int.reduceLT,Int.reduceLE,Int.reducePow,Int.reduceNeg,Int.reduceMul,Int.reduceAdd,Int.reduceSub,Int.reduceToNat,$ts,*];(try dsimp[uK]))))
local macro_rules | `(tactic| simp? only[$ts,*])=> `(tactic| ((try dsimp);repeat(simp only[cB,zct,rJ,zcA,zcB,zcC,Nat.reduceAdd,Nat.reduceSub,Nat.reduceLT,Nat.reduceLeDiff,Int.reduceLT,Int.reduceLE,Int.reducePow,Int.reduceNeg,Int.reduceMul,Int.reduceAdd,Int.reduceSub,Int.reduceToNat,$ts,*];(try dsimp))))
theorem gZ:lV 10 18:=⟨by decide,by decide,by decide⟩
def yD (a b:Int):Prop:=0<=a/\0<=b/\b<=2147483647
abbrev z9 (a b:Int):PO:= .lst [.int a,.int b]
def zaY:y6:=λxs st Q=> ∃(ns:List Int) (k:Int),xs= [.lst (ns.map .int),.int k]/\ns.length<=63/\0<=k/\∀a b,yD a b->Q (.obj st.length) (st++ [z9 a b])
def u8:y6:=λxs st Q=> ∃(i:Nat) (many a b:Int),xs= [.obj i,.int many]/\st[i]?=some (z9 a b)/\yD a b/\0 < many/\many < 1099511627776/\∀d a b,0<=d->d < many->yD a b->Q (.int d) (st.set i (z9 a b))
inductive Tm (L:Type) where | num (k:Int) | lf (l:L) | op (s:Str)(a b:Tm L) | ite (a b c:Tm L)
def Tm.rank {L:Type} :Tm L->Nat
 | .op _ a b=>max a.rank b.rank+1
 | .ite a b c=>max a.rank (max b.rank c.rank)+1
 | _=>0
def Sg (s:Str):Prop:=s= "+" ∨s= "-" ∨s= "*" ∨s= "<" ∨s= "="
def opv (s:Str)(a b:Int):Int:=if s= "+" then(a+b) % 4294967296 else if s= "-" then(a - b) % 4294967296 else if s= "*" then a * b % 4294967296 else if s= "<" then(if a < b then 1 else 0)else(if a=b then 1 else 0)
def In (i:Int):Prop:=0<=i/\i < 4294967296
def Tm.val {L:Type}(lv:L->Int):Tm L->Int
 | .num k=>k
 | .lf l=>lv l
 | .op s a b=>opv s (a.val lv) (b.val lv)
 | .ite a b c=>if a.val lv=0 then c.val lv else b.val lv
def Tm.ok {L:Type}(lo:L->Prop):Tm L->Prop
 | .num k=>In k
 | .lf l=>lo l
 | .op s a b=>Sg s/\a.ok lo/\b.ok lo
 | .ite a b c=>a.ok lo/\b.ok lo/\c.ok lo
def Tm.pv {L:Type}(lp:L->PV):Tm L->PV
 | .num k=> .tup [.str "num",.int k]
 | .lf l=>lp l
 | .op s a b=> .tup [.str "op",.str s,a.pv lp,b.pv lp]
 | .ite a b c=> .tup [.str "if",a.pv lp,b.pv lp,c.pv lp]
def oB {L:Type}(lp:L->PV):Prop:= ∀l,∃(kd:Str) (yH:List PV),lp l= .tup (.str kd::yH)/\kd≠ "num" /\kd≠ "op" /\kd≠ "if"
inductive tF where | was | mine | yours
def tF.pv:tF->PV | .was=> .tup [.str "was"] | .mine=> .tup [.str "mine"] | .yours=> .tup [.str "yours"]
def tF.val (w m y:Int):tF->Int | .was=>w | .mine=>m | .yours=>y
theorem ze3:oB tF.pv:=λl=>by cases l <;> exact⟨_,[],rfl,by decide+kernel,by decide+kernel,by decide+kernel⟩
theorem zow (ys:List Str)(n:Nat)(h: ∀y∈ys,y.length<=n):(ys.map (·.length)).sum<=n * ys.length:=by
 induction ys with
 | nil=>simp
 | cons y r ih=>
  have h1:=h y List.mem_cons_self;have h2:=ih λz hz=>h z (List.mem_cons_of_mem _ hz);rw[List.map_cons,List.sum_cons,List.length_cons,Nat.mul_succ];omega
theorem zC {t u:yU}{D:xR}{env:zF}{st:z4}(h:t {D with nx:=u D} env st):uK t u D env st:=h
abbrev Sh:=Str×PV×PV
def yA (s:Sh):PV:= .tup [.str s.1,s.2.1,s.2.2]
inductive Hv where | int (v:Int) | bag (l:List (Str×Int)) | row (ws:List Str)
def Hv.pv:Hv->PV | .int v=> .int v | .bag l=>rE l | .row ws=> .tup (ws.map PV.str)
inductive Lf where | shelf (s:Str) | many (s t:Str) | long (s:Str)
def Lf.pv:Lf->PV | .shelf s=> .tup [.str "shelf",.str s] | .many s t=> .tup [.str "many",.str s,.str t] | .long s=> .tup [.str "long",.str s]
theorem zaj:oB Lf.pv:=λl=>by cases l <;> exact⟨_,_,rfl,by decide+kernel,by decide+kernel,by decide+kernel⟩
def aZ (sh:List Sh)(hs:List Hv)(s:Str):Option Hv:=((sh.map (·.1)).findIdx? λn=>n==s).bind λi=>hs[i]?
def Lf.val (sh:List Sh)(hs:List Hv):Lf->Option Int
 | .shelf s=>(match aZ sh hs s with | some (.int v)=>some v | _=>none)
 | .many s t=>(match aZ sh hs s with | some (.bag l)=>some (zgQ l t % 4294967296) | _=>none)
 | .long s=>(match aZ sh hs s with | some (.row ws)=>some ws.length | _=>none)
theorem znz: ∀d:Int,0<=d->d < 5->∃c,atI (("+-*<=" :Str)).cps.toList d=some c/\Sg ⟨#[c]⟩:=λd d0 d1=>by
 have:d=0∨d=1∨d=2∨d=3∨d=4:=by omega
 rcases this with rfl | rfl | rfl | rfl | rfl
 ·exact⟨43,by decide+kernel,.inl (by decide+kernel)⟩
 ·exact⟨45,by decide+kernel,.inr (.inl (by decide+kernel))⟩
 ·exact⟨42,by decide+kernel,.inr (.inr (.inl (by decide+kernel)))⟩
 ·exact⟨60,by decide+kernel,.inr (.inr (.inr (.inl (by decide+kernel))))⟩
 ·exact⟨61,by decide+kernel,.inr (.inr (.inr (.inr (by decide+kernel))))⟩
theorem za4 {L:Type}{lp:L->PV}(hlp:oB lp)(t:Tm L):yP (t.pv lp)=true:=by
 cases t with
 | lf l=>obtain⟨kd,yH,e,_⟩:=hlp l;show yP (lp l)=true;rw[e];rfl
 | _=>rfl
theorem zok {α:Type}{st:List α}{i:Nat}{x:α} :(st.set i x).take st.length=st.set i x:=iK
theorem zcQ {L:Type}{lp:L->PV}{m:Nat}{Q:K3}{st:z4}{t:Tm L}(hlp:oB lp)(h:Q (t.pv lp) (st.take m)):xG m Q (t.pv lp) st:=by
 cases t with
 | lf l=>
  obtain⟨kd,yH,e,_⟩:=hlp l;have h':Q (lp l) (st.take m):=h;show xG m Q (lp l) st;rw[e]at h'⊢;exact h'
 | _=>exact h
def lJ {L:Type}(lp:L->PV)(d:Nat):y6:=λxs st Q=> ∃(i:Nat) (ls:List L) (room deep a b:Int),xs= [.obj i,.lst (ls.map lp),.int room,.int deep]/\st[i]?=some (z9 a b)/\yD a b/\oB lp/\ls.length<=1000/\0<=deep/\deep < d/\∀(t:Tm L) a b,t.ok (λl=>l∈ls)->(t.rank:Int)<=deep->yD a b->Q (t.pv lp) (st.set i (z9 a b))
theorem zgd {L:Type}{lp:L->PV}{K:Frag}{vs:List V}{H:Hp}{Q:VK}{E:XK}(h:zN K (lJ lp 0) vs H Q E):False:=by
 obtain⟨_,_,_,_,_,_,⟨_,_,_,_,_,_,_,_,_,_,_,h0,h1,_⟩,_⟩:=h;omega
theorem zel {tc:xA}{t u:yU}{D:xR}{env:zF}{st:z4}{b:Bool}(h: ∀Q,tc env st Q=Q b st)(k:if b=true then t D env st else u D env st):iR tc t u D env st:=by
 show tc env st _;rw[h];exact k
def zaX {L:Type}(lp:L->PV):y6:=λxs st Q=> ∃(i:Nat) (ls:List L) (a b:Int),xs= [.obj i,.lst (ls.map lp)]/\st[i]?=some (z9 a b)/\yD a b/\oB lp/\ls.length<=1000/\∀(t:Tm L) a b,t.ok (λl=>l∈ls)->t.rank < 7->yD a b->Q (t.pv lp) (st.set i (z9 a b))
def gA (s:Sh)(kd:Str):Prop:= ∃r,s.2.1= .tup (.str kd::r)
def nR (sh:List Sh)(l:Lf):Prop:= ∃s∈sh,∃kd,gA s kd/\((kd= "bag" /\∃t,l= .many s.1 t)∨(kd= "row" /\l= .long s.1)∨(kd≠ "bag" /\kd≠ "row" /\l= .shelf s.1))
def zfX:y6:=λxs st Q=> ∃(i:Nat) (sh:List Sh) (ws:List Str) (a b:Int),xs= [.obj i,.lst (sh.map yA),.lst (ws.map PV.str)]/\st[i]?=some (z9 a b)/\yD a b/\(∀s∈sh,∃kd,gA s kd)/\sh.length<=100/\ws≠ []/\ws.length<=1000/\∀(ls:List Lf) a b,ls.length=sh.length->(∀l∈ls,nR sh l)->yD a b->Q (.lst (ls.map Lf.pv)) (st.set i (z9 a b))
def zbd:y6:=λxs st Q=> ∃(i:Nat) (a b:Int),xs= [.obj i]/\st[i]?=some (z9 a b)/\yD a b/\∀d a b,0<=d->d < 4294967296->yD a b->Q (.int d) (st.set i (z9 a b))
def zge:y6:=λxs st Q=> ∃(i:Nat) (many a b:Int),xs= [.obj i,.int many]/\st[i]?=some (z9 a b)/\yD a b/\1<=many/\many<=10/\∀(ws:List Str) a b,(ws.length:Int)=many->ws.Nodup->yD a b->Q (.lst (ws.map PV.str)) (st.set i (z9 a b))
theorem zoG {A B z z':Str}{c c':Nat}(h:A++⟨#[c]⟩++B++z=A++⟨#[c']⟩++B++z'):c=c':=by
 have e:=congrArg (λs:Str=>s.cps.toList) h;have cps: ∀a b:Str,(a++b).cps=a.cps++b.cps:=λa b=>rfl;simp only[cps,Array.toList_append,List.append_assoc,List.cons_append,List.nil_append]at e;have e2:=List.append_cancel_left e;injection e2
theorem ze6 {d:Int}(d0:0<=d)(d1:d < 26):atI (("abcdefghijklmnopqrstuvwxyz" :Str)).cps.toList d=some (97+d.toNat):=by
 have h: ∀n < 26,(("abcdefghijklmnopqrstuvwxyz" :Str)).cps.toList[n]?=some (97+n):=by decide+kernel
 obtain⟨n,rfl⟩: ∃n:Nat,d=n:=⟨d.toNat,by omega⟩;exact wY (h n (by omega))
def p8 (A B:Str)(first:Int)(ws:List Str):Prop:= ∀(m:Nat) (w:Str),ws[m]?=some w->∃z:Str,w=A++⟨#[97+((first+5 * (0+(m:Int))) % 26).toNat]⟩++B++z
theorem p8.snoc {A B:Str}{first:Int}{ws:List Str}{z:Str}(h:p8 A B first ws){k:Nat}(hk:ws.length=k):p8 A B first (ws++ [A++⟨#[97+((first+5 * (0+(k:Int))) % 26).toNat]⟩++B++z]):=λm w hw=>by
 subst hk;rcases Nat.lt_or_ge m ws.length with hl | hl
 ·rw[List.getElem?_append_left hl]at hw;exact h m w hw
 ·rw[List.getElem?_append_right hl]at hw
  have:m=ws.length:=by
   have:=(List.getElem?_eq_some_iff.mp hw).1;simp at this;omega
  subst this;rw[Nat.sub_self]at hw;injection hw with hw
  exact⟨z,hw.symm⟩
theorem p8.nodup {A B:Str}{first:Int}{ws:List Str}(h:p8 A B first ws)(hl:ws.length<=10):ws.Nodup:=by
 refine List.pairwise_iff_getElem.mpr λi j hi hj hij e=> ?_;obtain⟨z,e1⟩:=h i _ (List.getElem?_eq_getElem hi);obtain⟨z',e2⟩:=h j _ (List.getElem?_eq_getElem hj);rw[e1,e2]at e;have:=zoG e;omega
theorem zkN {α:Type}{ws:List α}{w:α}(h:ws.Nodup)(n:w∉ws)(k:Nat):(ws.set k w).Nodup:=by
 refine List.pairwise_iff_getElem.mpr λi j hi hj hij e=> ?_;rw[List.length_set]at hi hj;rw[List.getElem_set,List.getElem_set]at e;have hp:=List.pairwise_iff_getElem.mp h i j hi hj hij
 split at e
 ·split at e
  ·omega
  ·exact n (e▸List.getElem_mem hj)
 ·split at e
  ·exact n (e▸List.getElem_mem hi)
  ·exact hp e
theorem zjU {m n:Nat}(h:n < m):xT m (n:Int)=some n:=by
 unfold xT
 first | (rw[if_neg (by omega)];simp[h];done) | (simp;omega)
def zlD:List Str:= ["shelf","hand","set","more","in","out","lay","drop","tell","when","split","join","last","sum","bag","row","told","many","long","if","was","mine","yours","house","none","end","story"]
theorem zlE {d:Int}(d0:0<=d)(d1:d < 27): ∃wd:Str,atI [PV.str "shelf",.str "hand",.str "set",.str "more",.str "in",.str "out",.str "lay",.str "drop",.str "tell",.str "when",.str "split",.str "join",.str "last",.str "sum",.str "bag",.str "row",.str "told",.str "many",.str "long",.str "if",.str "was",.str "mine",.str "yours",.str "house",.str "none",.str "end",.str "story"] d=some (.str wd):=
 let⟨wd,_,e⟩:=oF PV.str (ns:=zlD) d0 d1
 ⟨wd,e⟩
def gB (kd:Str)(r:List PV):Prop:=((kd= "last" ∨kd= "sum" ∨kd= "bag" ∨kd= "row")/\r= [])∨kd= "told" /\∃(n:Int) (t:Tm tF),r= [.int n,t.pv tF.pv]/\2<=n/\n < 6/\t.rank < 7
def oT:PV:= .lst [.str "last",.str "sum"]
def zfY:y6:=λxs st Q=> ∃(i:Nat) (a b:Int),xs= [.obj i,oT,.bl false]/\st[i]?=some (z9 a b)/\yD a b/\∀kd r a b,gB kd r->yD a b->Q (.tup (.str kd::r)) (st.set i (z9 a b))
def HvN (n:Nat)(kd:Str):Hv->Prop
 | .int v=>kd≠ "bag" /\kd≠ "row" /\In v
 | .bag l=>kd= "bag" /\(l.map (·.1)).Nodup/\l.length<=n
 | .row ws=>kd= "row" /\ws.length<=n
abbrev zbU (kd:Str):Hv->Prop:=HvN 40 kd
def zfQ:y6:=λxs st Q=> ∃(i:Nat) (kd:Str) (r:List PV) (ws:List Str) (a b:Int),xs= [.obj i,.tup (.str kd::r),.lst (ws.map PV.str)]/\st[i]?=some (z9 a b)/\yD a b/\gB kd r/\ws≠ []/\ws.length<=40/\ws.Nodup/\∀(h:Hv) a b,zbU kd h->yD a b->Q h.pv (st.set i (z9 a b))
def kL (s:Sh):Prop:= ∃(kd:Str) (r:List PV) (h:Hv),s.2.1= .tup (.str kd::r)/\gB kd r/\s.2.2=h.pv/\zbU kd h
theorem zef (h:Hv):yP h.pv=true:=by cases h <;> rfl
theorem j9 {w:Str}{ws:List Str} :vO (.str w) (ws.map PV.str)=decide (w∈ws):=by
 unfold vO;rw[List.any_map,show((λy=>zX y (.str w)) ∘ PV.str)=(λn:Str=>n==w)from funext λs=>rJ.2.1,Bool.eq_iff_iff];simp
theorem zkP {w:Str}{ws:List Str}{n:Nat}{st:z4}{Q:K3}(h:st[n]?=some (.lst (ws.map PV.str))):uI true (.str w) (.obj n) st Q=Q (.bl (!decide (w∈ws))) st:=by
 have hf:(ws.map PV.str).all uD=true:=by rw[List.all_map];exact List.all_eq_true.mpr λ_ _=>rfl
 have e:pY (.obj n) st=some (ws.map PV.str):=by unfold pY;dsimp only;rw[h]
 unfold uI;rw[e];dsimp only;rw[j9,hf];simp[uD]
theorem Tm.ok_mono {L:Type}{lo lo':L->Prop}(h: ∀l,lo l->lo' l): ∀{t:Tm L},t.ok lo->t.ok lo'
 | .lf l,k=>h l k
 | .num n,k=>k
 | .op s x y,⟨a,b,c⟩=>⟨a,Tm.ok_mono h b,Tm.ok_mono h c⟩
 | .ite x y z,⟨a,b,c⟩=>⟨Tm.ok_mono h a,Tm.ok_mono h b,Tm.ok_mono h c⟩
inductive Dd where | tell (x:Tm Lf) | bag (up:Bool)(s t:Str) | set (s:Str)(x:Tm Lf) | more (s:Str)(x:Tm Lf) | lay (s:Str)(x:Tm Lf)(t:Str) | drop (s:Str)(x:Tm Lf)
abbrev uZ (x:Tm Lf):PV:=x.pv Lf.pv
def Dd.pv:Dd->PV
 | .tell x=> .tup [.str "tell",uZ x]
 | .bag true s t=> .tup [.str "in",.str s,.str t]
 | .bag false s t=> .tup [.str "out",.str s,.str t]
 | .set s x=> .tup [.str "set",.str s,uZ x]
 | .more s x=> .tup [.str "more",.str s,uZ x]
 | .lay s x t=> .tup [.str "lay",.str s,uZ x,.str t]
 | .drop s x=> .tup [.str "drop",.str s,uZ x]
def Dd.nm:Dd->Option Str | .tell _=>none | .bag _ s _ | .set s _ | .more s _ | .lay s _ _ | .drop s _=>some s
def Dd.tm:Dd->Option (Tm Lf) | .bag _ _ _=>none | .tell x | .set _ x | .more _ x | .lay _ x _ | .drop _ x=>some x
abbrev Rw:=Option (Tm Lf)×Dd
def Rw.pv:Rw->PV | (none,d)=>d.pv | (some x,d)=> .tup [.str "when",uZ x,d.pv]
theorem znA {sh:List Sh}{i:Nat}{s:Sh}(e:sh[i]?=some s):atI (sh.map yA) (i:Int)=some (yA s):=wY (by rw[List.getElem?_map,e];rfl)
def zgZ (nm kd:Str)(ls:List Lf)(d:Dd):Prop:=d.nm=some nm/\(∀x,d.tm=some x->x.ok (λl=>l∈ls)/\x.rank < 7)/\
 (match d with | .tell _=>False | .bag _ _ _=>kd= "bag" | .more _ _=>kd= "sum" | .set _ _=>kd≠ "bag" /\kd≠ "row" /\kd≠ "sum" | .lay _ _ _=>kd= "row" | .drop _ _=>kd= "row")
def zfR:y6:=λxs st Q=> ∃(i:Nat) (nm kd:Str) (r:List PV) (bg:PV) (ls:List Lf) (ws:List Str) (a b:Int),xs= [.obj i,.tup [.str nm,.tup (.str kd::r),bg],.lst (ls.map Lf.pv),.lst (ws.map PV.str)]/\yP bg=true/\st[i]?=some (z9 a b)/\yD a b/\ws≠ []/\ws.length<=1000/\ls.length<=1000/\∀(d:Dd) a b,zgZ nm kd ls d->yD a b->Q d.pv (st.set i (z9 a b))
theorem sE (t:Tm Lf):yP (t.pv Lf.pv)=true:=by
 cases t with
 | lf l=>cases l <;> rfl
 | _=>rfl
def gI (sh:List Sh)(x:Tm Lf):Prop:=x.ok (nR sh)/\x.rank < 7
def zh1 (kd:Str)(d:Dd):Prop:=match d with | .tell _=>False | .bag _ _ _=>kd= "bag" | .more _ _=>kd= "sum" | .set _ _=>kd≠ "bag" /\kd≠ "row" /\kd≠ "sum" | .lay _ _ _=>kd= "row" | .drop _ _=>kd= "row"
def zb_ (sh:List Sh)(d:Dd):Prop:=(∀x,d.tm=some x->gI sh x)/\∀s,d.nm=some s->∃sx∈sh,sx.1=s/\∃kd r,sx.2.1= .tup (.str kd::r)/\zh1 kd d
def qC (sh:List Sh)(r:Rw):Prop:=(∀x,r.1=some x->gI sh x)/\zb_ sh r.2
def lI:y6:=λxs st Q=> ∃(i:Nat) (sh:List Sh) (ws:List Str) (a b:Int),xs= [.obj i,.tup [.lst (sh.map yA),.lst (sh.map yA)],.lst (ws.map PV.str)]/\st[i]?=some (z9 a b)/\yD a b/\(∀s∈sh,kL s)/\sh≠ []/\sh.length<=63/\ws≠ []/\ws.length<=1000/\∀(r:Rw) a b,qC sh r->yD a b->Q r.pv (st.set i (z9 a b))
theorem fE (d:Dd):yP d.pv=true:=by
 cases d with
 | bag up s t=>cases up <;> rfl
 | _=>rfl
theorem fG {α:Type}{f:α->PV}{m:Nat} : ∀(l:List α),(∀x∈l,zE (f x)<=m)->dpts (l.map f)<=m
 | [],_=>by unfold dpts;exact Nat.zero_le _
 | x::l,h=>by
  rw[List.map_cons];unfold dpts;exact Nat.max_le.mpr ⟨h x List.mem_cons_self,fG l λy hy=>h y (List.mem_cons_of_mem _ hy)⟩
theorem zi7 (h:Hv):zE h.pv<=2:=by
 cases h with
 | int v=>unfold Hv.pv zE;decide
 | bag l=>
  unfold Hv.pv rE zE;have:=fG (f:=λq:Str×Int=>PV.tup [.str q.1,.int q.2]) (m:=1) l λx _=>by simp[zE,dpts]
  omega
 | row ws=>
  unfold Hv.pv zE;have:=fG (f:=PV.str) (m:=0) ws λx _=>by simp[zE]
  omega
theorem oK: ∀t:Tm tF,zE (t.pv tF.pv)<=t.rank+1
 | .num k=>by unfold Tm.pv;simp[zE,dpts]
 | .lf l=>by cases l <;> (unfold Tm.pv tF.pv;simp[zE,dpts])
 | .op s a b=>by
  have h1:=oK a;have h2:=oK b;unfold Tm.pv Tm.rank;simp only[zE,dpts];omega
 | .ite a b c=>by
  have h1:=oK a;have h2:=oK b;have h3:=oK c;unfold Tm.pv Tm.rank;simp only[zE,dpts];omega
theorem zn_ {s:Sh}(h:kL s):zE (yA s)<=12:=by
 obtain⟨kd,r,v,e1,hm,e2,_⟩:=h;have hv:=zi7 v;unfold yA;rw[e1,e2];rcases hm with⟨_,rfl⟩ | ⟨_,n,t,rfl,_,_,hr⟩
 ·simp only[zE,dpts];omega
 ·have:=oK t
  simp only[zE,dpts];omega
def yM (x:Str×List PV):PV:= .tup (.str x.1::x.2)
inductive Rh where | pl (r:Rw) | split (n:Str) | join (n:Str)
def Rh.pv:Rh->PV | .pl r=>r.pv | .split n=> .tup [.str "split",.str n] | .join n=> .tup [.str "join",.str n]
abbrev Hd:=Str×List Rh
def uO (h:Hd):Str×List PV:=(h.1,[.tup (h.2.map Rh.pv)])
abbrev yJ (h:Hd):PV:=yM (uO h)
abbrev Sn:=Str×List PV
def w5 (sh:List Sn)(hs:List Hd):PV:= .tup [.tup (sh.map yM),.tup (hs.map yJ)]
def Rh.deed:Rh->Option Dd | .pl r=>some r.2 | _=>none
def Rh.on (S:Str)(r:Rh):Bool:=r.deed.bind Dd.nm==some S
theorem Dd.form2 (d:Dd): ∃(k:Str) (more:List PV),d.pv= .tup (.str k::more)/\(k==("when" :Str))=false/\vO (.str k) [.str "split",.str "join"]=false:=by
 have h: ∀{k:Str},(k∉(["split","join"]:List Str))->vO (.str k) [.str "split",.str "join"]=false:=λ{k} hk=>by
  have e:=j9 (w:=k) (ws:= ["split","join"]);rw[List.map_cons,List.map_cons,List.map_nil]at e;rw[e];exact decide_eq_false hk
 cases d with
 | bag up a b=>cases up <;> exact⟨_,_,rfl,by decide+kernel,h (by decide+kernel)⟩
 | _=>exact⟨_,_,rfl,by decide+kernel,h (by decide+kernel)⟩
def qG (S:Str):PV->Option PV:=λx=>match x with | .tup (.str n::r)=>if n==S then some (.tup (.str n::r))else none | _=>none
theorem zdT {S:Str} : ∀{l:List Sn},S∉l.map (·.1)->(l.map yM).filterMap (qG S)= []
 | [],_=>rfl
 | (n,r)::l,h=>by
  rw[List.map_cons,List.mem_cons,not_or]at h;have hb:(n==S)=false:=by simpa using λz:n=S=>h.1 z.symm
  have:qG S (yM (n,r))=none:=by show(if n==S then _ else _)=_;rw[hb];rfl
  rw[List.map_cons,List.filterMap_cons,this];exact zdT h.2
theorem zdU {S:Str} : ∀{l:List Sn} {s:Sn},(l.map (·.1)).Nodup->s∈l->s.1=S->(l.map yM).filterMap (qG S)= [yM s]
 | (n,r)::l,s,hn,hm,e=>by
  rw[List.map_cons,List.nodup_cons]at hn;rw[List.map_cons,List.filterMap_cons];by_cases hb:n=S
  ·have:qG S (yM (n,r))=some (yM (n,r)):=by show(if n==S then _ else _)=_;rw[hb,if_pos (beq_self_eq_true _)];rfl
   rw[this,zdT (by rw[<- hb];exact hn.1)];rcases List.mem_cons.mp hm with rfl | hm
   ·rfl
   ·exact absurd (List.mem_map.mpr ⟨s,hm,e.trans hb.symm⟩) hn.1
  ·have h1:(n==S)=false:=by simpa using hb
   have:qG S (yM (n,r))=none:=by show(if n==S then _ else _)=_;rw[h1];rfl
   rw[this];rcases List.mem_cons.mp hm with rfl | hm
   ·exact absurd e hb
   ·exact zdU hn.2 hm e
def zfT:y6:=λxs st Q=> ∃(l:List Sn) (S:Str) (s:Sn),xs= [.tup (l.map yM),.str S]/\(l.map (·.1)).Nodup/\s∈l/\s.1=S/\Q (yM s) st
def zfU:y6:=λxs st Q=> ∃(sh:List Sn) (hs:List Hd) (h:Hd),xs= [w5 sh hs,.str h.1]/\(hs.map (·.1)).Nodup/\h∈hs/\Q (yJ h) st
theorem zj9 {hs:List Hd} :(hs.map uO).map (·.1)=hs.map (·.1):=by rw[List.map_map];rfl
def onF (S:Str):List Rh->Nat->List Nat
 | [],_=> []
 | r::rs,k=>(if r.on S then [k]else [])++onF S rs (k+1)
abbrev yL (k:Nat):PV:= .int (k:Int)
theorem sD {α:Type}{l:List α}{k:Nat}{x:α}(h:l[k]?=some x):l.take (k+1)=l.take k++ [x]:=by
 rw[List.take_succ,h];rfl
def Rh.sp:Rh->Option Str | .split n=>some n | _=>none
def Rh.jn:Rh->Option Str | .join n=>some n | _=>none
def oO (kind:Str):PV->Option PV:=λx=>match x with | .tup (.str k::x::_)=>if k==kind then some x else none | _=>none
theorem aS {kind:Str}{f:Rh->Option Str}(hf:(kind= "split" /\f=Rh.sp)∨(kind= "join" /\f=Rh.jn))(r:Rh):oO kind r.pv=(f r).map PV.str:=by
 have dd: ∀{k:Str} {more:List PV},vO (.str k) [PV.str "split",.str "join"]=false->oO kind (.tup (.str k::more))=none:=λ{k more} hk=>by
  have e:=j9 (w:=k) (ws:= ["split","join"]);rw[List.map_cons,List.map_cons,List.map_nil,hk]at e;have hm:k∉(["split","join"]:List Str):=of_decide_eq_false e.symm;have hne:(k==kind)=false:=by
   rcases hf with⟨rfl,_⟩ | ⟨rfl,_⟩ <;> simp at hm⊢ <;> first | exact hm.1 | exact hm.2
  cases more with
  | nil=>rfl
  | cons x m=>show(if k==kind then _ else _)=_;rw[hne];rfl
 cases r with
 | split n=>rcases hf with⟨rfl,rfl⟩ | ⟨rfl,rfl⟩ <;> rfl
 | join n=>rcases hf with⟨rfl,rfl⟩ | ⟨rfl,rfl⟩ <;> rfl
 | pl r=>
  have fn:f (.pl r)=none:=by rcases hf with⟨_,rfl⟩ | ⟨_,rfl⟩ <;> rfl
  rw[fn];obtain⟨g,d⟩:=r;cases g with
  | none=>obtain⟨k,more,e,_,h2⟩:=d.form2;show oO kind d.pv=none;rw[e];exact dd h2
  | some x=>exact dd (by unfold vO;simp[rJ];decide+kernel)
theorem aT {kind:Str}{f:Rh->Option Str}(hf:(kind= "split" /\f=Rh.sp)∨(kind= "join" /\f=Rh.jn)): ∀rs:List Rh,(rs.map Rh.pv).filterMap (oO kind)=(rs.filterMap f).map PV.str
 | []=>rfl
 | r::rs=>by
  rw[List.map_cons,List.filterMap_cons,List.filterMap_cons,aS hf r];cases f r with
  | none=>exact aT hf rs
  | some x=>rw[Option.map_some,List.map_cons];dsimp only;rw[aT hf rs]
theorem zfB (r:Rh): ∃(k:Str) (x:PV) (more:List PV),r.pv= .tup (.str k::x::more)/\yP x=true:=by
 cases r with
 | split n=>exact⟨_,_,_,rfl,by first | rfl | exact sE _⟩
 | join n=>exact⟨_,_,_,rfl,by first | rfl | exact sE _⟩
 | pl r=>
  obtain⟨g,d⟩:=r;cases g with
  | none=>
   cases d with
   | bag up a b=>cases up <;> exact⟨_,_,_,rfl,by first | rfl | exact sE _⟩
   | _=>exact⟨_,_,_,rfl,by first | rfl | exact sE _⟩
  | some x=>exact⟨_,_,_,rfl,by first | rfl | exact sE _⟩
def tK (f:Rh->Option Str)(hs:List Hd):List (z7×PV):=hs.map λh=>(.inr h.1,.lst ((h.2.filterMap f).map PV.str))
theorem n5 {kvs:List (z7×PV)}{k:z7}{v:PV}(h:k∉kvs.map (·.1)):wM kvs k v=kvs++ [(k,v)]:=by
 unfold wM;rw[if_neg];intro z;obtain⟨p,hp,e⟩:=List.any_eq_true.mp z;exact h (List.mem_map.mpr ⟨p,hp,of_decide_eq_true e⟩)
def zfZ:y6:=λxs st Q=> ∃(sh:List Sn) (hs:List Hd) (kind:Str) (f:Rh->Option Str),xs= [w5 sh hs,.str kind]/\((kind= "split" /\f=Rh.sp)∨(kind= "join" /\f=Rh.jn))/\(hs.map (·.1)).Nodup/\hs.length<=1000/\Q (.dct (tK f hs)) st
def v0 (f:Rh->Option Str)(hs:List Hd)(n:Str):List Str:=match hs.find? (λh=>h.1==n)with | some h=>h.2.filterMap f | none=> []
theorem zeG {f:Rh->Option Str}{n:Str} : ∀{hs:List Hd},n∈hs.map (·.1)->zR (tK f hs) (.inr n)=some (.lst ((v0 f hs n).map PV.str))
 | [],h=>by simp at h
 | h0::hs,h=>by
  unfold tK zR v0;rw[List.map_cons,List.find?_cons,List.find?_cons];by_cases e:h0.1=n
  ·rw[decide_eq_true (by rw[e]),show(h0.1==n)=true by rw[e];exact beq_self_eq_true _];rfl
  ·have e1:decide ((Sum.inr h0.1:z7)=Sum.inr n)=false:=decide_eq_false (λz=>e (Sum.inr.inj z))
   have e2:(h0.1==n)=false:=by simpa using e
   rw[e1,e2];rw[List.map_cons,List.mem_cons]at h;exact zeG (h.resolve_left λz=>e z.symm)
theorem pF {f:Rh->Option Str} : ∀{hs:List Hd} {h:Hd},(hs.map (·.1)).Nodup->h∈hs->v0 f hs h.1=h.2.filterMap f
 | h0::hs,h,hn,hm=>by
  rw[List.map_cons,List.nodup_cons]at hn;unfold v0;rw[List.find?_cons];by_cases e:h0.1=h.1
  ·rw[show(h0.1==h.1)=true by rw[e];exact beq_self_eq_true _]
   rcases List.mem_cons.mp hm with rfl | hm
   ·rfl
   ·exact absurd (List.mem_map.mpr ⟨h,hm,e.symm⟩) hn.1
  ·have e2:(h0.1==h.1)=false:=by simpa using e
   rw[e2];rcases List.mem_cons.mp hm with rfl | hm
   ·exact absurd rfl e
   ·exact pF hn.2 hm
def yZ (g:Str->List Str):Nat->Str->List Str
 | 0,_=> []
 | d+1,n=>n::(g n).flatMap (yZ g d)
structure sJ (g:Str->List Str)(names:List Str)(rk:Str->Nat):Prop where
 sub: ∀n∈names,∀m∈g n,m∈names
 down: ∀n∈names,∀m∈g n,rk m < rk n
 few: ∀n∈names,(g n).length<=7
theorem pB {α β:Type}{f g:α->List β} : ∀{l:List α},(∀x∈l,f x=g x)->l.flatMap f=l.flatMap g
 | [],_=>rfl
 | x::l,h=>by rw[List.flatMap_cons,List.flatMap_cons,h x (List.mem_cons_self ..),pB λy hy=>h y (List.mem_cons_of_mem _ hy)]
theorem zau {g:Str->List Str}{names:List Str}{rk:Str->Nat}(R:sJ g names rk): ∀{d d':Nat} {n:Str},n∈names->rk n < d->rk n < d'->yZ g d n=yZ g d' n
 | 0,_,n,_,h,_=>by omega
 | _+1,0,n,_,_,h=>by omega
 | d+1,d'+1,n,hn,h,h'=>by
  unfold yZ;rw[pB λm hm=>zau R (R.sub n hn m hm) (show rk m < d by have:=R.down n hn m hm;omega) (show rk m < d' by have:=R.down n hn m hm;omega)]
theorem jO {g:Str->List Str}{names:List Str}{rk:Str->Nat}(R:sJ g names rk){d:Nat}{n:Str}(hn:n∈names)(h:rk n < d):yZ g d n=n::(g n).flatMap (yZ g d):=by
 cases d with
 | zero=>omega
 | succ d=>
  show n::(g n).flatMap (yZ g d)=_;rw[pB λm hm=>zau R (R.sub n hn m hm) (show rk m < d by have:=R.down n hn m hm;omega) (show rk m < d+1 by have:=R.down n hn m hm;omega)]
def bd:Nat->Nat | 0=>1 | r+1=>1+7 * bd r
theorem kO: ∀{a b:Nat},a<=b->bd a<=bd b
 | 0,0,_=>Nat.le_refl _
 | 0,b+1,_=>by unfold bd;omega
 | a+1,b+1,h=>by unfold bd;have:=kO (show a<=b by omega);omega
theorem zdW {α β:Type}{f:α->List β}{m:Nat} : ∀{l:List α},(∀x∈l,(f x).length<=m)->(l.flatMap f).length<=l.length * m
 | [],_=>by simp
 | x::l,h=>by
  rw[List.flatMap_cons,List.length_append,List.length_cons,Nat.succ_mul];have h1:=h x (List.mem_cons_self ..);have h2:=zdW (m:=m) λy hy=>h y (List.mem_cons_of_mem x hy);omega
theorem zat {g:Str->List Str}{names:List Str}{rk:Str->Nat}(R:sJ g names rk): ∀{d:Nat} {n:Str},n∈names->(yZ g d n).length<=bd (rk n)
 | 0,n,_=>Nat.zero_le _
 | d+1,n,hn=>by
  unfold yZ;rw[List.length_cons];cases hr:rk n with
  | zero=>
   have:g n= []:=by
    cases hg:g n with
    | nil=>rfl
    | cons m l=>have:=R.down n hn m (by rw[hg];exact List.mem_cons_self ..);omega
   rw[this];exact Nat.le_refl _
  | succ r=>
   have h1:=zdW (f:=yZ g d) (m:=bd r) (l:=g n) λm hm=>Nat.le_trans (zat R (R.sub n hn m hm)) (kO (by have:=R.down n hn m hm;omega));have h2:=R.few n hn;have h3:=Nat.mul_le_mul_right (bd r) h2;show _<=1+7 * bd r;omega
theorem bd7:bd 7=960800:=by decide
def nmF:PV->Option PV:=λx=>match x with | .tup (n::_)=>some n | _=>none
def zbc:y6:=λxs st Q=> ∃(sh:List Sn) (h0:Hd) (hs:List Hd) (rk:Str->Nat),xs= [w5 sh (h0::hs)]/\((h0::hs).map (·.1)).Nodup/\hs.length<=100/\sJ (v0 Rh.sp (h0::hs)) ((h0::hs).map (·.1)) rk/\(∀n∈(h0::hs).map (·.1),rk n<=7)/\Q (.tup ((yZ (v0 Rh.sp (h0::hs)) 8 h0.1).map PV.str)) st
theorem mT {α:Type}[DecidableEq α]: ∀{l m:List α},l.Nodup->(∀x∈l,x∈m)->l.length<=m.length
 | [],m,_,_=>Nat.zero_le _
 | x::l,m,hn,hs=>by
  rw[List.nodup_cons]at hn;have hx:=hs x (List.mem_cons_self ..);have h1:=mT (l:=l) (m:=m.erase x) hn.2 λy hy=>(List.mem_erase_of_ne (λ(z:y=x)=>hn.1 (z▸hy))).mpr (hs y (List.mem_cons_of_mem _ hy));rw[List.length_erase_of_mem hx]at h1;have:0 < m.length:=List.length_pos_of_mem hx;rw[List.length_cons];omega
def Rh.ps (k:Nat):Rh->List (Str×Nat) | .split n=> [(n,k)] | _=> []
def Rh.is (H:Str):Rh->Bool | .split n=>n==H | _=>false
def spos:List Rh->Nat->List (Str×Nat)
 | [],_=> []
 | r::rs,k=>r.ps k++spos rs (k+1)
theorem zgf: ∀{l:List Rh} {k:Nat},(spos l k).map (·.1)=l.filterMap Rh.sp
 | [],k=>rfl
 | r::l,k=>by
  unfold spos;rw[List.map_append,zgf];cases r <;> rfl
abbrev Sps:=List (Str×(Str×Nat))
def SP1 (h:Hd)(l:List Rh):Sps:=(spos l 0).map λp=>(p.1,(h.1,p.2))
def oE (hs:List Hd):Sps:=hs.flatMap λh=>SP1 h h.2
def zaO (r:Rh):Prop:=zE r.pv<=40
theorem ziG {r:Rh}{H:Str} :zX r.pv (.tup [.str "split",.str H])=r.is H:=by
 have e2: ∀{k:Str} {more:List PV},(k==("split" :Str))=false->zX (.tup (.str k::more)) (.tup [.str "split",.str H])=false:=λ{k more} hk=>by
  rw[show zX (.tup (.str k::more)) (.tup [.str "split",.str H])=eqPs (.str k::more) [.str "split",.str H] by unfold zX;rfl];unfold eqPs;rw[rJ.2.1,hk];rfl
 cases r with
 | split n=>
  show zX (.tup [.str "split",.str n]) (.tup [.str "split",.str H])=(n==H);rw[show zX (.tup [.str "split",.str n]) (.tup [.str "split",.str H])=eqPs [.str "split",.str n] [.str "split",.str H] by unfold zX;rfl];simp[eqPs,rJ]
 | join n=>exact e2 (by decide+kernel)
 | pl r=>
  obtain⟨g,d⟩:=r;cases g with
  | some x=>exact e2 (by decide+kernel)
  | none=>
   obtain⟨k,more,e,_,h2⟩:=d.form2;show zX d.pv _=false;rw[e];refine e2 ?_;have e':=j9 (w:=k) (ws:= ["split","join"]);rw[List.map_cons,List.map_cons,List.map_nil,h2]at e';have hm:k∉(["split","join"]:List Str):=of_decide_eq_false e'.symm;simp at hm⊢
   exact hm.1
abbrev Ee:=Nat×List Nat
abbrev Re:=Nat×List Rh
def wR:List Ee->Nat->Nat
 | [],_=>0
 | (x,l)::E,y=>if y=x then 1+(l.map (wR E)).sum else wR E y
def wE (E:List Ee):Nat->Nat:=wR E.reverse
theorem zb6 {E:List Ee}{x:Nat}{l:List Nat}{y:Nat} :wE (E++ [(x,l)]) y=if y=x then 1+(l.map (wE E)).sum else wE E y:=by
 unfold wE;rw[List.reverse_append];rfl
theorem zgV {E:List Ee}{y:Nat} : ∀{E1:List Ee},y∉E1.map (·.1)->wR (E1++E) y=wR E y
 | [],_=>rfl
 | (x,l)::E1,h=>by
  rw[List.map_cons,List.mem_cons,not_or]at h;rw[List.cons_append];show(if y=x then _ else wR (E1++E) y)=_;rw[if_neg h.1];exact zgV h.2
theorem zb5 {E:List Ee}{y:Nat}{E1:List Ee}(h:y∉E1.map (·.1)):wE (E++E1) y=wE E y:=by
 unfold wE;rw[List.reverse_append];exact zgV (by rw[List.map_reverse,List.mem_reverse];exact h)
theorem zeB {α β:Type}{f g:α->β}{l:List α}(h: ∀x∈l,f x=g x):l.map f=l.map g:=List.map_congr_left h
def lX (E1:List Ee):Prop:= ∀A B x l,E1=A++(x,l)::B->∀y∈l,y∈A.map (·.1)
theorem zb4 {E E1:List Ee}(hn:(E1.map (·.1)).Nodup)(hv:lX E1){x:Nat}{l:List Nat}(hm:(x,l)∈E1):wE (E++E1) x=1+(l.map (wE (E++E1))).sum:=by
 obtain⟨A,B,rfl⟩:=List.append_of_mem hm;rw[List.map_append,List.map_cons]at hn;have h1:=List.nodup_append.mp hn;have h2:=List.nodup_cons.mp h1.2.1;have e:E++(A++(x,l)::B)=(E++A++ [(x,l)])++B:=by simp
 rw[e,zb5 h2.1,zb6,if_pos rfl]
 congr 2
 refine zeB λy hy=> ?_;have hyA:=hv A B x l rfl y hy;have hyB:y∉B.map (·.1):=λz=>h1.2.2 y hyA y (List.mem_cons_of_mem _ z) rfl;have hyx:y≠x:=h1.2.2 y hyA x (List.mem_cons_self ..);rw[zb5 hyB,zb6,if_neg hyx]
def tg (rs:List Rh):List Str:=rs.filterMap Rh.sp
def tgs (X:List Re):List Str:=X.flatMap λp=>tg p.2
theorem zbo {X Y:List Re} :tgs (X++Y)=tgs X++tgs Y:=by unfold tgs;simp
theorem zbn {X Y:List Rh} :tg (X++Y)=tg X++tg Y:=by unfold tg;simp
def kK (sh:List Sh):Rh->Prop | .pl r=>qC sh r | _=>True
def zhb (nm:Nat->Str)(X:List Re):Prop:= ∀A k r B,X=A++(k,r)::B->∀m∈tg r,∃j∈A.map (·.1),m=nm j
structure LI (shl:List Sh)(nm:Nat->Str)(sp:List Nat)(E:List Ee)(sp' ks:List Nat)(X:List Re)(E1:List Ee)(rs:List Rh)(hd:List Nat):Prop where
 xk:X.map (·.1)=ks
 ek:E1.map (·.1)=ks
 nd:(ks++sp').Nodup
 sub: ∀x∈ks++sp',x∈sp
 hk: ∀x∈hd,x∈ks
 ev:lX E1
 wt:(hd.map (wE (E++E1))).sum<=ks.length
 tn:(tgs X++tg rs).Nodup
 ti: ∀m∈tgs X++tg rs,∃j∈ks,m=nm j
 er:zhb nm X
 jn: ∀r∈rs,∀m,r.jn=some m->∃j∈ks,m=nm j
 jx: ∀p∈X,∀r∈p.2,∀m,r.jn=some m->∃j∈ks,m=nm j
 ro: ∀r∈rs,kK shl r
 rx: ∀p∈X,(∀r∈p.2,kK shl r)/\p.2.length<=30
section
variable {shl:List Sh} {nm:Nat->Str} {sp:List Nat} {E:List Ee} {sp' ks:List Nat} {X:List Re} {E1:List Ee} {rs:List Rh} {hd:List Nat}
theorem LI.start (hs:sp.Nodup):LI shl nm sp E sp [] [] [] [] []:=
 ⟨rfl,rfl,by simpa using hs,by simp,by simp,(λA B x l h=>by cases A <;> cases h),by simp,by simp[tgs,tg],by simp[tgs,tg],(λA k r B h=>by cases A <;> cases h),by simp,by simp,by simp,by simp⟩
theorem LI.plain (I:LI shl nm sp E sp' ks X E1 rs hd){r:Rw}(hr:qC shl r):LI shl nm sp E sp' ks X E1 (rs++ [.pl r]) hd:=by
 have e:tg (rs++ [.pl r])=tg rs:=by rw[zbn];simp[tg,Rh.sp]
 refine{I with tn:=by rw[e];exact I.tn,ti:=by rw[e];exact I.ti,jn:=λr' h m hm=> ?_,ro:=λr' h=> ?_}
 ·rcases List.mem_append.mp h with h | h
  ·exact I.jn r' h m hm
  ·rw[List.mem_singleton.mp h]at hm;cases hm
 ·rcases List.mem_append.mp h with h | h
  ·exact I.ro r' h
  ·rw[List.mem_singleton.mp h];exact hr
theorem zgm {f:Nat->Nat} : ∀{l:List Nat} {k x:Nat},l[k]?=some x->(l.map f).sum=f x+((l.eraseIdx k).map f).sum
 | [],k,x,h=>by simp at h
 | y::l,0,x,h=>by simp at h;subst h;simp
 | y::l,k+1,x,h=>by
  have:=zgm (f:=f) (l:=l) (k:=k) (x:=x) (by simpa using h);simp[this];omega
theorem LI.join (I:LI shl nm sp E sp' ks X E1 rs hd){k x:Nat}{l:List Nat}(hx:hd[k]?=some x)(hl:(x,l)∈E1):LI shl nm sp E sp' ks X E1 (rs++ [.join (nm x)]) (hd.eraseIdx k++l)/\((hd.eraseIdx k++l).map (wE (E++E1))).sum+1=(hd.map (wE (E++E1))).sum:=by
 have e:tg (rs++ [.join (nm x)])=tg rs:=by rw[zbn];simp[tg,Rh.sp]
 have hxk:=I.hk x (List.mem_iff_getElem?.mpr ⟨k,hx⟩);have hn:(E1.map (·.1)).Nodup:=by rw[I.ek];exact(List.nodup_append.mp I.nd).1
 have hs:((hd.eraseIdx k++l).map (wE (E++E1))).sum+1=(hd.map (wE (E++E1))).sum:=by
  rw[zgm (f:=wE (E++E1)) hx,zb4 hn I.ev hl,List.map_append,List.sum_append];omega
 refine⟨{I with tn:=by rw[e];exact I.tn,ti:=by rw[e];exact I.ti,hk:=λy hy=> ?_,wt:=by have:=I.wt;omega,jn:=λr' h m hm=> ?_,ro:=λr' h=> ?_},hs⟩
 ·rcases List.mem_append.mp hy with hy | hy
  ·exact I.hk y (List.mem_of_mem_eraseIdx hy)
  ·obtain⟨A,B,eA⟩:=List.append_of_mem hl
   have:=I.ev A B x l eA y hy;rw[<- I.ek,eA,List.map_append];exact List.mem_append_left _ this
 ·rcases List.mem_append.mp h with h | h
  ·exact I.jn r' h m hm
  ·rw[List.mem_singleton.mp h]at hm;cases hm;exact⟨x,hxk,rfl⟩
 ·rcases List.mem_append.mp h with h | h
  ·exact I.ro r' h
  ·rw[List.mem_singleton.mp h];exact trivial
theorem sZ {α:Type}{X Y A B:List α}{p:α}(h:X++Y=A++p::B):(∃B',X=A++p::B'/\B=B'++Y)∨∃A',A=X++A'/\Y=A'++p::B:=by
 rcases List.append_eq_append_iff.mp h with⟨a,h1,h2⟩ | ⟨c,h1,h2⟩
 ·exact .inr ⟨a,h1,h2⟩
 ·cases c with
  | nil=>simp at h1 h2;exact .inr ⟨[],by simp[h1],by simp[<- h2]⟩
  | cons q c=>rw[List.cons_append]at h2;cases h2;exact .inl ⟨c,h1,rfl⟩
theorem LI.split (inj: ∀a∈sp,∀b∈sp,nm a=nm b->a=b)(I:LI shl nm sp E sp' ks X E1 rs hd){i j:Nat}(hj:sp'[i]?=some j){spc ksc:List Nat}{Xc:List Re}{E1c:List Ee}{rsc:List Rh}{hdc:List Nat}
  (C:LI shl nm (sp'.eraseIdx i) (E++E1) spc ksc Xc E1c rsc hdc) (hlen:rsc.length<=30):
  LI shl nm sp E spc (ks++(ksc++ [j])) (X++(Xc++ [(j,rsc)])) (E1++(E1c++ [(j,hdc)])) (rs++ [.split (nm j)]) (hd++ [j]):=by
 have hjs:j∈sp':=List.mem_iff_getElem?.mpr ⟨i,hj⟩;have nd':=List.nodup_append.mp I.nd;have hsub: ∀x∈ksc++spc,x∈sp'/\x≠j:=λx hx=>by
  have h1:=C.sub x hx;refine⟨List.mem_of_mem_eraseIdx h1,λz=> ?_⟩;subst z;obtain⟨q,hq⟩:=List.mem_iff_getElem?.mp h1;have hn:=nd'.2.1;rw[List.getElem?_eraseIdx]at hq;have hi:=(List.getElem?_eq_some_iff.mp hj).1
  split at hq
  ·have:=(List.getElem?_inj (List.getElem?_eq_some_iff.mp hq).1 hn).mp (hq.trans hj.symm);omega
  ·have:=(List.getElem?_inj (List.getElem?_eq_some_iff.mp hq).1 hn).mp (hq.trans hj.symm);omega
 have cnd:=List.nodup_append.mp C.nd;have hjk:j∉ks:=λz=>nd'.2.2 j z j hjs rfl;have hck: ∀x∈ksc,x∉ks:=λx hx z=>nd'.2.2 x z x (hsub x (List.mem_append_left _ hx)).1 rfl;have eT:tg (rs++ [.split (nm j)])=tg rs++ [nm j]:=by rw[zbn];simp[tg,Rh.sp]
 have eX:tgs (X++(Xc++ [(j,rsc)]))=tgs X++(tgs Xc++tg rsc):=by rw[zbo,zbo];simp[tgs]
 have insp: ∀x∈ks++(ksc++ [j]),x∈sp:=λx hx=>by
  rcases List.mem_append.mp hx with hx | hx
  ·exact I.sub x (List.mem_append_left _ hx)
  ·rcases List.mem_append.mp hx with hx | hx
   ·exact I.sub x (List.mem_append_right _ (hsub x (List.mem_append_left _ hx)).1)
   ·rw[List.mem_singleton.mp hx];exact I.sub j (List.mem_append_right _ hjs)
 have keys:(E1++(E1c++ [(j,hdc)])).map (·.1)=ks++(ksc++ [j]):=by rw[List.map_append,List.map_append,I.ek,C.ek];rfl
 have hndk:(ks++(ksc++ [j])).Nodup:=by
  refine List.nodup_append.mpr ⟨nd'.1,List.nodup_append.mpr ⟨cnd.1,by simp,λa ha b hb=> ?_⟩,λa ha b hb=> ?_⟩
  ·rw[List.mem_singleton.mp hb];exact(hsub a (List.mem_append_left _ ha)).2
  ·rcases List.mem_append.mp hb with hb | hb
   ·exact λz=>hck b hb (z▸ha)
   ·rw[List.mem_singleton.mp hb];exact λz=>hjk (z▸ha)
 have tiC: ∀m∈tgs Xc++tg rsc,∃q∈ksc,m=nm q:=C.ti;refine⟨by rw[List.map_append,List.map_append,I.xk,C.xk];rfl,keys,?_,?_,?_,?_,?_,?_,?_,?_,?_,?_,?_,?_⟩
 ·refine List.nodup_append.mpr ⟨hndk,cnd.2.1,λa ha b hb=> ?_⟩
  have hb':=hsub b (List.mem_append_right _ hb);rcases List.mem_append.mp ha with ha | ha
  ·exact λz=>nd'.2.2 a ha b hb'.1 z
  ·rcases List.mem_append.mp ha with ha | ha
   ·exact cnd.2.2 a ha b hb
   ·rw[List.mem_singleton.mp ha];exact λz=>hb'.2 z.symm
 ·intro x hx
  rcases List.mem_append.mp hx with hx | hx
  ·exact insp x hx
  ·exact I.sub x (List.mem_append_right _ (hsub x (List.mem_append_right _ hx)).1)
 ·intro x hx
  rcases List.mem_append.mp hx with hx | hx
  ·exact List.mem_append_left _ (I.hk x hx)
  ·exact List.mem_append_right _ (List.mem_append_right _ hx)
 ·intro A B x l e y hy
  rcases sZ e with⟨B',h1,_⟩ | ⟨A',rfl,h2⟩
  ·exact I.ev A B' x l h1 y hy
  ·rw[List.map_append]
   refine List.mem_append_right _ ?_;rcases sZ h2 with⟨B',h3,_⟩ | ⟨A'',rfl,h4⟩
   ·exact C.ev A' B' x l h3 y hy
   ·cases A'' with
    | nil=>cases h4;rw[List.append_nil,C.ek];exact C.hk y hy
    | cons q A''=>cases A'' <;> cases h4
 ·have hw: ∀y∈hd,wE (E++(E1++(E1c++ [(j,hdc)]))) y=wE (E++E1) y:=λy hy=>by
   rw[<- List.append_assoc];refine zb5 ?_;rw[List.map_append,C.ek];intro z;rcases List.mem_append.mp z with z | z
   ·exact hck y z (I.hk y hy)
   ·have z':y=j:=by simpa using z
    exact hjk (z'▸I.hk y hy)
  have hwj:wE (E++(E1++(E1c++ [(j,hdc)]))) j=1+(hdc.map (wE (E++E1++E1c))).sum:=by
   rw[<- List.append_assoc,<- List.append_assoc,zb6,if_pos rfl]
  rw[List.map_append,List.sum_append,zeB hw,List.map_cons,List.map_nil,hwj];have h1:=I.wt;have h2:=C.wt;simp only[List.length_append,List.length_singleton,List.sum_cons,List.sum_nil];omega
 ·rw[eX,eT]
  have hp:(tgs X++(tgs Xc++tg rsc)++(tg rs++ [nm j])).Perm ((tgs X++tg rs)++((tgs Xc++tg rsc)++ [nm j])):=by
   generalize tgs Xc++tg rsc=Y;rw[List.append_assoc (tgs X) Y,List.append_assoc (tgs X) (tg rs)];refine List.Perm.append_left _ ?_;rw[<- List.append_assoc,<- List.append_assoc (tg rs)];exact List.Perm.append_right _ List.perm_append_comm
  refine hp.nodup_iff.mpr (List.nodup_append.mpr ⟨I.tn,List.nodup_append.mpr ⟨C.tn,by simp,λa ha b hb z=> ?_⟩,λa ha b hb z=> ?_⟩)
  ·rw[List.mem_singleton.mp hb]at z
   obtain⟨q,hq,e⟩:=tiC a ha;have hq':=hsub q (List.mem_append_left _ hq);exact hq'.2 (inj q (I.sub q (List.mem_append_right _ hq'.1)) j (I.sub j (List.mem_append_right _ hjs)) (by rw[<- e,z]))
  ·obtain⟨p,hp,e⟩:=I.ti a ha
   rcases List.mem_append.mp hb with hb | hb
   ·obtain⟨q,hq,e'⟩:=tiC b hb
    have hq':=hsub q (List.mem_append_left _ hq);have:=inj p (I.sub p (List.mem_append_left _ hp)) q (I.sub q (List.mem_append_right _ hq'.1)) (by rw[<- e,<- e',z]);exact hck q hq (this▸hp)
   ·rw[List.mem_singleton.mp hb]at z
    have:=inj p (I.sub p (List.mem_append_left _ hp)) j (I.sub j (List.mem_append_right _ hjs)) (by rw[<- e,z]);exact hjk (this▸hp)
 ·rw[eX,eT]
  intro m hm;have h1: ∀m∈tgs X++tg rs,∃q∈ks++(ksc++ [j]),m=nm q:=λm hm=>let⟨q,hq,e⟩:=I.ti m hm;⟨q,List.mem_append_left _ hq,e⟩;have h2: ∀m∈tgs Xc++tg rsc,∃q∈ks++(ksc++ [j]),m=nm q:=λm hm=>let⟨q,hq,e⟩:=tiC m hm;⟨q,List.mem_append_right _ (List.mem_append_left _ hq),e⟩;rcases List.mem_append.mp hm with hm | hm
  ·rcases List.mem_append.mp hm with hm | hm
   ·exact h1 m (List.mem_append_left _ hm)
   ·exact h2 m hm
  ·rcases List.mem_append.mp hm with hm | hm
   ·exact h1 m (List.mem_append_right _ hm)
   ·exact⟨j,by simp,List.mem_singleton.mp hm⟩
 ·intro A k r B e m hm
  rcases sZ e with⟨B',h1,_⟩ | ⟨A',rfl,h2⟩
  ·exact I.er A k r B' h1 m hm
  ·rw[List.map_append]
   rcases sZ h2 with⟨B',h3,_⟩ | ⟨A'',rfl,h4⟩
   ·obtain⟨q,hq,e'⟩:=C.er A' k r B' h3 m hm;exact⟨q,List.mem_append_right _ hq,e'⟩
   ·cases A'' with
    | nil=>cases h4;rw[List.append_nil,C.xk];obtain⟨q,hq,e'⟩:=tiC m (List.mem_append_right _ hm);exact⟨q,List.mem_append_right _ hq,e'⟩
    | cons q A''=>cases A'' <;> cases h4
 ·intro r hr m hm
  rcases List.mem_append.mp hr with hr | hr
  ·obtain⟨q,hq,e⟩:=I.jn r hr m hm;exact⟨q,List.mem_append_left _ hq,e⟩
  ·rw[List.mem_singleton.mp hr]at hm;cases hm
 ·intro p hp r hr m hm
  rcases List.mem_append.mp hp with hp | hp
  ·obtain⟨q,hq,e⟩:=I.jx p hp r hr m hm;exact⟨q,List.mem_append_left _ hq,e⟩
  ·rcases List.mem_append.mp hp with hp | hp
   ·obtain⟨q,hq,e⟩:=C.jx p hp r hr m hm;exact⟨q,List.mem_append_right _ (List.mem_append_left _ hq),e⟩
   ·rw[List.mem_singleton.mp hp]at hr
    obtain⟨q,hq,e⟩:=C.jn r hr m hm;exact⟨q,List.mem_append_right _ (List.mem_append_left _ hq),e⟩
 ·intro r hr
  rcases List.mem_append.mp hr with hr | hr
  ·exact I.ro r hr
  ·rw[List.mem_singleton.mp hr];exact trivial
 ·intro p hp
  rcases List.mem_append.mp hp with hp | hp
  ·exact I.rx p hp
  ·rcases List.mem_append.mp hp with hp | hp
   ·exact C.rx p hp
   ·rw[List.mem_singleton.mp hp];exact⟨C.ro,hlen⟩
end
def sg (n:Nat):Str:=⟨#[97+n]⟩
def zcJ (n:Nat):List Str:= [sg n,sg n++sg (n+1),sg (n+1),sg (n+1)++sg (n+2),sg (n+2),sg n++sg (n+2),sg n++sg (n+1)++sg (n+2),sg (n+2)++sg (n+1)]
theorem ziC: ∀n < 24,(zcJ n).Nodup:=by decide+kernel
theorem ziy: ∀n:Nat,n < 24->Txt.slice (Txt.slice "abcdefghijklmnopqrstuvwxyz" (some (n:Int)) none) none (some 3)=⟨#[97+n,97+(n+1),97+(n+2)]⟩:=by decide+kernel
def zgc:y6:=λxs st Q=> ∃(i:Nat) (a b:Int),xs= [.obj i]/\st[i]?=some (z9 a b)/\yD a b/\∀(us ns ts:List Str) a b,us.length=6->us.Nodup->ns.length=8->ns.Nodup->ts≠ []->ts.length<=40->ts.Nodup->yD a b->Q (.tup [.lst (us.map PV.str),.lst (ns.map PV.str),.lst (ts.map PV.str)]) (st.set i (z9 a b))
def wV (E:List Ee):List (z7×PV):=E.map λp=>(.inl (p.1:Int),.lst (p.2.map yL))
structure L4 (S:Int->Int->List PV->List PV->z4)(i p r h e:Nat)(kv:List (z7×PV))(E:List Ee):Prop where
 gi: ∀{a b w d},(S a b w d)[i]?=some (z9 a b)
 si: ∀{a b w d a' b'},(S a b w d).set i (z9 a' b')=S a' b' w d
 gr: ∀{a b w d},(S a b w d)[r]?=some (.lst w)
 sr: ∀{a b w d w'},(S a b w d).set r (.lst w')=S a b w' d
 gh: ∀{a b w d},(S a b w d)[h]?=some (.lst d)
 sh: ∀{a b w d d'},(S a b w d).set h (.lst d')=S a b w d'
 gp: ∀{a b w d},(S a b w d)[p]?=some (.rcd kv)
 ge: ∀{a b w d},(S a b w d)[e]?=some (.dct (wV E))
theorem L4.len {S:Int->Int->List PV->List PV->z4}{i p r h e:Nat}{kv:List (z7×PV)}{E:List Ee}(L:L4 S i p r h e kv E){a b a' b':Int}{w w' d d':List PV} :(S a b w d).length=(S a' b' w' d').length:=by
 have h1:=congrArg List.length (L.si (a:=a) (b:=b) (w:=w) (d:=d) (a':=a') (b':=b'));have h2:=congrArg List.length (L.sr (a:=a') (b:=b') (w:=w) (d:=d) (w':=w'));have h3:=congrArg List.length (L.sh (a:=a') (b:=b') (w:=w') (d:=d) (d':=d'));rw[List.length_set]at h1 h2 h3;omega
theorem fI {α β:Type}{f:α->β} : ∀{l:List α} {k:Nat},(l.map f).eraseIdx k=(l.eraseIdx k).map f
 | [],_=>rfl
 | x::l,0=>rfl
 | x::l,k+1=>by rw[List.map_cons,List.eraseIdx_cons_succ,List.eraseIdx_cons_succ,List.map_cons,fI]
def iF:y6:=λxs st Q=> ∃(S:Int->Int->List PV->List PV->z4) (i p r h e:Nat) (kv:List (z7×PV)) (names:List Str) (E:List Ee) (a b:Int) (w0:List PV) (hd:List Nat),xs= [.obj i,.obj p,.obj r,.obj h]/\st=S a b w0 (hd.map yL)/\L4 S i p r h e kv E/\yD a b/\hd≠ []/\hd.length<=1000/\w0.length<=1000/\
 (zR kv (.inr "names")=some (.lst (names.map PV.str))/\zR kv (.inr "ends")=some (.obj e)/\∀x∈hd,x < names.length/\∃l:List Nat,l.length<=1000/\zR (wV E) (.inl (x:Int))=some (.lst (l.map yL)))/\
 ∀(k x:Nat) (l:List Nat) (nm:Str) a b,hd[k]?=some x->names[x]?=some nm->zR (wV E) (.inl (x:Int))=some (.lst (l.map yL))->yD a b->Q .non (S a b (w0++ [.tup [.str "join",.str nm]]) ((hd.eraseIdx k++l).map yL))
def tR:List Ee->Nat->List Nat
 | [],_=> []
 | (x,l)::E,y=>if y=x then y::l.flatMap (tR E)else tR E y
def tE (E:List Ee):Nat->List Nat:=tR E.reverse
theorem zbk {E:List Ee}{x:Nat}{l:List Nat}{y:Nat} :tE (E++ [(x,l)]) y=if y=x then y::l.flatMap (tE E)else tE E y:=by
 unfold tE;rw[List.reverse_append];rfl
theorem zgt {E:List Ee}{y:Nat} : ∀{E1:List Ee},y∉E1.map (·.1)->tR (E1++E) y=tR E y
 | [],_=>rfl
 | (x,l)::E1,h=>by
  rw[List.map_cons,List.mem_cons,not_or]at h;rw[List.cons_append];show(if y=x then _ else tR (E1++E) y)=_;rw[if_neg h.1];exact zgt h.2
theorem zbj {E:List Ee}{y:Nat}{E1:List Ee}(h:y∉E1.map (·.1)):tE (E++E1) y=tE E y:=by
 unfold tE;rw[List.reverse_append];exact zgt (by rw[List.map_reverse,List.mem_reverse];exact h)
theorem zgq {E E1:List Ee}(hn:(E1.map (·.1)).Nodup)(hv:lX E1){x:Nat}{l:List Nat}(hm:(x,l)∈E1):tE (E++E1) x=x::l.flatMap (tE (E++E1)):=by
 obtain⟨A,B,rfl⟩:=List.append_of_mem hm;rw[List.map_append,List.map_cons]at hn;have h1:=List.nodup_append.mp hn;have h2:=List.nodup_cons.mp h1.2.1;have e:E++(A++(x,l)::B)=(E++A++ [(x,l)])++B:=by simp
 rw[e,zbj h2.1,zbk,if_pos rfl]
 congr 1
 refine pB λy hy=> ?_;have hyA:=hv A B x l rfl y hy;have hyB:y∉B.map (·.1):=λz=>h1.2.2 y hyA y (List.mem_cons_of_mem _ z) rfl;have hyx:y≠x:=h1.2.2 y hyA x (List.mem_cons_self ..);rw[zbj hyB,zbk,if_neg hyx]
def hbS (en:Str->List Str)(hd:List Str):Rh->List Str
 | .split x=>hd++ [x]
 | .join x=>hd.filter (λy=>decide (y≠x))++en x
 | .pl _=>hd
def yR (en:Str->List Str)(rs:List Rh):List Str:=rs.foldl (hbS en) []
theorem oQ {en:Str->List Str}{rs:List Rh}{r:Rh} :yR en (rs++ [r])=hbS en (yR en rs) r:=by unfold yR;rw[List.foldl_append];rfl
def HV (en:Str->List Str)(rs:List Rh):Prop:= ∀A x B,rs=A++ .join x::B->x∈yR en A
theorem hV {en:Str->List Str}{rs:List Rh}{r:Rh}(h:HV en rs)(hr: ∀x,r= .join x->x∈yR en rs):HV en (rs++ [r]):=λA x B e=>by
 rcases sZ e with⟨B',h1,_⟩ | ⟨A',rfl,h2⟩
 ·exact h A x B' h1
 ·cases A' with
  | nil=>cases h2;rw[List.append_nil];exact hr x rfl
  | cons q A'=>cases A' <;> cases h2
def o8 (nm:Nat->Str)(E1:List Ee)(en:Str->List Str):Prop:= ∀p∈E1,en (nm p.1)=p.2.map nm
def uE (rs:List Rh):List Str:=rs.filterMap Rh.jn
def rL (X:List Re):List Str:=X.flatMap λp=>uE p.2
theorem zag {X Y:List Rh} :uE (X++Y)=uE X++uE Y:=by unfold uE;simp
theorem zez {X Y:List Re} :rL (X++Y)=rL X++rL Y:=by unfold rL;simp
def zhy (nm:Nat->Str)(X:List Re):Prop:= ∀A k r B,X=A++(k,r)::B->∀m∈uE r,∃j∈A.map (·.1),m=nm j
structure LK (shl:List Sh)(nm:Nat->Str)(sp:List Nat)(E:List Ee)(sp' ks:List Nat)(X:List Re)(E1:List Ee)(rs:List Rh)(hd:List Nat):Prop extends LI shl nm sp E sp' ks X E1 rs hd where
 pj: ∃js:List Nat,((hd.flatMap (tE (E++E1)))++js).Perm ks/\(rL X++uE rs).Perm (js.map nm)
 hb: ∀en,o8 nm E1 en->hd.map nm=yR en rs/\HV en rs
 hx: ∀en,o8 nm E1 en->∀p∈X,yR en p.2=en (nm p.1)/\HV en p.2
 je:zhy nm X
section
variable {shl:List Sh} {nm:Nat->Str} {sp:List Nat} {E:List Ee} {sp' ks:List Nat} {X:List Re} {E1:List Ee} {rs:List Rh} {hd:List Nat}
theorem LK.start (hs:sp.Nodup):LK shl nm sp E sp [] [] [] [] []:=
 {LI.start hs with pj:=⟨[],by simp,by simp[rL,uE]⟩,hb:=λen _=>⟨rfl,λA x B e=>by cases A <;> cases e⟩,hx:=λen _ p hp=>by simp at hp,je:=λA k r B h=>by cases A <;> cases h}
theorem LK.plain (I:LK shl nm sp E sp' ks X E1 rs hd){r:Rw}(hr:qC shl r):LK shl nm sp E sp' ks X E1 (rs++ [.pl r]) hd:=
 by
 refine{I.toLI.plain hr with pj:= ?_,hb:=λen ha=> ?_,hx:=I.hx,je:=I.je}
 ·obtain⟨js,h1,h2⟩:=I.pj
  refine⟨js,h1,?_⟩;rw[zag,show uE [Rh.pl r]= []from rfl,List.append_nil];exact h2
 ·obtain⟨h1,h2⟩:=I.hb en ha
  exact⟨by rw[oQ];exact h1,hV h2 λx e=>by cases e⟩
theorem zdV {f:Nat->List Nat} : ∀{l:List Nat} {k x:Nat},l[k]?=some x->(l.flatMap f).Perm (f x++(l.eraseIdx k).flatMap f)
 | [],k,x,h=>by simp at h
 | y::l,0,x,h=>by simp at h;subst h;simp
 | y::l,k+1,x,h=>by
  have:=zdV (f:=f) (l:=l) (k:=k) (x:=x) (by simpa using h);rw[List.flatMap_cons,List.eraseIdx_cons_succ,List.flatMap_cons];refine(List.Perm.append_left _ this).trans ?_;rw[<- List.append_assoc,<- List.append_assoc];exact List.Perm.append_right _ List.perm_append_comm
theorem ziI {l:List Nat}(hn:l.Nodup){k x:Nat}(hx:l[k]?=some x):l.eraseIdx k=l.filter λy=>decide (y≠x):=by
 induction l generalizing k with
 | nil=>simp at hx
 | cons y l ih=>
  rw[List.nodup_cons]at hn;cases k with
  | zero=>
   simp at hx;subst hx;rw[List.eraseIdx_cons_zero,List.filter_cons,if_neg (by simp)];symm;rw[List.filter_eq_self];intro a ha;exact decide_eq_true λz=>hn.1 (z▸ha)
  | succ k=>
   have hx':l[k]?=some x:=by simpa using hx
   have hne:y≠x:=λz=>hn.1 (z▸List.mem_iff_getElem?.mpr ⟨k,hx'⟩);rw[List.eraseIdx_cons_succ,List.filter_cons,if_pos (by simpa using hne),ih hn.2 hx']
theorem LK.tin (I:LK shl nm sp E sp' ks X E1 rs hd){x:Nat}(hx:x∈ks):x∈tE (E++E1) x:=by
 have hn:(E1.map (·.1)).Nodup:=by rw[I.ek];exact(List.nodup_append.mp I.nd).1
 obtain⟨⟨y,l⟩,hm,e⟩:=List.mem_map.mp (I.ek▸hx);have e':y=x:=e;subst e';rw[zgq hn I.ev hm];exact List.mem_cons_self ..
theorem zgk {f:Nat->List Nat} : ∀{l:List Nat},(∀x∈l,x∈f x)->l.Sublist (l.flatMap f)
 | [],_=>List.Sublist.refl _
 | x::l,h=>by
  rw[List.flatMap_cons];exact(List.singleton_sublist.mpr (h x (List.mem_cons_self ..))).append (zgk λy hy=>h y (List.mem_cons_of_mem _ hy))
theorem LK.hnd (I:LK shl nm sp E sp' ks X E1 rs hd):hd.Nodup:=by
 obtain⟨js,h1,_⟩:=I.pj;have h2:=h1.nodup_iff.mpr (List.nodup_append.mp I.nd).1;exact(List.nodup_append.mp h2).1.sublist (zgk λx hx=>I.tin (I.hk x hx))
theorem LK.join (inj: ∀a∈sp,∀b∈sp,nm a=nm b->a=b)(I:LK shl nm sp E sp' ks X E1 rs hd){k x:Nat}{l:List Nat}(hx:hd[k]?=some x)(hl:(x,l)∈E1):LK shl nm sp E sp' ks X E1 (rs++ [.join (nm x)]) (hd.eraseIdx k++l)/\((hd.eraseIdx k++l).map (wE (E++E1))).sum+1=(hd.map (wE (E++E1))).sum:=by
 have hn:(E1.map (·.1)).Nodup:=by rw[I.ek];exact(List.nodup_append.mp I.nd).1
 have J:=I.toLI.join hx hl;refine⟨{J.1 with pj:= ?_,hb:=λen ha=> ?_,hx:=I.hx,je:=I.je},J.2⟩
 ·obtain⟨js,h1,h2⟩:=I.pj
  refine⟨js++ [x],?_,?_⟩
  ·refine List.Perm.trans ?_ h1
   have hp:=zdV (f:=tE (E++E1)) hx;rw[zgq hn I.ev hl]at hp;rw[List.flatMap_append];generalize (hd.eraseIdx k).flatMap (tE (E++E1))=a at hp⊢
   generalize l.flatMap (tE (E++E1))=b at hp⊢
   refine List.Perm.trans ?_ (List.Perm.append_right js hp.symm);rw[List.cons_append,List.cons_append];refine List.Perm.trans ?_ (List.perm_middle (a:=x) (l₁:= [])).symm;rw[List.nil_append,<- List.append_assoc];refine(List.perm_append_singleton x _).trans (List.Perm.cons _ (List.Perm.append_right _ List.perm_append_comm))
  ·rw[zag,List.map_append,<- List.append_assoc]
   refine(List.Perm.append_right _ h2).trans (List.Perm.of_eq ?_);simp[uE,Rh.jn]
 ·obtain⟨h1,h2⟩:=I.hb en ha
  have hxm:x∈hd:=List.mem_iff_getElem?.mpr ⟨k,hx⟩;refine⟨?_,hV h2 λy e=>by cases e;rw[<- h1];exact List.mem_map_of_mem hxm⟩;rw[oQ];show _=(yR en rs).filter _++en (nm x);rw[<- h1,List.map_append,ha _ hl,ziI I.hnd hx,List.filter_map]
  congr 2
  refine List.filter_congr λy hy=> ?_;have hys:=I.sub y (List.mem_append_left _ (I.hk y hy));have hxs:=I.sub x (List.mem_append_left _ (I.hk x hxm));show decide (y≠x)=decide (nm y≠nm x);by_cases e:y=x
  ·rw[e];simp
  ·rw[decide_eq_true (show y≠x from e),decide_eq_true (show nm y≠nm x from λz=>e (inj y hys x hxs z))]
theorem LK.split (inj: ∀a∈sp,∀b∈sp,nm a=nm b->a=b)(I:LK shl nm sp E sp' ks X E1 rs hd){i j:Nat}(hj:sp'[i]?=some j){spc ksc:List Nat}{Xc:List Re}{E1c:List Ee}{rsc:List Rh}{hdc:List Nat}
  (C:LK shl nm (sp'.eraseIdx i) (E++E1) spc ksc Xc E1c rsc hdc) (hlen:rsc.length<=30):
  LK shl nm sp E spc (ks++(ksc++ [j])) (X++(Xc++ [(j,rsc)])) (E1++(E1c++ [(j,hdc)])) (rs++ [.split (nm j)]) (hd++ [j]):=by
 have S:=LI.split inj I.toLI hj C.toLI hlen;have ag: ∀{en},o8 nm (E1++(E1c++ [(j,hdc)])) en->o8 nm E1 en/\o8 nm E1c en/\en (nm j)=hdc.map nm:=λ{en} h=>⟨λp hp=>h p (List.mem_append_left _ hp),λp hp=>h p (List.mem_append_right _ (List.mem_append_left _ hp)),h (j,hdc) (by simp)⟩;have ndk:=(List.nodup_append.mp S.nd).1;have keys:(E1++(E1c++ [(j,hdc)])).map (·.1)=ks++(ksc++ [j]):=S.ek;refine{S with pj:= ?_,hb:=λen ha=> ?_,hx:=λen ha p hp=> ?_,je:= ?_}
 ·obtain⟨js,h1,h2⟩:=I.pj
  obtain⟨jsc,c1,c2⟩:=C.pj;refine⟨js++jsc,?_,?_⟩
  ·have hw:hd.flatMap (tE (E++(E1++(E1c++ [(j,hdc)]))))=hd.flatMap (tE (E++E1)):=pB λy hy=>by
    rw[<- List.append_assoc];refine zbj ?_;rw[List.map_append,C.ek];intro z;exact(List.nodup_append.mp ndk).2.2 y (I.hk y hy) y z rfl
   have hwj:tE (E++(E1++(E1c++ [(j,hdc)]))) j=j::hdc.flatMap (tE (E++E1++E1c)):=by
    rw[<- List.append_assoc,<- List.append_assoc,zbk,if_pos rfl]
   rw[List.flatMap_append,hw,List.flatMap_cons,List.flatMap_nil,List.append_nil,hwj];generalize hd.flatMap (tE (E++E1))=a at h1⊢
   generalize hdc.flatMap (tE (E++E1++E1c))=b at c1⊢
   refine List.Perm.trans ?_ (h1.append (c1.append_right [j]));have p1:(a++j::b++(js++jsc)).Perm (a++(js++(j::b++jsc))):=by
    rw[List.append_assoc];refine List.Perm.append_left _ ?_;rw[<- List.append_assoc,<- List.append_assoc];exact List.Perm.append_right _ List.perm_append_comm
   refine p1.trans ?_;rw[List.append_assoc];refine List.Perm.append_left _ (List.Perm.append_left _ ?_);rw[List.cons_append];exact(List.perm_append_singleton j _).symm
  ·rw[zez,zez,zag,List.map_append]
   have e1:uE [Rh.split (nm j)]= []:=rfl;have e2:rL [(j,rsc)]=uE rsc:=by simp[rL]
   rw[e1,e2,List.append_nil];refine List.Perm.trans ?_ (h2.append c2);generalize rL Xc++uE rsc=y;rw[List.append_assoc,List.append_assoc];exact List.Perm.append_left _ List.perm_append_comm
 ·obtain⟨a1,a2,a3⟩:=ag ha
  obtain⟨h1,h2⟩:=I.hb en a1;refine⟨?_,hV h2 λx e=>by cases e⟩;rw[oQ,List.map_append,h1];rfl
 ·obtain⟨a1,a2,a3⟩:=ag ha
  rcases List.mem_append.mp hp with hp | hp
  ·exact I.hx en a1 p hp
  ·rcases List.mem_append.mp hp with hp | hp
   ·exact C.hx en a2 p hp
   ·rw[List.mem_singleton.mp hp]
    obtain⟨c1,c2⟩:=C.hb en a2;exact⟨by rw[a3];exact c1.symm,c2⟩
 ·intro A k r B e m hm
  rcases sZ e with⟨B',h1,_⟩ | ⟨A',rfl,h2⟩
  ·exact I.je A k r B' h1 m hm
  ·rw[List.map_append]
   rcases sZ h2 with⟨B',h3,_⟩ | ⟨A'',rfl,h4⟩
   ·obtain⟨q,hq,e'⟩:=C.je A' k r B' h3 m hm;exact⟨q,List.mem_append_right _ hq,e'⟩
   ·cases A'' with
    | nil=>
     cases h4;obtain⟨r',hr',e'⟩:=List.mem_filterMap.mp hm;obtain⟨q,hq,e2⟩:=C.jn r' hr' m e';exact⟨q,List.mem_append_right _ (by rw[List.append_nil,C.xk];exact hq),e2⟩
    | cons q A''=>cases A'' <;> cases h4
end
def zB (names:List Str)(i:Nat):Str:=names.getD i Str.empty
def vN (nm:Nat->Str)(R:List Re):List (z7×PV):=R.map λp=>(.inl (p.1:Int),yJ (nm p.1,p.2))
def G (a0:PO)(kv:List (z7×PV))(nm:Nat->Str)(sp:List Nat)(E:List Ee)(R:List Re)(m:z4):z4:=a0:: .lst (sp.map yL):: .dct (wV E):: .dct (vN nm R):: .rcd kv::m
structure zbV (kv:List (z7×PV))(names things:List Str)(shl:List Sh)(many:Nat):Prop where
 nms:zR kv (.inr "names")=some (.lst (names.map PV.str))
 tgs:zR kv (.inr "things")=some (.lst (things.map PV.str))
 uses:zR kv (.inr "uses")=some (.lst (List.replicate many (.tup [.lst (shl.map yA),.lst (shl.map yA)])))
 spare:zR kv (.inr "spare")=some (.obj 1)
 ends:zR kv (.inr "ends")=some (.obj 2)
 rows:zR kv (.inr "rows")=some (.obj 3)
section
variable {a0:PO} {kv:List (z7×PV)} {nm:Nat->Str} {sp:List Nat} {E:List Ee} {R:List Re} {m0 m:z4} {x y z u:PO}
theorem zbS:(G a0 kv nm sp E R m).length=m.length+5:=rfl
theorem zbR:G a0 kv nm sp E R m++m0=G a0 kv nm sp E R (m++m0):=rfl
theorem vE:(G a0 kv nm sp E R m)[1]?=some (.lst (sp.map yL)):=rfl
theorem vF:(G a0 kv nm sp E R m)[2]?=some (.dct (wV E)):=rfl
theorem wT:(G a0 kv nm sp E R m)[3]?=some (.dct (vN nm R)):=rfl
theorem wP:(G a0 kv nm sp E R m)[4]?=some (.rcd kv):=rfl
theorem zhF:(m0++ [x,y,z])[m0.length]?=some x:=by rw[List.getElem?_append_right (Nat.le_refl _),Nat.sub_self];rfl
theorem zhG:(m0++ [x,y,z])[m0.length+1]?=some y:=by rw[List.getElem?_append_right (by omega),show m0.length+1 - m0.length=1 by omega];rfl
theorem zhH:(m0++ [x,y,z])[m0.length+2]?=some z:=by rw[List.getElem?_append_right (by omega),show m0.length+2 - m0.length=2 by omega];rfl
theorem znH:(m0++ [x,y,z]).set m0.length u=m0++ [u,y,z]:=by rw[List.set_append_right _ _ (Nat.le_refl _),Nat.sub_self];rfl
theorem znI:(m0++ [x,y,z]).set (m0.length+1) u=m0++ [x,u,z]:=by rw[List.set_append_right _ _ (by omega),show m0.length+1 - m0.length=1 by omega];rfl
theorem znJ:(m0++ [x,y,z]).set (m0.length+2) u=m0++ [x,y,u]:=by rw[List.set_append_right _ _ (by omega),show m0.length+2 - m0.length=2 by omega];rfl
theorem wB:(G a0 kv nm sp E R (m0++ [x,y,z]))[m0.length+5]?=some x:=zhF
theorem vG:(G a0 kv nm sp E R (m0++ [x,y,z]))[m0.length+6]?=some y:=zhG
theorem wX:(G a0 kv nm sp E R (m0++ [x,y,z]))[m0.length+7]?=some z:=zhH
theorem wF:(G a0 kv nm sp E R (m0++ [x,y,z])).set (m0.length+5) u=G a0 kv nm sp E R (m0++ [u,y,z]):=congrArg (G a0 kv nm sp E R) znH
theorem vH:(G a0 kv nm sp E R (m0++ [x,y,z])).set (m0.length+6) u=G a0 kv nm sp E R (m0++ [x,u,z]):=congrArg (G a0 kv nm sp E R) znI
theorem vI:(G a0 kv nm sp E R (m0++ [x,y,z])).set (m0.length+7) u=G a0 kv nm sp E R (m0++ [x,y,u]):=congrArg (G a0 kv nm sp E R) znJ
theorem zhm {l:List Nat} :(G a0 kv nm sp E R m).set 1 (.lst (l.map yL))=G a0 kv nm l E R m:=rfl
theorem zhn {E':List Ee} :(G a0 kv nm sp E R m).set 2 (.dct (wV E'))=G a0 kv nm sp E' R m:=rfl
theorem zho {R':List Re} :(G a0 kv nm sp E R m).set 3 (.dct (vN nm R'))=G a0 kv nm sp E R' m:=rfl
end
structure HP (ns:List Int)(at':Int)(n:Nat)(kv:List (z7×PV))(names things:List Str)(shl:List Sh)(many:Nat)(sp:List Nat)(E:List Ee)(R:List Re):Prop where
 nl:ns.length<=63
 a0:0<=at'
 s7:sp.length<=7
 K:zbV kv names things shl many
 nn:names.Nodup
 nml:many<=names.length
 n8:names.length=8
 nlt:n < many
 sh: ∀s∈shl,kL s
 se:shl≠ []
 sl:shl.length<=63
 te:things≠ []
 tl:things.length<=1000
 sn:sp.Nodup
 sm: ∀x∈sp,x < many
 ns':n∉sp
 nr:n∉R.map (·.1)
 dr: ∀x∈sp,x∉R.map (·.1)
 de: ∀x∈sp,x∉E.map (·.1)
 el:E.length+sp.length<=100
 rl:R.length+sp.length<=100
def iE (d:Nat):y6:=λxs st Q=> ∃(ns:List Int) (at':Int) (n:Nat) (a0:PO) (kv:List (z7×PV)) (names things:List Str) (shl:List Sh) (many:Nat) (sp:List Nat) (E:List Ee) (R:List Re) (m0:z4),
 xs= [.lst (ns.map PV.int),.int at',.obj 4,.int (n:Int)]/\st=G a0 kv (zB names) sp E R m0/\HP ns at' n kv names things shl many sp E R/\sp.length < d/\
 ∀sp' ks X E1 rs hd,LK shl (zB names) sp E sp' ks X E1 rs hd->(n=0->hd= [])->rs.length<=30->Q (.lst (hd.map yL)) (G a0 kv (zB names) sp' (E++E1) (R++X++ [(n,rs)]) m0)
theorem zfV {K:Frag}{vs:List V}{H:Hp}{Q:VK}{E:XK}(h:zN K (iE 0) vs H Q E):False:=by
 obtain⟨_,_,_,_,_,_,⟨_,_,_,_,_,_,_,_,_,_,_,_,_,_,_,_,h1,_⟩,_⟩:=h;omega
theorem ziD {E E1:List Ee}{x:Nat}{l:List Nat}(he:x∉E.map (·.1))(hn:(E1.map (·.1)).Nodup)(hm:(x,l)∈E1):zR (wV (E++E1)) (.inl (x:Int))=some (.lst (l.map yL)):=by
 have go: ∀{L:List Ee},(L.map (·.1)).Nodup->(x,l)∈L->zR (wV L) (.inl (x:Int))=some (.lst (l.map yL)):=by
  intro L
  induction L with
  | nil=>intro _ h;simp at h
  | cons p L ih=>
   intro hn hm;rw[List.map_cons,List.nodup_cons]at hn;unfold wV zR;rw[List.map_cons,List.find?_cons];rcases List.mem_cons.mp hm with rfl | hm
   ·rw[decide_eq_true rfl];rfl
   ·have:((p.1:Int))≠(x:Int):=λz=>hn.1 (List.mem_map.mpr ⟨_,hm,(Int.ofNat.inj z).symm⟩)
    rw[decide_eq_false (λz=>this (Sum.inl.inj z))];exact ih hn.2 hm
 have go2: ∀{L:List Ee},x∉L.map (·.1)->zR (wV (L++E1)) (.inl (x:Int))=zR (wV E1) (.inl (x:Int)):=by
  intro L
  induction L with
  | nil=>intro _;rfl
  | cons p L ih=>
   intro h;rw[List.map_cons,List.mem_cons,not_or]at h;unfold wV zR;rw[List.cons_append,List.map_cons,List.find?_cons];have:decide ((Sum.inl (p.1:Int):z7)=Sum.inl (x:Int))=false:=decide_eq_false (λz=>h.1 (Int.ofNat.inj (Sum.inl.inj z)).symm);show Option.map _ (match decide ((Sum.inl (p.1:Int):z7)=Sum.inl (x:Int))with | true=>_ | false=>_)=_;rw[this];exact ih h.2
 rw[go2 he,go hn hm]
theorem zoF {E E1:List Ee}(hn:(E1.map (·.1)).Nodup)(hv:lX E1){x:Nat}(hx:x∈E1.map (·.1)):1<=wE (E++E1) x:=by
 obtain⟨⟨y,l⟩,hm,rfl⟩:=List.mem_map.mp hx;rw[zb4 hn hv hm];omega
theorem zbf {f:Nat->Nat} : ∀{l:List Nat},(∀x∈l,1<=f x)->l.length<=(l.map f).sum
 | [],_=>Nat.le_refl _
 | x::l,h=>by
  have h1:=h x (List.mem_cons_self ..);have h2:=zbf (l:=l) λy hy=>h y (List.mem_cons_of_mem _ hy);rw[List.map_cons,List.sum_cons,List.length_cons];omega
theorem zgn {f:Nat->Nat}{x:Nat} : ∀{l:List Nat},x∈l->f x<=(l.map f).sum
 | y::l,h=>by
  rw[List.map_cons,List.sum_cons];rcases List.mem_cons.mp h with rfl | h
  ·omega
  ·have:=zgn (f:=f) h;omega
section
variable {shl:List Sh} {nm:Nat->Str} {sp:List Nat} {E:List Ee} {sp' ks:List Nat} {X:List Re} {E1:List Ee} {rs:List Rh} {hd:List Nat}
theorem LI.len (I:LI shl nm sp E sp' ks X E1 rs hd):ks.length+sp'.length<=sp.length:=by
 have:=mT I.nd I.sub
 rwa [List.length_append]at this
theorem LI.pos (I:LI shl nm sp E sp' ks X E1 rs hd){x:Nat}(hx:x∈ks):1<=wE (E++E1) x:=zoF (by rw[I.ek];exact(List.nodup_append.mp I.nd).1) I.ev (by rw[I.ek];exact hx)
theorem LI.hl (I:LI shl nm sp E sp' ks X E1 rs hd):hd.length<=ks.length:=Nat.le_trans (zbf λx hx=>I.pos (I.hk x hx)) I.wt
theorem LI.val (I:LI shl nm sp E sp' ks X E1 rs hd)(de: ∀x∈sp,x∉E.map (·.1)){x:Nat}(hx:x∈hd): ∃l:List Nat,l.length<=ks.length/\(x,l)∈E1/\zR (wV (E++E1)) (.inl (x:Int))=some (.lst (l.map yL)):=by
 have hk:=I.hk x hx;have hn:(E1.map (·.1)).Nodup:=by rw[I.ek];exact(List.nodup_append.mp I.nd).1
 obtain⟨⟨y,l⟩,hm,e⟩:=List.mem_map.mp (I.ek▸hk);have e':y=x:=e;subst e';refine⟨l,?_,hm,ziD (de y (I.sub y (List.mem_append_left _ hk))) hn hm⟩;have h1:=zb4 (E:=E) hn I.ev hm;have h2:=zgn (f:=wE (E++E1)) hx;have h3:=I.wt;obtain⟨A,B,eA⟩:=List.append_of_mem hm;have h4:l.length<=(l.map (wE (E++E1))).sum:=zbf λz hz=>I.pos (by
  have:=I.ev A B y l eA z hz;rw[<- I.ek,eA,List.map_append];exact List.mem_append_left _ this)
 omega
end
theorem ziE {E:List Ee}{x:Nat}{l:List Nat}(h:x∉E.map (·.1)):wM (wV E) (.inl (x:Int)) (.lst (l.map yL))=wV (E++ [(x,l)]):=by
 rw[n5]
 ·unfold wV;rw[List.map_append];rfl
 ·unfold wV;rw[List.map_map];intro z
  obtain⟨p,hp,e⟩:=List.mem_map.mp z;exact h (List.mem_map.mpr ⟨p,hp,Int.ofNat.inj (Sum.inl.inj e)⟩)
theorem zno {nm:Nat->Str}{R:List Re}{x:Nat}{rs:List Rh}(h:x∉R.map (·.1)):wM (vN nm R) (.inl (x:Int)) (yJ (nm x,rs))=vN nm (R++ [(x,rs)]):=by
 rw[n5]
 ·unfold vN;rw[List.map_append];rfl
 ·unfold vN;rw[List.map_map];intro z
  obtain⟨p,hp,e⟩:=List.mem_map.mp z;exact h (List.mem_map.mpr ⟨p,hp,Int.ofNat.inj (Sum.inl.inj e)⟩)
theorem jG {names:List Str}{x:Nat}(h:x < names.length):names[x]?=some (zB names x):=by
 unfold zB;rw[List.getD_eq_getElem?_getD,List.getElem?_eq_getElem h];rfl
theorem mR {names:List Str}(hn:names.Nodup){a b:Nat}(ha:a < names.length)(hb:b < names.length)(e:zB names a=zB names b):a=b:=
 (List.getElem?_inj ha hn).mp (by rw[jG ha,jG hb,e])
theorem zcO {l:List Nat}(hn:l.Nodup){i j:Nat}(hj:l[i]?=some j){x:Nat}(h1:x∈l.eraseIdx i):x∈l/\x≠j:=by
 refine⟨List.mem_of_mem_eraseIdx h1,λz=> ?_⟩;subst z;obtain⟨q,hq⟩:=List.mem_iff_getElem?.mp h1;rw[List.getElem?_eraseIdx]at hq
 split at hq
 ·have:=(List.getElem?_inj (List.getElem?_eq_some_iff.mp hq).1 hn).mp (hq.trans hj.symm);omega
 ·have:=(List.getElem?_inj (List.getElem?_eq_some_iff.mp hq).1 hn).mp (hq.trans hj.symm);omega
theorem HP.kid {ns:List Int}{at':Int}{n:Nat}{kv:List (z7×PV)}{names things:List Str}{shl:List Sh}{many:Nat}{sp sp' ks:List Nat}{E E1:List Ee}{R X:List Re}{rs:List Rh}{hd:List Nat}(H:HP ns at' n kv names things shl many sp E R)(I:LI shl (zB names) sp E sp' ks X E1 rs hd){i j:Nat}(hj:sp'[i]?=some j):
  HP ns at' j kv names things shl many (sp'.eraseIdx i) (E++E1) (R++X):=by
 have hjs:j∈sp':=List.mem_iff_getElem?.mpr ⟨i,hj⟩;have hl:=I.len;have nd:=List.nodup_append.mp I.nd;have er: ∀x∈sp'.eraseIdx i,x∈sp'/\x≠j:=λx hx=>zcO nd.2.1 hj hx;have hel:=List.length_eraseIdx_le sp' i;have h7:=H.s7;have ex:X.length=ks.length:=by rw[<- I.xk,List.length_map]
 have ee:E1.length=ks.length:=by rw[<- I.ek,List.length_map]
 have hr:=H.rl;have he:=H.el;have fresh: ∀x∈sp',x∉(R++X).map (·.1)/\x∉(E++E1).map (·.1):=λx hx=>by
  have hxs:=I.sub x (List.mem_append_right _ hx);have hxk:x∉ks:=λz=>nd.2.2 x z x hx rfl;rw[List.map_append,List.map_append,I.xk,I.ek,List.mem_append,List.mem_append,not_or,not_or];exact⟨⟨H.dr x hxs,hxk⟩,H.de x hxs,hxk⟩
 exact{nl:=H.nl,a0:=H.a0,s7:=by omega,K:=H.K,nn:=H.nn,nml:=H.nml,n8:=H.n8,nlt:=H.sm j (I.sub j (List.mem_append_right _ hjs)),sh:=H.sh,se:=H.se,sl:=H.sl,te:=H.te,tl:=H.tl,sn:=nd.2.1.sublist (List.eraseIdx_sublist ..),sm:=λx hx=>H.sm x (I.sub x (List.mem_append_right _ (er x hx).1)),ns':=λz=>(er j z).2 rfl,nr:=(fresh j hjs).1,dr:=λx hx=>(fresh x (er x hx).1).1,de:=λx hx=>(fresh x (er x hx).1).2,el:=by rw[List.length_append];omega,rl:=by rw[List.length_append];omega}
theorem zj5 {a0:PO}{kv:List (z7×PV)}{nm:Nat->Str}{sp:List Nat}{E:List Ee}{R:List Re}{m0:z4} :L4 (λa b w d=>G a0 kv nm sp E R (m0++ [z9 a b,.lst w,.lst d])) (m0.length+5) 4 (m0.length+6) (m0.length+7) 2 kv E:=⟨wB,wF,vG,vH,wX,vI,wP,vF⟩
theorem ze0 {ns:List Int}{at':Int}{n:Nat}{a0:PO}{kv:List (z7×PV)}{names things:List Str}{shl:List Sh}{many:Nat}{sp sp' ks:List Nat}{E E1:List Ee}{R X:List Re}{rs:List Rh}{hd:List Nat}{m0:z4}{a b:Int}{Q:K3}(H:HP ns at' n kv names things shl many sp E R)(I:LI shl (zB names) sp E sp' ks X E1 rs hd)(hr:rs.length<=1000)(hb:yD a b)(hne:hd≠ [])
  (q: ∀(k x:Nat) (l:List Nat) a b,hd[k]?=some x->(x,l)∈E1->yD a b->Q .non (G a0 kv (zB names) sp' (E++E1) (R++X) (m0++ [z9 a b,.lst ((rs++ [Rh.join (zB names x)]).map Rh.pv),.lst ((hd.eraseIdx k++l).map yL)]))):
  iF [.obj (m0.length+5),.obj 4,.obj (m0.length+6),.obj (m0.length+7)] (G a0 kv (zB names) sp' (E++E1) (R++X) (m0++ [z9 a b,.lst (rs.map Rh.pv),.lst (hd.map yL)])) Q:=by
 have h7:=H.s7;have hl:=I.len;have hhl:=I.hl;refine⟨λa b w d=>G a0 kv (zB names) sp' (E++E1) (R++X) (m0++ [z9 a b,.lst w,.lst d]),_,4,_,_,2,kv,names,E++E1,a,b,rs.map Rh.pv,hd,rfl,rfl,zj5,hb,hne,by omega,by rw[List.length_map];omega,⟨H.K.nms,H.K.ends,λx hx=>⟨Nat.lt_of_lt_of_le (H.sm x (I.sub x (List.mem_append_left _ (I.hk x hx)))) H.nml,?_⟩⟩,λk x l nm a b hk hn hv hb=> ?_⟩
 ·obtain⟨l,h1,_,h3⟩:=I.val H.de hx
  exact⟨l,by omega,h3⟩
 ·have hx:=List.mem_iff_getElem?.mpr ⟨k,hk⟩
  obtain⟨l',h1,h2,h3⟩:=I.val H.de hx;rw[hv]at h3;have el:l=l':=by
   have:l.map yL=l'.map yL:=PV.lst.inj (Option.some.inj h3);have inj: ∀{u v:List Nat},u.map yL=v.map yL->u=v:=λ{u v} h=>by
    have:=congrArg (List.map λx:PV=>match x with | .int i=>i.toNat | _=>0) h;simpa [List.map_map,Function.comp_def]using this
   exact inj this
  subst el;rw[jG (Nat.lt_of_lt_of_le (H.sm x (I.sub x (List.mem_append_left _ (I.hk x hx)))) H.nml)]at hn;cases hn;have:=q k x l a b hk h2 hb;rw[List.map_append]at this;exact this
theorem iB (r:Rw):yP r.pv=true:=by
 obtain⟨g,d⟩:=r;cases g with
 | none=>exact fE d
 | some x=>rfl
theorem zaN {ns:List Int}{at':Int}{n:Nat}{a0:PO}{kv:List (z7×PV)}{names things:List Str}{shl:List Sh}{many:Nat}{sp sp':List Nat}{E E1:List Ee}{R X:List Re}{w d:PO}{m0:z4}{a b:Int}{Q:K3}(H:HP ns at' n kv names things shl many sp E R)(hb:yD a b)
  (q: ∀(r:Rw) a b,qC shl r->yD a b->Q r.pv (G a0 kv (zB names) sp' E1 X (m0++ [z9 a b,w,d]))):
  lI [.obj (m0.length+5),.tup [.lst (shl.map yA),.lst (shl.map yA)],.lst (things.map PV.str)] (G a0 kv (zB names) sp' E1 X (m0++ [z9 a b,w,d])) Q:=
 ⟨_,shl,things,a,b,rfl,wB,hb,H.sh,H.se,H.sl,H.te,H.tl,λr a b hr hb=>by rw[wF];exact q r a b hr hb⟩
structure nU (sh:List Sn)(hs:List Hd):Prop where
 shn:(sh.map (·.1)).Nodup
 shl:sh.length<=100
 sd: ∀s∈sh,zE (yM s)<=12
 s2: ∀s∈sh,∃m b,s.2= [m,b]
 hn:(hs.map (·.1)).Nodup
 hl:hs.length<=8
 rl: ∀h∈hs,h.2.length<=30
 rk: ∃rk:Str->Nat,sJ (v0 Rh.sp hs) (hs.map (·.1)) rk/\∀n∈hs.map (·.1),rk n<=7
 jn: ∀n∈hs.map (·.1),∀m∈v0 Rh.jn hs n,m∈hs.map (·.1)
 sn:((oE hs).map (·.1)).Nodup
 sl:(oE hs).length<=1000
 rd: ∀h∈hs,∀r∈h.2,zaO r
theorem tT: ∀t:Tm Lf,zE (t.pv Lf.pv)<=t.rank+1
 | .num k=>by unfold Tm.pv;simp[zE,dpts]
 | .lf l=>by cases l <;> (unfold Tm.pv Lf.pv;simp[zE,dpts])
 | .op s a b=>by
  have h1:=tT a;have h2:=tT b;unfold Tm.pv Tm.rank;simp only[zE,dpts];omega
 | .ite a b c=>by
  have h1:=tT a;have h2:=tT b;have h3:=tT c;unfold Tm.pv Tm.rank;simp only[zE,dpts];omega
theorem zi6 {d:Dd}(h: ∀x,d.tm=some x->x.rank < 7):zE d.pv<=9:=by
 cases d with
 | bag up a b=>cases up <;> (unfold Dd.pv;simp[zE,dpts])
 | tell x=>have h1:zE (uZ x)<=x.rank+1:=tT x;have h2:=h x rfl;unfold Dd.pv;simp only[zE,dpts];omega
 | set a x=>have h1:zE (uZ x)<=x.rank+1:=tT x;have h2:=h x rfl;unfold Dd.pv;simp only[zE,dpts];omega
 | more a x=>have h1:zE (uZ x)<=x.rank+1:=tT x;have h2:=h x rfl;unfold Dd.pv;simp only[zE,dpts];omega
 | lay a x b=>have h1:zE (uZ x)<=x.rank+1:=tT x;have h2:=h x rfl;unfold Dd.pv;simp only[zE,dpts];omega
 | drop a x=>have h1:zE (uZ x)<=x.rank+1:=tT x;have h2:=h x rfl;unfold Dd.pv;simp only[zE,dpts];omega
theorem znp {shl:List Sh}{r:Rh}(h:kK shl r):zaO r:=by
 unfold zaO;cases r with
 | split n=>unfold Rh.pv;simp[zE,dpts]
 | join n=>unfold Rh.pv;simp[zE,dpts]
 | pl r=>
  obtain⟨g,d⟩:=r;have hd:=zi6 (d:=d) λx hx=>(h.2.1 x hx).2;cases g with
  | none=>show zE d.pv<=40;omega
  | some x=>
   have h1:zE (uZ x)<=x.rank+1:=tT x;have h2:=(h.1 x rfl).2;show zE (.tup [.str "when",uZ x,d.pv])<=40;simp only[zE,dpts];omega
def r6 (nm:Nat->Str)(p:Re):Hd:=(nm p.1,p.2)
theorem zek {l A B:List Str}{x:Str}(e:l=A++B)(h:x∈A):l.idxOf x < A.length:=by
 rw[e,List.idxOf_append,if_pos h];exact List.idxOf_lt_length_of_mem h
theorem zmj {shl:List Sh}{names:List Str}{sp ks sp':List Nat}{X:List Re}{E1:List Ee}{rs:List Rh}{hd:List Nat}{sh:List Sn}{hs:List Hd}(hnn:names.Nodup)(hsp: ∀x∈sp,x < names.length/\x≠0)(h8:0 < names.length)(h7:sp.length<=7)(I:LI shl (zB names) sp [] sp' ks X E1 rs hd)(hrl:rs.length<=30)
  (shn:(sh.map (·.1)).Nodup) (shl':sh.length<=100) (sd: ∀s∈sh,zE (yM s)<=12) (s2: ∀s∈sh,∃m b,s.2= [m,b]) (hp:hs.Perm ((X++ [(0,rs)]).map (r6 (zB names)))):nU sh hs:=by
 have hkl:=I.len;have hks: ∀x∈ks,x∈sp:=λx hx=>I.sub x (List.mem_append_left _ hx);have hin: ∀x∈ks++ [0],x < names.length:=λx hx=>by
  rcases List.mem_append.mp hx with hx | hx
  ·exact(hsp x (hks x hx)).1
  ·rw[List.mem_singleton.mp hx];exact h8
 have hids:(X++ [((0:Nat),rs)]).map (·.1)=ks++ [0]:=by rw[List.map_append,I.xk];rfl
 have hnd:(ks++ [0]).Nodup:=List.nodup_append.mpr ⟨(List.nodup_append.mp I.nd).1,by simp,λa ha b hb=>by rw[List.mem_singleton.mp hb];exact(hsp a (hks a ha)).2⟩;have hnm:((X++ [((0:Nat),rs)]).map (r6 (zB names))).map (·.1)=(ks++ [0]).map (zB names):=by rw[<- hids,List.map_map,List.map_map];rfl
 have hndn:((ks++ [0]).map (zB names)).Nodup:=by
  refine List.pairwise_iff_getElem.mpr λi j hi hj hij e=> ?_;rw[List.getElem_map,List.getElem_map]at e;rw[List.length_map]at hi hj;have:=mR hnn (hin _ (List.getElem_mem hi)) (hin _ (List.getElem_mem hj)) e;exact List.pairwise_iff_getElem.mp hnd i j hi hj hij this
 have hn:(hs.map (·.1)).Nodup:=by
  have:=hp.map (·.1);rw[hnm]at this;exact this.nodup_iff.mpr hndn
 have hmem: ∀x,x∈hs.map (·.1)↔x∈(ks++ [0]).map (zB names):=λx=>by
  have:=hp.map (·.1);rw[hnm]at this;exact this.mem_iff
 have hof: ∀h∈hs,∃p∈X++ [((0:Nat),rs)],h=r6 (zB names) p:=λh hh=>by
  obtain⟨p,hp',e⟩:=List.mem_map.mp (hp.mem_iff.mp hh);exact⟨p,hp',e.symm⟩
 have hall: ∀p∈X++ [((0:Nat),rs)],(∀r∈p.2,kK shl r)/\p.2.length<=30/\(∀m∈tg p.2,∃j∈ks,m=zB names j)/\(∀r∈p.2,∀m,r.jn=some m->∃j∈ks,m=zB names j)/\(tg p.2).Nodup:=λp hp=>by
  rcases List.mem_append.mp hp with hp | hp
  ·refine⟨(I.rx p hp).1,(I.rx p hp).2,λm hm=>I.ti m (List.mem_append_left _ (List.mem_flatMap.mpr ⟨p,hp,hm⟩)),I.jx p hp,?_⟩
   have h1:=(List.nodup_append.mp I.tn).1;obtain⟨A,B,e⟩:=List.append_of_mem hp;rw[e,zbo]at h1;have h2:=(List.nodup_append.mp h1).2.1;unfold tgs at h2;rw[List.flatMap_cons]at h2;exact(List.nodup_append.mp h2).1
  ·rw[List.mem_singleton.mp hp]
   exact⟨I.ro,hrl,λm hm=>I.ti m (List.mem_append_right _ hm),I.jn,(List.nodup_append.mp I.tn).2.1⟩
 have hks7:(ks.map (zB names)).length<=7:=by rw[List.length_map];omega
 have sub1: ∀{m:Str},(∃j∈ks,m=zB names j)->m∈hs.map (·.1):=λ{m} ⟨j,hj,e⟩=>(hmem m).mpr (by rw[e];exact List.mem_map_of_mem (List.mem_append_left _ hj));have hSP:(oE hs).map (·.1)=hs.flatMap λh=>tg h.2:=by
  unfold oE;rw[List.map_flatMap];refine pB λh _=> ?_;unfold SP1 tg;rw[List.map_map,<- zgf (k:=0)];rfl
 have hTP:(hs.flatMap λh=>tg h.2).Perm (tgs X++tg rs):=by
  have h1:=hp.flatMap_right (λh:Hd=>tg h.2);refine h1.trans (List.Perm.of_eq ?_);rw[List.map_append,List.flatMap_append,List.flatMap_map];unfold tgs r6;simp
 have hsn:((oE hs).map (·.1)).Nodup:=by rw[hSP];exact hTP.nodup_iff.mpr I.tn
 refine⟨shn,shl',sd,s2,hn,?_,λh hh=> ?_,⟨λn=>((ks++ [0]).map (zB names)).idxOf n,⟨λn hn' m hm=> ?_,λn hn' m hm=> ?_,λn hn'=> ?_⟩,λn hn'=> ?_⟩,λn hn' m hm=> ?_,hsn,?_,λh hh r hr=> ?_⟩
 ·rw[hp.length_eq,List.length_map,List.length_append,List.length_singleton]
  have:X.length=ks.length:=by rw[<- I.xk,List.length_map]
  omega
 ·obtain⟨p,hp',rfl⟩:=hof h hh;exact(hall p hp').2.1
 ·obtain⟨h,hh,rfl⟩:=List.mem_map.mp hn'
  rw[pF hn hh]at hm;obtain⟨p,hp',rfl⟩:=hof h hh;exact sub1 ((hall p hp').2.2.1 m hm)
 ·obtain⟨h,hh,rfl⟩:=List.mem_map.mp hn'
  rw[pF hn hh]at hm;obtain⟨p,hp',rfl⟩:=hof h hh;obtain⟨k,r⟩:=p;show((ks++ [0]).map (zB names)).idxOf m < ((ks++ [0]).map (zB names)).idxOf (zB names k);obtain⟨A,B,e⟩:=List.append_of_mem hp';have eids:ks++ [0]=A.map (·.1)++k::B.map (·.1):=by rw[<- hids,e,List.map_append];rfl
  have hmA:m∈(A.map (·.1)).map (zB names):=by
   rcases sZ e with⟨B',h1,_⟩ | ⟨A',rfl,h2⟩
   ·obtain⟨j,hj,e'⟩:=I.er A k r B' h1 m hm
    rw[e'];exact List.mem_map_of_mem hj
   ·cases A' with
    | nil=>
     cases h2;obtain⟨j,hj,e'⟩:=(hall _ hp').2.2.1 m hm;rw[e',List.append_nil,I.xk];exact List.mem_map_of_mem hj
    | cons q A'=>cases A' <;> cases h2
  have h1:=zek (l:=(ks++ [0]).map (zB names)) (A:=(A.map (·.1)).map (zB names)) (B:=(k::B.map (·.1)).map (zB names)) (by rw[eids,List.map_append]) hmA;have h2:((A.map (·.1)).map (zB names)).length<=((ks++ [0]).map (zB names)).idxOf (zB names k):=by
   rw[eids,List.map_append]at hndn⊢
   rw[List.idxOf_append,if_neg (λz=>(List.nodup_append.mp hndn).2.2 _ z _ (by rw[List.map_cons];exact List.mem_cons_self ..) rfl)];omega
  omega
 ·obtain⟨h,hh,rfl⟩:=List.mem_map.mp hn'
  rw[pF hn hh];obtain⟨p,hp',rfl⟩:=hof h hh;have h1:=hall p hp';have:=mT (l:=tg p.2) (m:=ks.map (zB names)) h1.2.2.2.2 λm hm=>let⟨j,hj,e⟩:=h1.2.2.1 m hm;by rw[e];exact List.mem_map_of_mem hj
  exact Nat.le_trans this hks7
 ·have:=List.idxOf_lt_length_of_mem ((hmem n).mp hn')
  rw[List.length_map,List.length_append,List.length_singleton]at this;show((ks++ [0]).map (zB names)).idxOf n<=7;omega
 ·obtain⟨h,hh,rfl⟩:=List.mem_map.mp hn'
  rw[pF hn hh]at hm;obtain⟨p,hp',rfl⟩:=hof h hh;obtain⟨r,hr,e⟩:=List.mem_filterMap.mp hm;exact sub1 ((hall p hp').2.2.2.1 r hr m e)
 ·have h1:(oE hs).length=(tgs X++tg rs).length:=by rw[<- List.length_map (f:=(·.1)),hSP,hTP.length_eq]
  have h2:=mT (l:=tgs X++tg rs) (m:=ks.map (zB names)) I.tn λm hm=>let⟨j,hj,e⟩:=I.ti m hm;by rw[e];exact List.mem_map_of_mem hj
  omega
 ·obtain⟨p,hp',rfl⟩:=hof h hh
  exact znp ((hall p hp').1 r hr)
def lU (en:Str->List Str)(x:Str)(r:Rh):Prop:=r= .split x∨∃y,r= .join y/\x∈en y
theorem zj8 {en:Str->List Str}{hd:List Str}{x:Str}{r:Rh} :x∈hbS en hd r↔(x∈hd/\r≠ .join x)∨lU en x r:=by
 unfold lU;cases r with
 | split y=>
  show x∈hd++ [y]↔_;rw[List.mem_append,List.mem_singleton];constructor
  ·rintro(h | rfl)
   ·exact .inl ⟨h,λz=>by cases z⟩
   ·exact .inr (.inl rfl)
  ·rintro(h | h | ⟨_,h,_⟩)
   ·exact .inl h.1
   ·cases h;exact .inr rfl
   ·cases h
 | join y=>
  show x∈hd.filter _++en y↔_;rw[List.mem_append,List.mem_filter];constructor
  ·rintro(h | h)
   ·exact .inl ⟨h.1,λz=>by cases z;simp at h⟩
   ·exact .inr (.inr ⟨y,rfl,h⟩)
  ·rintro(h | h | ⟨_,h,h'⟩)
   ·exact .inl ⟨h.1,by simpa using λz:x=y=>h.2 (by rw[z])⟩
   ·cases h
   ·cases h;exact .inr h'
 | pl r=>
  show x∈hd↔_;constructor
  ·exact λh=> .inl ⟨h,λz=>by cases z⟩
  ·rintro(h | h | ⟨_,h,_⟩)
   ·exact h.1
   ·cases h
   ·cases h
theorem zee {en:Str->List Str}{x:Str} : ∀(rs:List Rh) (acc:List Str),x∈rs.foldl (hbS en) acc↔(x∈acc/\Rh.join x∉rs)∨∃A r B,rs=A++r::B/\lU en x r/\Rh.join x∉B
 | [],acc=>by
  constructor
  ·exact λh=> .inl ⟨h,by simp⟩
  ·rintro(h | ⟨A,r,B,h,_⟩)
   ·exact h.1
   ·cases A <;> cases h
 | r::rs,acc=>by
  rw[List.foldl_cons,zee rs,zj8];constructor
  ·rintro(⟨h | h,h2⟩ | ⟨A,r',B,rfl,h⟩)
   ·refine .inl ⟨h.1,λz=> ?_⟩
    rcases List.mem_cons.mp z with z | z
    ·exact h.2 z.symm
    ·exact h2 z
   ·exact .inr ⟨[],r,rs,rfl,h,h2⟩
   ·exact .inr ⟨r::A,r',B,rfl,h⟩
  ·rintro(⟨h,h2⟩ | ⟨A,r',B,h,h2⟩)
   ·rw[List.mem_cons,not_or]at h2
    exact .inl ⟨.inl ⟨h,λz=>h2.1 z.symm⟩,h2.2⟩
   ·cases A with
    | nil=>cases h;exact .inl ⟨.inr h2.1,h2.2⟩
    | cons q A=>cases h;exact .inr ⟨A,r',B,rfl,h2⟩
def q5 (en:Str->List Str)(x:Str)(rs:List Rh)(i:Nat):Prop:= ∃r,rs[i]?=some r/\lU en x r
theorem pC {en:Str->List Str}{x:Str}{rs:List Rh}{n:Nat} :x∈yR en (rs.take n)↔∃i:Nat,i < n/\q5 en x rs i/\∀j:Nat,i < j->j < n->rs[j]?≠some (.join x):=by
 unfold yR;rw[zee];constructor
 ·rintro(h | ⟨A,r,B,h,h2,h3⟩)
  ·exact absurd h.1 (by simp)
  ·have e: ∀k:Nat,(rs.take n)[k]?=(A++r::B)[k]?:=λk=>by rw[h]
   have eA:=e A.length;rw[List.getElem?_append_right (Nat.le_refl _),Nat.sub_self,List.getElem?_cons_zero,List.getElem?_take]at eA
   split at eA
   ·next hA=>
    refine⟨A.length,hA,⟨r,eA,h2⟩,λj h4 h5 z=>h3 ?_⟩;have ej:=e j;rw[List.getElem?_take,if_pos h5,z,List.getElem?_append_right (by omega)]at ej;obtain⟨q,hq⟩: ∃q,j - A.length=q+1:=⟨j - A.length - 1,by omega⟩;rw[hq,List.getElem?_cons_succ]at ej;exact List.mem_iff_getElem?.mpr ⟨q,ej.symm⟩
   ·cases eA
 ·rintro⟨i,hi,⟨r,h1,h2⟩,h3⟩
  right
  have hl:i < rs.length:=(List.getElem?_eq_some_iff.mp h1).1;have hl2:i < (rs.take n).length:=by rw[List.length_take];omega
  refine⟨(rs.take n).take i,r,(rs.take n).drop (i+1),?_,h2,λz=> ?_⟩
  ·have:(rs.take n)[i]=r:=by rw[List.getElem_take];exact(List.getElem?_eq_some_iff.mp h1).2
   rw[<- this,List.getElem_cons_drop,List.take_append_drop]
  ·obtain⟨q,hq⟩:=List.mem_iff_getElem?.mp z
   rw[List.getElem?_drop,List.getElem?_take]at hq
   split at hq
   ·next hk=>exact h3 _ (by omega) hk hq
   ·cases hq
theorem zg8 {g:Rh->Option Str}{hs:List Hd}(hn:(hs.flatMap λh=>h.2.filterMap g).Nodup){h k:Hd}{i j:Nat}{r r':Rh}{y:Str}(ha:h∈hs)(hb:k∈hs)(hi:h.2[i]?=some r)(hj:k.2[j]?=some r')(e:g r=some y)(e':g r'=some y):h=k/\i=j:=by
 unfold List.Nodup at hn;rw[List.pairwise_flatMap]at hn;obtain⟨a,ha⟩:=List.mem_iff_getElem?.mp ha;obtain⟨b,hb⟩:=List.mem_iff_getElem?.mp hb;obtain⟨a1,a2⟩:=List.getElem?_eq_some_iff.mp ha;obtain⟨b1,b2⟩:=List.getElem?_eq_some_iff.mp hb;have p:=List.pairwise_iff_getElem.mp hn.2;have m1:y∈h.2.filterMap g:=List.mem_filterMap.mpr ⟨r,List.mem_iff_getElem?.mpr ⟨i,hi⟩,e⟩;have m2:y∈k.2.filterMap g:=List.mem_filterMap.mpr ⟨r',List.mem_iff_getElem?.mpr ⟨j,hj⟩,e'⟩;have hab:a=b:=by
  rcases Nat.lt_trichotomy a b with z | z | z
  ·exact absurd rfl (p a b a1 b1 z y (by rw[a2];exact m1) y (by rw[b2];exact m2))
  ·exact z
  ·exact absurd rfl (p b a b1 a1 z y (by rw[b2];exact m2) y (by rw[a2];exact m1))
 subst hab;have hk:h=k:=a2.symm.trans b2;subst hk;refine⟨rfl,?_⟩;have p2:=hn.1 h (List.mem_iff_getElem?.mpr ⟨a,ha⟩);rw[List.pairwise_filterMap]at p2;have p3:=List.pairwise_iff_getElem.mp p2;obtain⟨i1,i2⟩:=List.getElem?_eq_some_iff.mp hi;obtain⟨j1,j2⟩:=List.getElem?_eq_some_iff.mp hj;rcases Nat.lt_trichotomy i j with z | z | z
 ·exact absurd rfl (p3 i j i1 j1 z y (by rw[i2];exact e) y (by rw[j2];exact e'))
 ·exact z
 ·exact absurd rfl (p3 j i j1 i1 z y (by rw[j2];exact e') y (by rw[i2];exact e))
structure wG (hs:List Hd)(en:Str->List Str)(rk:Str->Nat):Prop where
 hb: ∀h∈hs,yR en h.2=en h.1/\HV en h.2
 root: ∀h t,hs=h::t->en h.1= []
 jn:(hs.flatMap λh=>h.2.filterMap Rh.jn).Nodup
 je: ∀y,y∈hs.flatMap (λh=>h.2.filterMap Rh.jn)↔y∈hs.tail.map (·.1)
 jr: ∀h∈hs,∀y,Rh.join y∈h.2->rk y < rk h.1
 r7: ∀h∈hs,rk h.1<=7
 sn:(hs.flatMap λh=>h.2.filterMap Rh.sp).Nodup
 st: ∀y,y∈hs.flatMap (λh=>h.2.filterMap Rh.sp)->y∈hs.tail.map (·.1)
section
variable {hs:List Hd} {en:Str->List Str} {rk:Str->Nat}
theorem wG.split (G:wG hs en rk){x:Str} : ∀(m:Nat) (h:Hd),rk h.1<=m->h∈hs->∀n,x∈yR en (h.2.take n)->∃k∈hs,∃i:Nat,k.2[i]?=some (Rh.split x):=by
 intro m
 induction m with
 | zero | succ m ih=>
  intro h hr hh n hx;obtain⟨i,_,⟨r,h1,h2⟩,_⟩:=pC.mp hx;rcases h2 with rfl | ⟨y,rfl,h2⟩
  ·exact⟨h,hh,i,h1⟩
  ·have hm:=List.mem_iff_getElem?.mpr ⟨i,h1⟩
   have hl:=G.jr h hh y hm;have hy:=(G.je y).mp (List.mem_flatMap.mpr ⟨h,hh,List.mem_filterMap.mpr ⟨_,hm,rfl⟩⟩);obtain⟨k,hk,rfl⟩:=List.mem_map.mp hy;have hk':=List.mem_of_mem_tail hk
   first
    | (exfalso;omega)
    | (refine ih k (by omega) hk' k.2.length ?_
       rw[List.take_length,(G.hb k hk').1];exact h2)
theorem wG.tail (G:wG hs en rk){x:Str}{h:Hd}(hh:h∈hs){n:Nat}(hx:x∈yR en (h.2.take n)):x∈hs.tail.map (·.1):=by
 obtain⟨k,hk,i,e⟩:=G.split _ h (Nat.le_refl _) hh n hx;exact G.st x (List.mem_flatMap.mpr ⟨k,hk,List.mem_filterMap.mpr ⟨_,List.mem_iff_getElem?.mpr ⟨i,e⟩,rfl⟩⟩)
theorem wG.joined (G:wG hs en rk){x:Str}(hx:x∈hs.tail.map (·.1)): ∃k∈hs,∃i:Nat,k.2[i]?=some (Rh.join x):=by
 obtain⟨k,hk,h⟩:=List.mem_flatMap.mp ((G.je x).mpr hx);obtain⟨r,hr,e⟩:=List.mem_filterMap.mp h;have:r= .join x:=by cases r <;> cases e;rfl
 subst this;exact⟨k,hk,List.mem_iff_getElem?.mp hr⟩
theorem wG.isplit (G:wG hs en rk){x:Str}(hx:x∈hs.tail.map (·.1)): ∃k∈hs,∃i:Nat,k.2[i]?=some (Rh.split x):=by
 obtain⟨k,hk,i,e⟩:=G.joined hx;obtain⟨hi,e'⟩:=List.getElem?_eq_some_iff.mp e;have:k.2=k.2.take i++ .join x::k.2.drop (i+1):=by rw[<- e',List.getElem_cons_drop,List.take_append_drop]
 exact G.split _ k (Nat.le_refl _) hk i ((G.hb k hk).2 _ _ _ this)
inductive uM (hs:List Hd)(x:Str):List (Hd×Nat×Nat)->Hd->Nat->Prop
 | start {h i} :h∈hs->h.2[i]?=some (.split x)->uM hs x [] h (i+1)
 | next {W h f k i} :uM hs x W h f->(∀j:Nat,f<=j->h.2[j]?≠some (.join x))->k∈hs->k.2[i]?=some (.join h.1)->uM hs x (W++ [(h,f,h.2.length)]) k (i+1)
structure zh8 (hs:List Hd)(en:Str->List Str)(x:Str)(W:List (Hd×Nat×Nat))(h:Hd)(f:Nat):Prop where
 hh:h∈hs
 ent: ∃i:Nat,f=i+1/\q5 en x h.2 i
 all: ∀p∈W,p.1∈hs/\(∃i:Nat,p.2.1=i+1/\q5 en x p.1.2 i)/\p.2.2=p.1.2.length/\∀j:Nat,p.2.1<=j->p.1.2[j]?≠some (.join x)
 st: ∃(k:Hd) (i:Nat),k.2[i]?=some (.split x)/\k∈hs/\((k,i+1)=(h,f)∨∃l,(k,i+1,l)∈W)
 nx: ∀p∈W,∃(k:Hd) (i:Nat),k∈hs/\k.2[i]?=some (.join p.1.1)/\((k,i+1)=(h,f)∨∃l,(k,i+1,l)∈W)
theorem q5.held {x:Str}{h:Hd}{f:Nat}(he: ∃i:Nat,f=i+1/\q5 en x h.2 i)(hj: ∀j:Nat,f<=j->h.2[j]?≠some (.join x)):x∈yR en h.2:=by
 obtain⟨i,rfl,r,h1,h2⟩:=he;have hl:=(List.getElem?_eq_some_iff.mp h1).1;have:=pC (en:=en) (x:=x) (rs:=h.2) (n:=h.2.length);rw[List.take_length]at this;exact this.mpr ⟨i,hl,⟨r,h1,h2⟩,λj h3 _=>hj j h3⟩
theorem uM.k (G:wG hs en rk){x:Str}{W:List (Hd×Nat×Nat)}{h:Hd}{f:Nat}(w:uM hs x W h f):zh8 hs en x W h f:=by
 induction w with
 | @start h i hh hi=>exact⟨hh,⟨i,rfl,_,hi,.inl rfl⟩,λp hp=>by simp at hp,⟨h,i,hi,hh,.inl rfl⟩,λp hp=>by simp at hp⟩
 | @next W h f k i w hj hk hi ih=>
  have hx:x∈en h.1:=by rw[<- (G.hb h ih.hh).1];exact q5.held ih.ent hj
  have mv: ∀{k2:Hd} {i2:Nat},((k2,i2+1)=(h,f)∨∃l,(k2,i2+1,l)∈W)->((k2,i2+1)=(k,i+1)∨∃l,(k2,i2+1,l)∈W++ [(h,f,h.2.length)]):=λ{k2 i2} z=>by
   rcases z with z | ⟨l,z⟩
   ·cases z;exact .inr ⟨_,List.mem_append_right _ (List.mem_singleton.mpr rfl)⟩
   ·exact .inr ⟨l,List.mem_append_left _ z⟩
  refine⟨hk,⟨i,rfl,_,hi,.inr ⟨h.1,rfl,hx⟩⟩,λp hp=> ?_,?_,λp hp=> ?_⟩
  ·rcases List.mem_append.mp hp with hp | hp
   ·exact ih.all p hp
   ·rw[List.mem_singleton.mp hp];exact⟨ih.hh,ih.ent,rfl,hj⟩
  ·obtain⟨k2,i2,e1,e2,e3⟩:=ih.st
   exact⟨k2,i2,e1,e2,mv e3⟩
  ·rcases List.mem_append.mp hp with hp | hp
   ·obtain⟨k2,i2,e1,e2,e3⟩:=ih.nx p hp
    exact⟨k2,i2,e1,e2,mv e3⟩
   ·rw[List.mem_singleton.mp hp];exact⟨k,i,hk,hi,.inl rfl⟩
theorem uM.done (G:wG hs en rk){x:Str}{W:List (Hd×Nat×Nat)}{h:Hd}{f l:Nat}(w:uM hs x W h f)(hf:f<=l)(hl:h.2[l]?=some (.join x))(hm: ∀j:Nat,f<=j->j < l->h.2[j]?≠some (.join x)){k:Hd}(hk:k∈hs){n:Nat}(hn:n<=k.2.length):
  x∈yR en (k.2.take n)↔∃p∈W++ [(h,f,l)],p.1=k/\p.2.1<=n/\n<=p.2.2:=by
 have w:=w.k G;have evs: ∀(m:Nat) (k:Hd),rk k.1<=m->k∈hs->∀i,q5 en x k.2 i->∃l',(k,i+1,l')∈W++ [(h,f,l)]:=by
  intro m;have up: ∀{k:Hd} {i:Nat},((k,i+1)=(h,f)∨∃l,(k,i+1,l)∈W)->∃l',(k,i+1,l')∈W++ [(h,f,l)]:=λ{k i} z=>by
   rcases z with z | ⟨l',z⟩
   ·cases z;exact⟨l,List.mem_append_right _ (List.mem_singleton.mpr rfl)⟩
   ·exact⟨l',List.mem_append_left _ z⟩
  induction m with
  | zero | succ m ih=>
   rintro k hr hk i ⟨r,h1,rfl | ⟨y,rfl,h2⟩⟩
   ·obtain⟨k2,i2,e1,e2,e3⟩:=w.st
    obtain⟨rfl,rfl⟩:=zg8 G.sn hk e2 h1 e1 rfl rfl;exact up e3
   ·have hmm:=List.mem_iff_getElem?.mpr ⟨i,h1⟩
    have hlt:=G.jr k hk y hmm;have hy:=(G.je y).mp (List.mem_flatMap.mpr ⟨k,hk,List.mem_filterMap.mpr ⟨_,hmm,rfl⟩⟩);obtain⟨q,hq,rfl⟩:=List.mem_map.mp hy;have hq':=List.mem_of_mem_tail hq
    first
    | (exfalso;omega)
    | (rw[<- (G.hb q hq').1,<- List.take_length (l:=q.2)]at h2
       obtain⟨i',hi',hent,hno⟩:=pC.mp h2;obtain⟨l',hin⟩:=ih q (by omega) hq' i' hent;rcases List.mem_append.mp hin with hin | hin
       · obtain⟨k2,i2,e1,e2,e3⟩:=w.nx _ hin;obtain⟨rfl,rfl⟩:=zg8 G.jn hk e1 h1 e2 rfl rfl;exact up e3
       · cases List.mem_singleton.mp hin;exact absurd hl (hno l hf (List.getElem?_eq_some_iff.mp hl).1))
 constructor
 ·intro hx
  obtain⟨i,hi,hent,hno⟩:=pC.mp hx;obtain⟨l',hin⟩:=evs _ k (Nat.le_refl _) hk i hent;refine⟨_,hin,rfl,hi,?_⟩;rcases List.mem_append.mp hin with hin | hin
  ·rw[(w.all _ hin).2.2.1];exact hn
  ·cases List.mem_singleton.mp hin
   exact Nat.le_of_not_lt λz=>hno l hf z hl
 ·rintro⟨p,hp,rfl,h1,h2⟩
  rcases List.mem_append.mp hp with hp | hp
  ·obtain⟨_,⟨i,e,hent⟩,_,hj⟩:=w.all p hp
   exact pC.mpr ⟨i,by omega,hent,λj h3 _=>hj j (by omega)⟩
  ·rw[List.mem_singleton.mp hp]at h1 h2⊢
   obtain⟨i,e,hent⟩:=w.ent;dsimp only at h1 h2⊢
   exact pC.mpr ⟨i,by omega,hent,λj h3 h4=>hm j (by omega) (by omega)⟩
theorem uM.on (G:wG hs en rk){x:Str}{W:List (Hd×Nat×Nat)}{h:Hd}{f:Nat}(w:uM hs x W h f)(hj: ∀j:Nat,f<=j->h.2[j]?≠some (.join x)): ∃k∈hs,∃i:Nat,k.2[i]?=some (Rh.join h.1)/\rk h.1 < rk k.1:=by
 have w:=w.k G;have hx:x∈en h.1:=by rw[<- (G.hb h w.hh).1];exact q5.held w.ent hj
 have ht:h.1∈hs.tail.map (·.1):=by
  cases hs with
  | nil=>cases w.hh
  | cons q t=>
   rcases List.mem_cons.mp w.hh with e | e
   ·rw[e,G.root q t rfl]at hx;cases hx
   ·exact List.mem_map_of_mem e
 obtain⟨k,hk,i,e⟩:=G.joined ht;exact⟨k,hk,i,e,G.jr k hk _ (List.mem_iff_getElem?.mpr ⟨i,e⟩)⟩
end
def mJ (nm:Nat->Str)(E1:List Ee)(s:Str):List Str:=((E1.find? λp=>nm p.1==s).map λp=>p.2.map nm).getD []
theorem zkc {α:Type}{l:List (Nat×α)}(hn:(l.map (·.1)).Nodup){p q:Nat×α}(hp:p∈l)(hq:q∈l)(e:p.1=q.1):p=q:=by
 obtain⟨i,hi⟩:=List.mem_iff_getElem?.mp hp;obtain⟨j,hj⟩:=List.mem_iff_getElem?.mp hq;have hil:=(List.getElem?_eq_some_iff.mp hi).1;have:=(List.getElem?_inj (by rw[List.length_map];exact hil) hn).mp (show(l.map (·.1))[i]?=(l.map (·.1))[j]? by rw[List.getElem?_map,List.getElem?_map,hi,hj];exact congrArg some e);subst this;exact Option.some.inj (hi.symm.trans hj)
theorem zml {shl:List Sh}{names:List Str}{sp ks sp':List Nat}{X:List Re}{E1:List Ee}{rs:List Rh}{hs:List Hd}(hnn:names.Nodup)(hsp: ∀x∈sp,x < names.length/\x≠0)(h8:0 < names.length)(h7:sp.length<=7)(I:LK shl (zB names) sp [] sp' ks X E1 rs [])(hp:hs.Perm (X.map (r6 (zB names)))):
  ∃en rk,wG ((zB names 0,rs)::hs) en rk:=by
 have hkl:=I.len;have hks: ∀x∈ks,x < names.length/\x≠0:=λx hx=>hsp x (I.sub x (List.mem_append_left _ hx));have hek: ∀p∈E1,p.1∈ks:=λp hp=>by rw[<- I.ek];exact List.mem_map_of_mem hp
 have hn:(E1.map (·.1)).Nodup:=by rw[I.ek];exact(List.nodup_append.mp I.nd).1
 have hnk:(ks++ [0]).Nodup:=List.nodup_append.mpr ⟨(List.nodup_append.mp I.nd).1,by simp,λa ha b hb=>by rw[List.mem_singleton.mp hb];exact(hks a ha).2⟩;have hin: ∀x∈ks++ [0],x < names.length:=λx hx=>by
  rcases List.mem_append.mp hx with hx | hx
  ·exact(hks x hx).1
  ·rw[List.mem_singleton.mp hx];exact h8
 have hndn:((ks++ [0]).map (zB names)).Nodup:=by
  refine List.pairwise_iff_getElem.mpr λi j hi hj hij e=> ?_;rw[List.getElem_map,List.getElem_map]at e;rw[List.length_map]at hi hj;have:=mR hnn (hin _ (List.getElem_mem hi)) (hin _ (List.getElem_mem hj)) e;exact List.pairwise_iff_getElem.mp hnk i j hi hj hij this
 have agr:o8 (zB names) E1 (mJ (zB names) E1):=λp hp=>by
  unfold mJ;cases hf:E1.find? (λq=>zB names q.1==zB names p.1)with
  | none=>exact absurd (List.find?_eq_none.mp hf p hp) (by simp)
  | some q=>
   have h1:=List.mem_of_find?_eq_some hf;have h2:zB names q.1=zB names p.1:=by simpa using List.find?_some hf
   rw[zkc hn h1 hp (mR hnn (hks _ (hek q h1)).1 (hks _ (hek p hp)).1 h2)];rfl
 have en0:mJ (zB names) E1 (zB names 0)= []:=by
  unfold mJ;rw[List.find?_eq_none.mpr λp hp z=>(hks _ (hek p hp)).2 (mR hnn (hks _ (hek p hp)).1 h8 (by simpa using z))]
  rfl
 obtain⟨hb1,hb2⟩:=I.hb _ agr;obtain⟨js,p1,p2⟩:=I.pj;rw[List.flatMap_nil,List.nil_append]at p1;have hnm:(hs.map (·.1)).Perm (ks.map (zB names)):=by
  have:=hp.map (·.1);rw[List.map_map,<- I.xk]at *;rw[List.map_map];exact this
 have hjp:(((zB names 0,rs)::hs).flatMap λh=>h.2.filterMap Rh.jn).Perm (ks.map (zB names)):=by
  refine List.Perm.trans ?_ (p2.trans (p1.map _));rw[List.flatMap_cons];refine List.perm_append_comm.trans (List.Perm.append_right _ ?_);refine(hp.flatMap_right _).trans (List.Perm.of_eq ?_);rw[List.flatMap_map];rfl
 have hsp':(((zB names 0,rs)::hs).flatMap λh=>h.2.filterMap Rh.sp).Perm (tgs X++tg rs):=by
  rw[List.flatMap_cons];refine List.perm_append_comm.trans (List.Perm.append_right _ ?_);refine(hp.flatMap_right _).trans (List.Perm.of_eq ?_);rw[List.flatMap_map];rfl
 have hkn:(ks.map (zB names)).Nodup:=by rw[List.map_append]at hndn;exact(List.nodup_append.mp hndn).1
 have hof: ∀h∈(zB names 0,rs)::hs,∃p∈X++ [((0:Nat),rs)],h=r6 (zB names) p:=λh hh=>by
  rcases List.mem_cons.mp hh with rfl | hh
  ·exact⟨(0,rs),by simp,rfl⟩
  ·obtain⟨p,hp',e⟩:=List.mem_map.mp (hp.mem_iff.mp hh)
   exact⟨p,List.mem_append_left _ hp',e.symm⟩
 have hids:(X++ [((0:Nat),rs)]).map (·.1)=ks++ [0]:=by rw[List.map_append,I.xk];rfl
 refine⟨mJ (zB names) E1,λn=>((ks++ [0]).map (zB names)).idxOf n,⟨λh hh=> ?_,λh t e=> ?_,hjp.nodup_iff.mpr hkn,λy=>(hjp.mem_iff).trans hnm.symm.mem_iff,λh hh y hy=> ?_,λh hh=> ?_,hsp'.nodup_iff.mpr I.tn,λy hy=> ?_⟩⟩
 ·rcases List.mem_cons.mp hh with rfl | hh
  ·exact⟨by rw[en0];exact hb1.symm,hb2⟩
  ·obtain⟨p,hp',rfl⟩:=List.mem_map.mp (hp.mem_iff.mp hh)
   exact I.hx _ agr p hp'
 ·cases e;exact en0
 ·obtain⟨⟨k,r⟩,hp',rfl⟩:=hof h hh
  show((ks++ [0]).map (zB names)).idxOf y < ((ks++ [0]).map (zB names)).idxOf (zB names k);obtain⟨A,B,e⟩:=List.append_of_mem hp';have eids:ks++ [0]=A.map (·.1)++k::B.map (·.1):=by rw[<- hids,e,List.map_append];rfl
  have hy':y∈uE r:=List.mem_filterMap.mpr ⟨_,hy,rfl⟩;have hmA:y∈(A.map (·.1)).map (zB names):=by
   rcases sZ e with⟨B',h1,_⟩ | ⟨A',rfl,h2⟩
   ·obtain⟨j,hj,e'⟩:=I.je A k r B' h1 y hy'
    rw[e'];exact List.mem_map_of_mem hj
   ·cases A' with
    | nil=>
     cases h2;obtain⟨j,hj,e'⟩:=I.jn _ hy y rfl;rw[e',List.append_nil,I.xk];exact List.mem_map_of_mem hj
    | cons q A'=>cases A' <;> cases h2
  have h1:=zek (l:=(ks++ [0]).map (zB names)) (A:=(A.map (·.1)).map (zB names)) (B:=(k::B.map (·.1)).map (zB names)) (by rw[eids,List.map_append]) hmA;have h2:((A.map (·.1)).map (zB names)).length<=((ks++ [0]).map (zB names)).idxOf (zB names k):=by
   rw[eids,List.map_append]at hndn⊢
   rw[List.idxOf_append,if_neg (λz=>(List.nodup_append.mp hndn).2.2 _ z _ (by rw[List.map_cons];exact List.mem_cons_self ..) rfl)];omega
  omega
 ·obtain⟨p,hp',rfl⟩:=hof h hh
  have:zB names p.1∈(ks++ [0]).map (zB names):=List.mem_map_of_mem (by rw[<- hids];exact List.mem_map_of_mem hp');have:=List.idxOf_lt_length_of_mem this;rw[List.length_map,List.length_append,List.length_singleton]at this;show((ks++ [0]).map (zB names)).idxOf (zB names p.1)<=7;omega
 ·obtain⟨j,hj,e⟩:=I.ti y (hsp'.mem_iff.mp hy)
  show y∈hs.map (·.1);rw[e];exact hnm.mem_iff.mpr (List.mem_map_of_mem hj)
def zgb:y6:=λxs st Q=> ∃(ns:List Int) (hands:Int),xs= [.lst (ns.map PV.int),.int 0,oT,.bl false,.int hands]/\st= []/\ns.length<=63/\1<=hands/\hands<=8/\∀(sh:List Sn) (h0:Hd) (hs:List Hd),nU sh (h0::hs)->(∃en rk,wG (h0::hs) en rk)->Q (w5 sh (h0::hs)) []
theorem vS {k:z7}{v:PV}{r:List (z7×PV)} :zR ((k,v)::r) k=some v:=by unfold zR;rw[List.find?_cons,decide_eq_true rfl];rfl
theorem w6 {k k':z7}{v:PV}{r:List (z7×PV)}(h:decide (k'=k)=false):zR ((k',v)::r) k=zR r k:=by unfold zR;rw[List.find?_cons,h]
def wK (nm:Nat->Str)(Y:List Re)(k:Nat):Option Hd:=(Y.find? λp=>p.1==k).map (r6 nm)
theorem jD {nm:Nat->Str}{k:Nat} : ∀{Y:List Re},zR (vN nm Y) (.inl (k:Int))=(wK nm Y k).map yJ
 | []=>rfl
 | p::Y=>by
  unfold vN wK;rw[List.map_cons,List.find?_cons];by_cases e:p.1=k
  ·subst e
   rw[vS,beq_self_eq_true];rfl
  ·have hd:decide ((Sum.inl (p.1:Int):z7)=Sum.inl (k:Int))=false:=decide_eq_false (λz=>e (Int.ofNat.inj (Sum.inl.inj z)))
   rw[w6 hd,show(p.1==k)=false by simpa using e];exact jD
theorem j4 {α β:Type}{f g:α->Option β} : ∀{l:List α},(∀x∈l,f x=g x)->l.filterMap f=l.filterMap g
 | [],_=>rfl
 | x::l,h=>by rw[List.filterMap_cons,List.filterMap_cons,h x (List.mem_cons_self ..),j4 λy hy=>h y (List.mem_cons_of_mem _ hy)]
theorem ze7 {nm:Nat->Str} : ∀{X:List Re} {L:List Nat},(X.map (·.1)).Nodup->L.Nodup->(∀k∈X.map (·.1),k∈L)->(L.filterMap (wK nm X)).Perm (X.map (r6 nm))
 | [],L,_,_,_=>by
  have:L.filterMap (wK nm [])= []:=by rw[List.filterMap_eq_nil_iff];intro a _;rfl
  rw[this];exact List.Perm.refl _
 | p::X,L,hx,hL,hs=>by
  rw[List.map_cons,List.nodup_cons]at hx;have hp:p.1∈L:=hs p.1 (by rw[List.map_cons];exact List.mem_cons_self ..);have h1:(L.filterMap (wK nm (p::X))).Perm ((p.1::L.erase p.1).filterMap (wK nm (p::X))):=(List.perm_cons_erase hp).filterMap _;refine h1.trans ?_;have e1:wK nm (p::X) p.1=some (r6 nm p):=by unfold wK;rw[List.find?_cons,beq_self_eq_true];rfl
  have e2:(L.erase p.1).filterMap (wK nm (p::X))=(L.erase p.1).filterMap (wK nm X):=by
   refine j4 λk hk=> ?_;have hne:p.1≠k:=λz=>by rw[<- z]at hk;exact(List.Nodup.not_mem_erase hL) hk
   unfold wK;rw[List.find?_cons,show(p.1==k)=false by simpa using hne]
  rw[List.filterMap_cons,e1,e2,List.map_cons];refine List.Perm.cons _ (ze7 hx.2 (hL.erase _) λk hk=> ?_);exact(List.mem_erase_of_ne λ(z:k=p.1)=>hx.1 (z▸hk)).mpr (hs k (by rw[List.map_cons];exact List.mem_cons_of_mem _ hk))
theorem zkr {nm:Nat->Str}{X:List Re}{rs:List Rh}{k:Nat}(h:k≠0):wK nm (X++ [(0,rs)]) k=wK nm X k:=by
 unfold wK;rw[List.find?_append];have:([((0:Nat),rs)].find? λp=>p.1==k)=none:=by rw[List.find?_cons,show((0:Nat)==k)=false by simpa using h.symm];rfl
 rw[this,Option.or_none]
def wS (m:Nat):List Nat:=(List.range m).map (· +1)
theorem zga (m:Nat):(wS m).Nodup:=by
 unfold wS;refine List.pairwise_iff_getElem.mpr λi j hi hj hij=> ?_;simp only[List.getElem_map,List.getElem_range];omega
theorem nG {m x:Nat} :x∈wS m↔1<=x/\x<=m:=by
 unfold wS;rw[List.mem_map];constructor
 ·rintro⟨i,hi,rfl⟩;rw[List.mem_range]at hi;omega
 ·intro h;exact⟨x - 1,by rw[List.mem_range];omega,by omega⟩
theorem nF (m:Nat):(wS m).length=m:=by unfold wS;simp
def shN (s:Sh):Sn:=(s.1,[s.2.1,s.2.2])
def x8 (ms:List Str):List (z7×PV):=ms.map λm=>(.inr m,.bl true)
def vV (ms:List Str)(x:Str):List Str:=if x∈ms then ms else ms++ [x]
def uA (ms l:List Str):Prop:=ms.Nodup/\∀x,x∈ms↔x∈l
theorem zom {ms:List Str}{x:Str} :(Sum.inr x:z7)∈(x8 ms).map (·.1)↔x∈ms:=by
 unfold x8;rw[List.map_map,List.mem_map];constructor
 ·rintro⟨m,hm,e⟩;cases e;exact hm
 ·exact λh=>⟨x,h,rfl⟩
theorem iL {x:Str} : ∀{ms:List Str},zR (x8 ms) (.inr x)=if x∈ms then some (.bl true)else none
 | []=>rfl
 | m::ms=>by
  show zR ((.inr m,.bl true)::x8 ms) (.inr x)=_;by_cases e:m=x
  ·subst e;rw[vS,if_pos (List.mem_cons_self ..)]
  ·rw[w6 (decide_eq_false λz=>e (Sum.inr.inj z)),iL]
   by_cases h:x∈ms
   ·rw[if_pos h,if_pos (List.mem_cons_of_mem _ h)]
   ·rw[if_neg h,if_neg λz=>(List.mem_cons.mp z).elim (λz=>e z.symm) h]
theorem zg1 {ms:List Str}{x:Str} :wM (x8 ms) (.inr x) (.bl true)=x8 (vV ms x):=by
 unfold vV;by_cases h:x∈ms
 ·rw[if_pos h]
  unfold wM;have hany:((x8 ms).any λkv=>decide (kv.1=Sum.inr x))=true:=List.any_eq_true.mpr ⟨(Sum.inr x,PV.bl true),List.mem_map.mpr ⟨x,h,rfl⟩,decide_eq_true rfl⟩;rw[if_pos hany];unfold x8;rw[List.map_map];refine List.map_congr_left λm _=> ?_;show(if(Sum.inr m:z7)=Sum.inr x then _ else _)=_
  split <;> rfl
 ·rw[if_neg h,n5 λz=>h (zom.mp z)]
  unfold x8;rw[List.map_append];rfl
theorem zol {ms:List Str}{x:Str} :oN (x8 ms) (.inr x)=x8 (ms.filter λy=>decide (y≠x)):=by
 unfold oN x8;rw[List.filter_map]
 congr 1
 refine List.filter_congr λm _=> ?_;show decide ((Sum.inr m:z7)≠Sum.inr x)=decide (m≠x);by_cases e:m=x
 ·rw[e];simp
 ·rw[decide_eq_true (show m≠x from e),decide_eq_true (show(Sum.inr m:z7)≠Sum.inr x from λz=>e (Sum.inr.inj z))]
theorem zg0: ∀{ns ms:List Str},rP (x8 ms) (x8 ns)=x8 (ns.foldl vV ms)
 | [],ms=>rfl
 | n::ns,ms=>by
  show rP (wM (x8 ms) (.inr n) (.bl true)) (x8 ns)=_;rw[zg1,zg0];rfl
theorem zce {ms:List Str}{x y:Str} :y∈vV ms x↔y∈ms∨y=x:=by
 unfold vV
 split
 ·next h=>exact⟨.inl,λz=>z.elim id λe=>e▸h⟩
 ·rw[List.mem_append,List.mem_singleton]
theorem zcf {ms:List Str}{x:Str}(h:ms.Nodup):(vV ms x).Nodup:=by
 unfold vV
 split
 ·exact h
 ·next hx=>exact List.nodup_append.mpr ⟨h,by simp,λa ha b hb e=>hx (by rw[List.mem_singleton.mp hb]at e;exact e▸ha)⟩
theorem zcd {ms:List Str}{x:Str} :(vV ms x).length<=ms.length+1:=by unfold vV;split <;> simp
theorem zcb {y:Str} : ∀{ns ms:List Str},y∈ns.foldl vV ms↔y∈ms∨y∈ns
 | [],ms=>by simp
 | n::ns,ms=>by rw[List.foldl_cons,zcb,zce,List.mem_cons,or_assoc]
theorem zcc: ∀{ns ms:List Str},ms.Nodup->(ns.foldl vV ms).Nodup
 | [],_,h=>h
 | n::ns,ms,h=>by rw[List.foldl_cons];exact zcc (zcf h)
theorem zca: ∀{ns ms:List Str},(ns.foldl vV ms).length<=ms.length+ns.length
 | [],_=>Nat.le_refl _
 | n::ns,ms=>by rw[List.foldl_cons,List.length_cons];have:=zca (ns:=ns) (ms:=vV ms n);have:=zcd (ms:=ms) (x:=n);omega
theorem zbq {ms:List Str} :(x8 ms).length=ms.length:=by unfold x8;rw[List.length_map]
section
variable {en:Str->List Str} {rs:List Rh} {ms ns:List Str} {x:Str}
theorem uA.split (h:uA ms (yR en rs)):uA (vV ms x) (yR en (rs++ [.split x])):=⟨zcf h.1,λy=>by
 rw[zce,oQ,h.2 y];show _↔y∈yR en rs++ [x];rw[List.mem_append,List.mem_singleton]⟩
theorem uA.join (h:uA ms (yR en rs))(hn:uA ns (en x)):uA (ns.foldl vV (ms.filter λy=>decide (y≠x))) (yR en (rs++ [.join x])):=⟨zcc (h.1.sublist (List.filter_sublist ..)),λy=>by
 rw[zcb,oQ,hn.2 y,List.mem_filter,h.2 y];show _↔y∈(yR en rs).filter _++en x;rw[List.mem_append,List.mem_filter]⟩
theorem uA.pl {r:Rw}(h:uA ms (yR en rs)):uA ms (yR en (rs++ [.pl r])):=by rw[oQ];exact h
end
theorem zfn (r:Rw): ∃(k:Str) (more:List PV),(Rh.pl r).pv= .tup (.str k::more)/\(k==("split" :Str))=false/\(k==("join" :Str))=false:=by
 obtain⟨k,x,more,e,_⟩:=zfB (.pl r);have h1:=aS (kind:= "split") (f:=Rh.sp) (.inl ⟨rfl,rfl⟩) (.pl r);have h2:=aS (kind:= "join") (f:=Rh.jn) (.inr ⟨rfl,rfl⟩) (.pl r);rw[e]at h1 h2;refine⟨k,x::more,e,?_,?_⟩
 ·cases hb:(k==("split" :Str))with
  | false=>rfl
  | true=>have:(if k==("split" :Str)then some x else none)=none:=h1;rw[hb]at this;cases this
 ·cases hb:(k==("join" :Str))with
  | false=>rfl
  | true=>have:(if k==("join" :Str)then some x else none)=none:=h2;rw[hb]at this;cases this
def zbb:y6:=λxs st Q=> ∃(rs:List Rh) (en:Str->List Str) (ev:PV) (kvs:List (z7×PV)),xs= [.tup (rs.map Rh.pv),ev]/\(ev= .dct kvs∨∃i:Nat,ev= .obj i/\st[i]?=some (.dct kvs))/\rs.length<=30/\HV en rs/\(∀y,Rh.join y∈rs->∃ns,zR kvs (.inr y)=some (.dct (x8 ns))/\uA ns (en y)/\ns.length<=1000)/\∀ms,uA ms (yR en rs)->Q (.dct (x8 ms)) st
theorem zeE: ∀{b a:List (z7×PV)},((a++b).map (·.1)).Nodup->rP a b=a++b
 | [],a,_=>by rw[List.append_nil];rfl
 | q::b,a,hn=>by
  have e:a++q::b=(a++ [q])++b:=by simp
  rw[e]at hn;show rP (wM a q.1 q.2) b=_;rw[n5 λz=> ?_,zeE hn,e];rw[List.map_append]at hn;have h1:=(List.nodup_append.mp hn).1;rw[List.map_append]at h1;exact(List.nodup_append.mp h1).2.2 _ z _ (List.mem_singleton.mpr rfl) rfl
theorem zb3 {k k':z7}{v:PV} : ∀{kvs:List (z7×PV)},zR (wM kvs k v) k'=if k=k' then some v else zR kvs k'
 | []=>by
  show zR [(k,v)] k'=_;by_cases e:k=k'
  ·subst e;rw[vS,if_pos rfl]
  ·rw[w6 (decide_eq_false e),if_neg e]
 | q::r=>by
  obtain⟨a,b⟩:=q;have ih:=zb3 (k:=k) (k':=k') (v:=v) (kvs:=r);unfold wM at ih⊢
  by_cases ea:a=k
  ·subst ea
   rw[if_pos (by simp)];rw[List.map_cons,if_pos rfl];by_cases e:a=k'
   ·subst e;rw[vS,if_pos rfl]
   ·rw[w6 (decide_eq_false e),if_neg e,w6 (decide_eq_false e)]
    rw[if_neg e]at ih
    split at ih
    ·exact ih
    ·next h=>
     have:r.map (λkv=>if kv.1=a then(kv.1,v)else kv)=r:=by
      refine(List.map_congr_left (g:=id) λkv hk=> ?_).trans (List.map_id r);rw[if_neg λz=>h (List.any_eq_true.mpr ⟨kv,hk,decide_eq_true z⟩)];rfl
     rw[this]
  ·have ec:(((a,b)::r).any λkv=>decide (kv.1=k))=(r.any λkv=>decide (kv.1=k)):=by rw[List.any_cons,decide_eq_false ea,Bool.false_or]
   rw[ec];by_cases e:a=k'
   ·subst e
    have hk:k≠a:=λz=>ea z.symm
    split
    ·rw[List.map_cons,if_neg ea,vS,vS]
    ·rw[List.cons_append,vS,vS]
   ·rw[w6 (decide_eq_false e),<- ih]
    split
    ·rw[List.map_cons,if_neg ea,w6 (decide_eq_false e)]
    ·rw[List.cons_append,w6 (decide_eq_false e)]
theorem zm_ {kvs:List (z7×PV)}{k:z7}{v:PV} :(wM kvs k v).length<=kvs.length+1:=by
 unfold wM;split <;> simp
def rV (hs:List Hd):List (z7×PV):=hs.map λh=>(.inr h.1,.tup (h.2.map Rh.pv))
theorem znr {hs:List Hd} :(rV hs).map (·.1)=(hs.map (·.1)).map Sum.inr:=by unfold rV;rw[List.map_map,List.map_map];rfl
theorem zjJ {l:List Str}(h:l.Nodup):(l.map (Sum.inr:Str->z7)).Nodup:=by
 refine List.pairwise_iff_getElem.mpr λi j hi hj hij e=> ?_;rw[List.getElem_map,List.getElem_map]at e;rw[List.length_map]at hi hj;exact List.pairwise_iff_getElem.mp h i j hi hj hij (Sum.inr.inj e)
theorem zfG {h:Hd} : ∀{hs:List Hd},(hs.map (·.1)).Nodup->h∈hs->zR (rV hs) (.inr h.1)=some (.tup (h.2.map Rh.pv))
 | q::hs,hn,hm=>by
  rw[List.map_cons,List.nodup_cons]at hn;show zR ((.inr q.1,.tup (q.2.map Rh.pv))::rV hs) (.inr h.1)=_;rcases List.mem_cons.mp hm with rfl | hm
  ·exact vS
  ·rw[w6 (decide_eq_false λz=>hn.1 (by rw[Sum.inr.inj z];exact List.mem_map_of_mem hm))]
   exact zfG hn.2 hm
section
variable {g:Str->List Str} {names:List Str} {rk:Str->Nat}
def o5 (g:Str->List Str)(w:Str):List Str:=(g w).flatMap (yZ g 8)
theorem zdY {α β:Type}{f:α->List β}{w:β} : ∀{l:List α} {A B:List β},l.flatMap f=A++w::B->∃m∈l,∃A1 B1 B2,f m=A1++w::B1/\B=B1++B2
 | [],A,B,h=>by cases A <;> cases h
 | x::l,A,B,h=>by
  rw[List.flatMap_cons]at h;rcases sZ h with⟨B',h1,h2⟩ | ⟨A',_,h2⟩
  ·exact⟨x,List.mem_cons_self ..,A,B',_,h1,h2⟩
  ·obtain⟨m,hm,r⟩:=zdY h2
   exact⟨m,List.mem_cons_of_mem _ hm,r⟩
theorem jP (R:sJ g names rk)(h7: ∀n∈names,rk n<=7): ∀{d:Nat} {n:Str},n∈names->rk n < d->∀{A B:List Str} {w:Str},yZ g d n=A++w::B->w∈names/\∀x∈o5 g w,x∈B
 | 0,n,_,h,_,_,_,_=>by omega
 | d+1,n,hn,h,A,B,w,e=>by
  have e':n::(g n).flatMap (yZ g d)=A++w::B:=e;cases A with
  | nil=>
   obtain⟨e1,e2⟩:=List.cons.inj (show n::(g n).flatMap (yZ g d)=w::B from e');subst e1 e2;refine⟨hn,λx hx=> ?_⟩;unfold o5 at hx
   rwa [pB λm hm=>zau R (R.sub n hn m hm) (show rk m < 8 by have:=h7 m (R.sub n hn m hm);omega) (show rk m < d by have:=R.down n hn m hm;omega)]at hx
  | cons q A=>
   have e2:=(List.cons.inj (show n::(g n).flatMap (yZ g d)=q::(A++w::B)from e')).2;obtain⟨m,hm,A1,B1,B2,e3,rfl⟩:=zdY e2;obtain⟨h1,h2⟩:=jP R h7 (R.sub n hn m hm) (show rk m < d by have:=R.down n hn m hm;omega) e3;exact⟨h1,λx hx=>List.mem_append_left _ (h2 x hx)⟩
theorem znK (R:sJ g names rk)(h7: ∀n∈names,rk n<=7){w x y:Str}(hw:w∈names)(h1:y∈o5 g w)(h2:x∈o5 g y):x∈o5 g w:=by
 obtain⟨m,hm,hy⟩:=List.mem_flatMap.mp h1;obtain⟨A,B,e⟩:=List.append_of_mem hy;have hmn:=R.sub w hw m hm;have:=(jP R h7 hmn (show rk m < 8 by have:=h7 m hmn;omega) e).2 x h2;exact List.mem_flatMap.mpr ⟨m,hm,by rw[e];exact List.mem_append_right _ (List.mem_cons_of_mem _ this)⟩
theorem zgl (R:sJ g names rk)(h7: ∀n∈names,rk n<=7){w x:Str}(hw:w∈names)(h:x∈g w):x∈o5 g w:=by
 have hx:=R.sub w hw x h;refine List.mem_flatMap.mpr ⟨x,h,?_⟩;rw[jO R hx (show rk x < 8 by have:=h7 x hx;omega)];exact List.mem_cons_self ..
end
section
variable {hs:List Hd} {en:Str->List Str} {rk rj:Str->Nat}
theorem wG.below (G:wG hs en rj)(hn:(hs.map (·.1)).Nodup)(R:sJ (v0 Rh.sp hs) (hs.map (·.1)) rk)(h7: ∀n∈hs.map (·.1),rk n<=7){x:Str} : ∀(m:Nat) (h:Hd),rj h.1<=m->h∈hs->∀{x:Str} (n:Nat),x∈yR en (h.2.take n)->x∈o5 (v0 Rh.sp hs) h.1:=by
 intro m
 induction m with
 | zero | succ m ih=>
  intro h hr hh x n;have hhn:h.1∈hs.map (·.1):=List.mem_map_of_mem hh
  induction n using Nat.strongRecOn generalizing x with
  | ind n ihn=>
   intro hx;obtain⟨i,hi,⟨r,h1,h2⟩,_⟩:=pC.mp hx;have hm:=List.mem_iff_getElem?.mpr ⟨i,h1⟩;rcases h2 with rfl | ⟨y,rfl,h2⟩
   ·exact zgl R h7 hhn (by rw[pF hn hh];exact List.mem_filterMap.mpr ⟨_,hm,rfl⟩)
   ·have hl:=G.jr h hh y hm
    have hy:=(G.je y).mp (List.mem_flatMap.mpr ⟨h,hh,List.mem_filterMap.mpr ⟨_,hm,rfl⟩⟩);obtain⟨k,hk,rfl⟩:=List.mem_map.mp hy;have hk':=List.mem_of_mem_tail hk;obtain⟨hil,e'⟩:=List.getElem?_eq_some_iff.mp h1;have hsp:h.2=h.2.take i++ .join k.1::h.2.drop (i+1):=by rw[<- e',List.getElem_cons_drop,List.take_append_drop]
    have hyb:=ihn i hi ((G.hb h hh).2 _ _ _ hsp)
    first
    | (exfalso;omega)
    | (refine znK R h7 hhn hyb (ih k (by omega) hk' k.2.length ?_)
       rw[List.take_length,(G.hb k hk').1];exact h2)
theorem wG.reach (G:wG hs en rj)(hn:(hs.map (·.1)).Nodup)(R:sJ (v0 Rh.sp hs) (hs.map (·.1)) rk)(h7: ∀n∈hs.map (·.1),rk n<=7){h0:Hd}{t:List Hd}(e0:hs=h0::t): ∀(m:Nat) (x:Str),x∈hs.map (·.1)->7 - rk x<=m->x∈yZ (v0 Rh.sp hs) 8 h0.1:=by
 have h0n:h0.1∈hs.map (·.1):=by rw[e0];exact List.mem_cons_self ..
 have hr0:h0.1∈yZ (v0 Rh.sp hs) 8 h0.1:=by rw[jO R h0n (show rk h0.1 < 8 by have:=h7 _ h0n;omega)];exact List.mem_cons_self ..
 intro m
 induction m with
 | zero | succ m ih=>
  intro x hx hm;by_cases ht:x∈hs.tail.map (·.1)
  ·obtain⟨k,hk,i,e⟩:=G.isplit ht
   have hkn:k.1∈hs.map (·.1):=List.mem_map_of_mem hk;have hkid:x∈v0 Rh.sp hs k.1:=by rw[pF hn hk];exact List.mem_filterMap.mpr ⟨_,List.mem_iff_getElem?.mpr ⟨i,e⟩,rfl⟩
   have hd:=R.down _ hkn x hkid;have hk7:=h7 _ hkn
   first
   | (exfalso;omega)
   | (obtain⟨A,B,e2⟩:=List.append_of_mem (ih k.1 hkn (by omega))
      have:=(jP R h7 h0n (show rk h0.1 < 8 by have:=h7 _ h0n;omega) e2).2 x (zgl R h7 hkn hkid);rw[e2];exact List.mem_append_right _ (List.mem_cons_of_mem _ this))
  ·rw[e0]at hx ht
   rcases List.mem_cons.mp hx with e | e
   ·rw[e];exact hr0
   ·exact absurd e ht
end
def iU (kvs:List (z7×PV))(en:Str->List Str)(w:Str):Prop:= ∃ns,zR kvs (.inr w)=some (.dct (x8 ns))/\uA ns (en w)/\ns.length<=1000
def zaZ:y6:=λxs st Q=> ∃(sh:List Sn) (h0:Hd) (hs:List Hd) (en:Str->List Str) (rj:Str->Nat),xs= [w5 sh (h0::hs)]/\nU sh (h0::hs)/\wG (h0::hs) en rj/\∀kvs,(∀w∈(h0::hs).map (·.1),iU kvs en w)->Q (.dct kvs) st
def j8 (ms:List Str):PV->Option PV:=λx=>match x with | .tup (.str n::_)=>if n∈ms then some (.str n)else none | _=>none
theorem zem {ms:List Str} : ∀{hs:List Hd},(hs.map yJ).filterMap (j8 ms)=((hs.map (·.1)).filter λn=>decide (n∈ms)).map PV.str
 | []=>rfl
 | h::hs=>by
  rw[List.map_cons,List.filterMap_cons,List.map_cons,List.filter_cons,zem];have hf:j8 ms (yJ h)=if h.1∈ms then some (.str h.1)else none:=rfl
  rw[hf];by_cases e:h.1∈ms
  ·rw[if_pos e,decide_eq_true e];rfl
  ·rw[if_neg e,decide_eq_false e];rfl
def zfW:y6:=λxs st Q=> ∃(sh:List Sn) (hs:List Hd) (ms:List Str),xs= [w5 sh hs,.dct (x8 ms)]/\Q (.tup (((hs.map (·.1)).filter λn=>decide (n∈ms)).map PV.str)) st
theorem HV.take {en:Str->List Str}{rs:List Rh}(h:HV en rs)(n:Nat):HV en (rs.take n):=λA x B e=>by
 refine h A x (B++rs.drop n) ?_
 conv=>lhs;rw[<- List.take_append_drop n rs,e]
 simp
def pD (hs:List Hd)(l:List Str):PV:= .tup (((hs.map (·.1)).filter λn=>decide (n∈l)).map PV.str)
def zba:y6:=λxs st Q=> ∃(sh:List Sn) (h0:Hd) (hs:List Hd) (en:Str->List Str) (rj:Str->Nat) (h:Hd) (n:Nat),xs= [w5 sh (h0::hs),.str h.1,.int (n:Int)]/\nU sh (h0::hs)/\wG (h0::hs) en rj/\h∈h0::hs/\Q (pD (h0::hs) (yR en (h.2.take n))) st
def vB (p:Hd×Nat×Nat):PV:= .tup [.str p.1.1,.int (p.2.1:Int),.int (p.2.2:Int)]
def uU (h:Hd)(f:Nat):PV:= .tup [.str h.1,.int (f:Int)]
def zbe:y6:=λxs st Q=> ∃(sh:List Sn) (h0:Hd) (hs:List Hd) (en:Str->List Str) (rj:Str->Nat) (x:Str),xs= [w5 sh (h0::hs),.str x]/\nU sh (h0::hs)/\wG (h0::hs) en rj/\x∈hs.map (·.1)/\∀(W:List (Hd×Nat×Nat)) (h:Hd) (f l:Nat),uM (h0::hs) x W h f->W.length<=7->f<=l->h.2[l]?=some (.join x)->(∀j,f<=j->j < l->h.2[j]?≠some (.join x))->Q (.lst ((W++ [(h,f,l)]).map vB)) st
def Rh.isJ (H:Str):Rh->Bool | .join n=>n==H | _=>false
theorem jA {H:Str}{r:Rh} :r.isJ H=true↔r= .join H:=by
 cases r with
 | join n=>show(n==H)=true↔_;rw[beq_iff_eq];exact⟨λe=>by rw[e],λe=>by cases e;rfl⟩
 | split n=>exact⟨λe=>(by cases e),λe=>by cases e⟩
 | pl n=>exact⟨λe=>(by cases e),λe=>by cases e⟩
theorem zcM {r:Rh}{H:Str} :zX r.pv (.tup [.str "join",.str H])=r.isJ H:=by
 have e2: ∀{k:Str} {more:List PV},(k==("join" :Str))=false->zX (.tup (.str k::more)) (.tup [.str "join",.str H])=false:=λ{k more} hk=>by
  rw[show zX (.tup (.str k::more)) (.tup [.str "join",.str H])=eqPs (.str k::more) [.str "join",.str H] by unfold zX;rfl];unfold eqPs;rw[rJ.2.1,hk];rfl
 cases r with
 | join n=>
  show zX (.tup [.str "join",.str n]) (.tup [.str "join",.str H])=(n==H);rw[show zX (.tup [.str "join",.str n]) (.tup [.str "join",.str H])=eqPs [.str "join",.str n] [.str "join",.str H] by unfold zX;rfl];simp[eqPs,rJ]
 | split n=>exact e2 (by decide+kernel)
 | pl r=>
  obtain⟨k,more,e,_,h2⟩:=zfn r;rw[e];exact e2 h2
theorem zer {H:Str}{r:Rh} :r.is H=true↔r= .split H:=by
 cases r with
 | split n=>show(n==H)=true↔_;rw[beq_iff_eq];exact⟨λe=>by rw[e],λe=>by cases e;rfl⟩
 | join n=>exact⟨λe=>(by cases e),λe=>by cases e⟩
 | pl n=>exact⟨λe=>(by cases e),λe=>by cases e⟩
def tV (rs:List Rh)(x:Str):PV->Option PV:=λy=>match y with | .int i=>(match rs[i.toNat]? with | some r=>if r.isJ x then some (.int i)else none | none=>none) | _=>none
theorem znn {a:Int}{n:Nat} :xM a (n+1)= .int a::xM (a+1) n:=by
 unfold xM;rw[List.range_succ_eq_map,List.map_cons,List.map_map]
 congr 1
 ·show PV.int (a+((0:Nat):Int))=_;rw[show a+((0:Nat):Int)=a by omega]
 ·refine List.map_congr_left λi _=> ?_
  show PV.int (a+((i+1:Nat):Int))=PV.int (a+1+(i:Int))
  congr 1;omega
theorem ze1 {rs:List Rh}{x:Str} : ∀{c a:Nat},((xM (a:Int) c).filterMap (tV rs x)= []/\∀j,a<=j->j < a+c->rs[j]?≠some (.join x))∨∃(l:Nat) (r:List PV),(xM (a:Int) c).filterMap (tV rs x)= .int (l:Int)::r/\a<=l/\rs[l]?=some (.join x)/\∀j,a<=j->j < l->rs[j]?≠some (.join x)
 | 0,a=> .inl ⟨rfl,λj h1 h2=>by omega⟩
 | c+1,a=>by
  rw[znn,List.filterMap_cons,show(a:Int)+1=((a+1:Nat):Int) by omega];have ej:tV rs x (.int (a:Int))=match rs[a]? with | some r=>if r.isJ x then some (.int (a:Int))else none | none=>none:=rfl
  have no:rs[a]?≠some (.join x)->tV rs x (.int (a:Int))=none:=λhn=>by
   rw[ej];cases hr:rs[a]? with
   | none=>rfl
   | some r=>
    have:r.isJ x=false:=by
     cases hb:r.isJ x with
     | false=>rfl
     | true=>exact absurd (by rw[hr,jA.mp hb]) hn
    show(if r.isJ x=true then _ else _)=_;rw[this];rfl
  by_cases hj:rs[a]?=some (.join x)
  ·refine .inr ⟨a,(xM ((a+1:Nat):Int) c).filterMap (tV rs x),?_,Nat.le_refl _,hj,λj h1 h2=>by omega⟩
   have:tV rs x (.int (a:Int))=some (.int (a:Int)):=by
    rw[ej,hj];show(if Rh.isJ x (.join x)=true then _ else _)=_;rw[jA.mpr rfl];rfl
   rw[this]
  ·rw[no hj]
   rcases ze1 (rs:=rs) (x:=x) (c:=c) (a:=a+1)with⟨h1,h2⟩ | ⟨l,r,h1,h2,h3,h4⟩
   ·refine .inl ⟨h1,λj q1 q2=> ?_⟩
    by_cases e:j=a
    ·rw[e];exact hj
    ·exact h2 j (by omega) (by omega)
   ·refine .inr ⟨l,r,h1,by omega,h3,λj q1 q2=> ?_⟩
    by_cases e:j=a
    ·rw[e];exact hj
    ·exact h4 j (by omega) q2
def lA (n:Str):PV->Option PV:=λy=>match y with | .tup [.str m,v]=>if m==n then some v else none | _=>none
theorem zfD {h:Hd} : ∀{hs:List Hd},(hs.map (·.1)).Nodup->h∈hs->(hs.map yJ).filterMap (lA h.1)= [.tup (h.2.map Rh.pv)]
 | q::hs,hn,hm=>by
  rw[List.map_cons,List.nodup_cons]at hn;rw[List.map_cons,List.filterMap_cons];have eq:lA h.1 (yJ q)=if q.1==h.1 then some (.tup (q.2.map Rh.pv))else none:=rfl
  rw[eq];have none': ∀{l:List Hd},h.1∉l.map (·.1)->(l.map yJ).filterMap (lA h.1)= []:=λ{l} hl=>by
   rw[List.filterMap_eq_nil_iff];intro y hy;obtain⟨k,hk,rfl⟩:=List.mem_map.mp hy;show(if k.1==h.1 then some (PV.tup (k.2.map Rh.pv))else none)=none;rw[show(k.1==h.1)=false by simp;exact λz=>hl (List.mem_map.mpr ⟨k,hk,z⟩)];rfl
  rcases List.mem_cons.mp hm with rfl | hm
  ·rw[beq_self_eq_true]
   show _::_=_;rw[none' hn.1]
  ·rw[show(q.1==h.1)=false by simp;exact λz=>hn.1 (z▸List.mem_map_of_mem hm)]
   exact zfD hn.2 hm
theorem zci {xs:List PV}{z:PV} :atI (xs++ [z]) (-1)=some z:=by
 unfold atI xT;simp;rw[if_pos (by omega)];show(xs++ [z])[(-1+((xs.length:Int)+1)).toNat]?=_;rw[show(-1+((xs.length:Int)+1)).toNat=xs.length by omega];simp
def o6 (k:Hd)(n:Str):PV->Option PV:=λy=>match y with | .int i=>(match k.2[i.toNat]? with | some r=>if r.isJ n then some (.tup [.str k.1,.int (i+1)])else none | none=>none) | _=>none
theorem zbp {k:Hd}{n:Str}{j:Nat}{r:Rh}(hr:k.2[j]?=some r):o6 k n (.int (0+(j:Int)))=if r.isJ n then some (uU k (j+1))else none:=by
 unfold o6 uU;dsimp only;rw[show(0+(j:Int)).toNat=j by omega,hr,show(0+(j:Int)+1)=((j+1:Nat):Int) by omega]
theorem zoo {k:Hd}{n:Str}{t:PV}(h:t∈(xM 0 k.2.length).filterMap (o6 k n)): ∃i:Nat,k.2[i]?=some (Rh.join n)/\t=uU k (i+1):=by
 obtain⟨y,hy,e⟩:=List.mem_filterMap.mp h;obtain⟨j,hj⟩:=List.mem_iff_getElem?.mp hy;obtain⟨hl,rfl⟩:=tO hj;obtain⟨r,hr⟩: ∃r,k.2[j]?=some r:=⟨_,List.getElem?_eq_getElem hl⟩;rw[zbp hr]at e
 split at e
 ·next hb=>exact⟨j,by rw[hr,jA.mp hb],(Option.some.inj e).symm⟩
 ·cases e
theorem zon {k:Hd}{n:Str}{i:Nat}(h:k.2[i]?=some (Rh.join n)):(xM 0 k.2.length).filterMap (o6 k n)≠ []:=λz=>by
 have hl:=(List.getElem?_eq_some_iff.mp h).1;have hm:PV.int (0+(i:Int))∈xM 0 k.2.length:=by unfold xM;exact List.mem_map.mpr ⟨i,List.mem_range.mpr hl,rfl⟩
 have:=List.filterMap_eq_nil_iff.mp z _ hm;rw[zbp h,jA.mpr rfl]at this;cases this
abbrev Wy:=Str×List (Hd×Nat×Nat)
def wJ (L:List Wy):List (z7×PV):=L.map λp=>(.inr p.1,.lst (p.2.map vB))
def wH (kh:Str)(n:Nat)(W:List (Hd×Nat×Nat)):Bool:=W.any λp=>kh==p.1.1&&(decide (p.2.1<=n)&&decide (n<=p.2.2))
def lT (L:List Wy)(s:z4):Prop:=s= [.dct (wJ L)]∨∃o,s= [.fd o (wJ L)]
def zfS:y6:=λxs st Q=> ∃(pg:PV) (L:List Wy) (kh:Str) (n:Nat),xs= [pg,.obj 0,.str kh,.int (n:Int)]/\lT L st/\(L.map (·.1)).Nodup/\L.length<=100/\∀s',lT L s'->Q (.tup (((L.filter λp=>wH kh n p.2).map (·.1)).map PV.str)) s'
theorem zb7 {p:Wy} : ∀{L:List Wy},(L.map (·.1)).Nodup->p∈L->zR (wJ L) (.inr p.1)=some (.lst (p.2.map vB))
 | q::L,hn,hm=>by
  rw[List.map_cons,List.nodup_cons]at hn;show zR ((.inr q.1,.lst (q.2.map vB))::wJ L) (.inr p.1)=_;rcases List.mem_cons.mp hm with rfl | hm
  ·exact vS
  ·rw[w6 (decide_eq_false λz=>hn.1 (by rw[Sum.inr.inj z];exact List.mem_map_of_mem hm))]
   exact zb7 hn.2 hm
def mF (kh:Str)(n:Nat):PV->Option PV:=λy=>match y with | .tup [.str o,.int a,.int b]=>some (.bl (kh==o&&(decide (a<=(n:Int))&&decide ((n:Int)<=b)))) | _=>none
theorem fC {kh:Str}{n:Nat}{p:Hd×Nat×Nat} :mF kh n (vB p)=some (.bl (kh==p.1.1&&(decide (p.2.1<=n)&&decide (n<=p.2.2)))):=by
 unfold vB mF;dsimp only;rw[show decide ((p.2.1:Int)<=(n:Int))=decide (p.2.1<=n)from decide_eq_decide.mpr Int.ofNat_le,show decide ((n:Int)<=(p.2.2:Int))=decide (n<=p.2.2)from decide_eq_decide.mpr Int.ofNat_le]
theorem fD {kh:Str}{n:Nat} : ∀{W:List (Hd×Nat×Nat)},(W.map vB).filterMap (mF kh n)=(W.map λp=>kh==p.1.1&&(decide (p.2.1<=n)&&decide (n<=p.2.2))).map PV.bl
 | []=>rfl
 | p::W=>by rw[List.map_cons,List.filterMap_cons,fC,List.map_cons,List.map_cons,fD]
theorem zaa: ∀{bs:List Bool},vO (.bl true) (bs.map PV.bl)=bs.any id/\(bs.map PV.bl).all uD=true
 | []=>⟨rfl,rfl⟩
 | b::bs=>by
  have ih:=zaa (bs:=bs);unfold vO at ih⊢
  rw[List.map_cons,List.any_cons,List.all_cons,List.any_cons,ih.1,ih.2];refine⟨?_,rfl⟩
  congr 1
  cases b <;> (simp[rJ];try decide)
theorem ze4 {α:Type}{e:List α}(h:e.length=3): ∃a b c,e= [a,b,c]:=by
 match e,h with
 | [a,b,c],_=>exact⟨a,b,c,rfl⟩
def lH:y6:=λxs st Q=> ∃ns:List Int,xs= [.lst (ns.map PV.int)]/\st= []/\ns.length<=63/\∀s,Q (.bl true) s
theorem zj_ {all:List Hd}(hn:(all.map (·.1)).Nodup){p q:Hd}(hp:p∈all)(hq:q∈all)(e:p.1=q.1):p=q:=by
 obtain⟨i,hi⟩:=List.mem_iff_getElem?.mp hp;obtain⟨j,hj⟩:=List.mem_iff_getElem?.mp hq;have hil:=(List.getElem?_eq_some_iff.mp hi).1;have:=(List.getElem?_inj (by rw[List.length_map];exact hil) hn).mp (show(all.map (·.1))[i]?=(all.map (·.1))[j]? by rw[List.getElem?_map,List.getElem?_map,hi,hj];exact congrArg some e);subst this;exact Option.some.inj (hi.symm.trans hj)
def nK (all:List Hd)(en:Str->List Str)(p:Wy):Prop:= ∀k∈all,∀n,n<=k.2.length->(p.1∈yR en (k.2.take n)↔wH k.1 n p.2=true)
theorem zix {all:List Hd}{en:Str->List Str}{rj:Str->Nat}(G:wG all en rj)(hn:(all.map (·.1)).Nodup){x:Str}{W:List (Hd×Nat×Nat)}{h:Hd}{f l:Nat}(w:uM all x W h f)(hf:f<=l)(hl:h.2[l]?=some (.join x))(hm: ∀j,f<=j->j < l->h.2[j]?≠some (.join x)):nK all en (x,W++ [(h,f,l)]):=λk hk n hn'=>by
 refine(w.done G hf hl hm hk hn').trans ?_;have wk:=w.k G;have hin: ∀p∈W++ [(h,f,l)],p.1∈all:=λp hp=>by
  rcases List.mem_append.mp hp with hp | hp
  ·exact(wk.all p hp).1
  ·rw[List.mem_singleton.mp hp];exact wk.hh
 unfold wH;rw[List.any_eq_true];constructor
 ·rintro⟨p,hp,rfl,h1,h2⟩
  exact⟨p,hp,by rw[beq_self_eq_true,decide_eq_true h1,decide_eq_true h2];rfl⟩
 ·rintro⟨p,hp,e⟩
  rw[Bool.and_eq_true,Bool.and_eq_true]at e;exact⟨p,hp,(zj_ hn hk (hin p hp) (eq_of_beq e.1)).symm,of_decide_eq_true e.2.1,of_decide_eq_true e.2.2⟩
theorem zi9 {h0:Hd}{hs:List Hd}{en:Str->List Str}{rj:Str->Nat}(G:wG (h0::hs) en rj)(hn:((h0::hs).map (·.1)).Nodup){L:List Wy}(hL:L.map (·.1)=hs.map (·.1))(hc: ∀p∈L,nK (h0::hs) en p){k:Hd}(hk:k∈h0::hs){n:Nat}(hn':n<=k.2.length):
  PV.tup (((L.filter λp=>wH k.1 n p.2).map (·.1)).map PV.str)=pD (h0::hs) (yR en (k.2.take n)):=by
 unfold pD
 congr 2
 rw[List.map_cons,List.filter_cons,if_neg,<- hL,List.filter_map]
 ·refine congrArg _ (List.filter_congr λp hp=> ?_)
  have:=hc p hp k hk n hn';show wH k.1 n p.2=decide (p.1∈yR en (k.2.take n));by_cases e:p.1∈yR en (k.2.take n)
  ·rw[decide_eq_true e];exact this.mp e
  ·rw[decide_eq_false e]
   cases hb:wH k.1 n p.2 with
   | false=>rfl
   | true=>exact absurd (this.mpr hb) e
 ·intro z
  have:=G.tail hk (of_decide_eq_true z);rw[List.map_cons,List.nodup_cons]at hn;exact hn.1 this
theorem zoH {L:List Wy}{x:Str}{W:List (Hd×Nat×Nat)}(h:x∉L.map (·.1)):wM (wJ L) (.inr x) (.lst (W.map vB))=wJ (L++ [(x,W)]):=by
 rw[n5]
 ·unfold wJ;rw[List.map_append];rfl
 ·unfold wJ;rw[List.map_map];intro z
  obtain⟨p,hp,e⟩:=List.mem_map.mp z;exact h (List.mem_map.mpr ⟨p,hp,Sum.inr.inj e⟩)
def vA (p:Hd×Nat):PV:= .tup [.str p.1.1,.int (p.2:Int)]
theorem zcE: ∀X:List Str,dpts (X.map PV.str)<=1
 | []=>by simp[dpts]
 | x::X=>by
  have:=zcE X;rw[List.map_cons];simp only[dpts,zE];omega
section
variable {P:Program} {w:World} {K:Frag} {mg:Str->Option Value} {base:Heap}
theorem nd0:(["tuples","word","one"]:List Str).Nodup:=by decide+kernel
theorem zlm {f:Addr}{fd:FuncData}(M:Mo K mg)(F:yC K "first_called" "first_called" qT f fd):zP P w K mg base zQ 1 f fd ["tuples","word"] (zN K zfT):=by
 refine xV 0 F znu (λxs st Q h=>by obtain⟨l,S,s,rfl,_⟩:=h;rfl) ⟨_,λcdv A outer s H E hr=>(zM (yN (zG (zO hr) (qL (own:= ["one"]) (tI (fsc:=zS qT) (N:= ["tuples","word"]) (N':= ["tuples","word"]) rfl rfl (by decide+kernel)) rfl (vL (qv 0)) (λC s H fp pins=>(yF (i:=2) nd0 rfl (Or.inl rfl))) (λC s H fp pins=>pH (yE (yY hr) (zG (zO hr) (qv 2) z8 (λ_ _=>rfl)) (qv 1) (yB _))) (λC s H fp pins=>(qv 2))) z8 (λ_ _=>rfl)))),λxs st Q h=> ?_⟩;obtain⟨l,S,s,rfl,hn,hm,e,q⟩:=h
 try simp? only[true_and]
 refine tS (qG S) (λj x e hx he=> ?_) ?_
 ·obtain⟨⟨n,r⟩,hs',rfl⟩:=wW hx
  obtain⟨y,rfl⟩:=rN he;unfold yM
  try simp? only[true_and]
  by_cases hn:n=S
  ·have hb:(n==S)=true:=by rw[hn];exact beq_self_eq_true _
   have hf:qG S (yM (n,r))=some (yM (n,r)):=by show(if n==S then _ else _)=_;rw[hb];rfl
   try simp? only[hb]
   exact CP.yes (e':= [_]) hx hf rfl
  ·have hb:(n==S)=false:=by simpa using hn
   have hf:qG S (yM (n,r))=none:=by show(if n==S then _ else _)=_;rw[hb];rfl
   try simp? only[hb]
   exact CP.no (e':= [_]) hx hf rfl
 rw[zdU hn hm e]
 try simp? only[true_and]
 exact zcP rfl q
theorem zln {f:Addr}{fd:FuncData}(M:Mo K mg)(F:yC K "hand_named" "hand_named" pZ f fd):zP P w K mg base zQ 2 f fd ["program","H"] (zN K zfU):=by
 obtain⟨zjt,zjm,zbI,zhS,zk2⟩:=M.first_called;have zhp:zP P w K mg base zQ 1 zjt zjm ["tuples","word"] (zN K zfT):=zlm M zbI;refine xV 0 F znv (λxs st Q h=>by obtain⟨sh,hs,h,rfl,_⟩:=h;rfl) ⟨_,λcdv A outer s H E hr=>have hr1:y4 1 _:=hr.mono (by decide);(zM (yN (zK zhp hr1 (by rfl) zk2 zbI.kp zhS (z3 (zG (zO hr) (qv 0) z8 (λ_ _=>rfl)) (z3 (qv 1) z6))))),λxs st Q h=> ?_⟩;obtain⟨sh,hs,h,rfl,hn,hm,q⟩:=h;unfold w5
 try simp? only[true_and]
 exact⟨hs.map uO,h.1,uO h,by rw[List.map_map];rfl,by rw[zj9];exact hn,List.mem_map_of_mem hm,rfl,zcP rfl q⟩
theorem nd1:(["program","kind","named","hand","row"]:List Str).Nodup:=by decide+kernel
theorem zlt {f:Addr}{fd:FuncData}(M:Mo K mg)(F:yC K "named_by_hands" "named_by_hands" qX f fd):zP P w K mg base zQ 1 f fd ["program","kind"] (zN K zfZ):=by
 refine xV 0 F zaT (λxs st Q h=>by obtain⟨sh,hs,kind,f,rfl,_⟩:=h;rfl) ⟨_,λcdv A outer s H E hr=>(zD (zW (i:=2) zaT.nd rfl (Or.inl rfl) jU)
   (zD (vM PassesOwn.never rfl (vL (zG (zO hr) (qv 0) z8 (λ_ _=>rfl))) (yF (i:=3) zaT.nd rfl (Or.inl rfl)) (zM (vQ (qL (own:= ["row"]) (tI (fsc:=zS qX) (N:= ["program","kind","named","hand"]) (N':= ["program","kind","named","hand"]) rfl rfl (by decide+kernel)) rfl (vL (zG (zO hr) (qv 3) z8 (λ_ _=>rfl))) (λC s H fp pins=>(yF (i:=4) nd1 rfl (Or.inl rfl))) (λC s H fp pins=>pH (yE (yY hr) (zG (zO hr) (qv 4) z8 (λ_ _=>rfl)) (qv 1) (yB _))) (λC s H fp pins=>(zG (zO hr) (qv 4) z8 (λ_ _=>rfl)))) (sW hr (qv 2) (zG (zO hr) (qv 3) z8 (λ_ _=>rfl))))))
   (zM (yN (qv 2))))),λxs st Q h=> ?_⟩
 obtain⟨sh,hs,kind,f,rfl,hf,hn,hl,q⟩:=h;refine zC ?_
 try simp? only[true_and]
 refine zC ?_;unfold w5
 try simp? only[true_and]
 refine wZ (λk env s=> ∃v:Option PV,env= [some (w5 sh hs),some (.str kind),some (.obj st.length),v]/\s=st++ [.dct (tK f (hs.take k))]) ⟨none,rfl,rfl⟩ ?_ ?_
 ·rintro k x env s hx ⟨v,rfl,rfl⟩
  obtain⟨h,hh,rfl⟩:=wW hx;have hnew:(Sum.inr h.1:z7)∉(tK f (hs.take k)).map (·.1):=by
   unfold tK;rw[List.map_map];intro z;obtain⟨h',hm',e⟩:=List.mem_map.mp z;obtain⟨i,hi⟩:=List.mem_iff_getElem?.mp hm';have hik:i < k:=by have:=(List.getElem?_eq_some_iff.mp hi).1;rw[List.length_take]at this;omega
   rw[List.getElem?_take_of_lt hik]at hi;have e1:h'.1=h.1:=Sum.inr.inj e;have:=(List.getElem?_inj (i:=i) (j:=k) (l:=hs.map (·.1)) (by rw[List.length_map];exact(List.getElem?_eq_some_iff.mp hi).1) hn).mp (by rw[List.getElem?_map,List.getElem?_map,hi,hh,Option.map_some,Option.map_some,e1]);omega
  have hkl:(tK f (hs.take k)).length<=1000:=by unfold tK;rw[List.length_map,List.length_take];omega
  unfold yJ yM uO
  try simp? only[true_and]
  refine tS (oO kind) (λj y e hy he=> ?_) ?_
  ·obtain⟨r,hr,rfl⟩:=wW hy
   obtain⟨y1,rfl⟩:=rN he;obtain⟨k1,x1,more,e1,ex⟩:=zfB r;have hfk:oO kind r.pv=if k1==kind then some x1 else none:=by rw[e1];rfl
   rw[e1]at hy hfk⊢
   try simp? only[true_and]
   cases hb:(k1==kind)with
   | true=>
    rw[hb]at hfk
    try simp? only[true_and]
    exact⟨ex,CP.yes (e':= [_]) hy hfk rfl⟩
   | false=>
    rw[hb]at hfk
    try simp? only[true_and]
    exact CP.no (e':= [_]) hy hfk rfl
  ·rw[aT hf]
   try simp? only[true_and]
   exact⟨Nat.lt_of_le_of_lt hkl (by decide),_,rfl,by rw[n5 hnew,sD hh];unfold tK;rw[List.map_append];rfl⟩
 ·rintro env s ⟨v,rfl,rfl⟩
  rw[List.length_map,List.take_of_length_le (Nat.le_refl _)]
  try simp? only[true_and]
  exact q
theorem nd2:(["program","splits","order","waiting","word","hand"]:List Str).Nodup:=by decide+kernel
theorem zlr {f:Addr}{fd:FuncData}(M:Mo K mg)(F:yC K "in_split_order" "in_split_order" qW f fd):zP P w K mg base zQ 2 f fd ["program"] (zN K zbc):=by
 obtain⟨zj1,zjs,zbO,zhY,zk9⟩:=M.named_by_hands;have zhu:zP P w K mg base zQ 1 zj1 zjs ["program","kind"] (zN K zfZ):=zlt M zbO;refine xV 0 F lG (λxs st Q h=>by obtain⟨sh,h0,hs,rk,rfl,_⟩:=h;rfl) ⟨_,λcdv A outer s H E hr=>have hr1:y4 1 _:=hr.mono (by decide);(zD (zW (i:=1) lG.nd rfl (Or.inl rfl) (zK zhu hr1 (by rfl) zk9 zbO.kp zhY (z3 (qv 0) (z3 zI z6))))
   (zD (zW (i:=2) lG.nd rfl (Or.inl rfl) (tL z6))
   (zD (zmP (i0:=3) (own:= ["hand"]) (tI (fsc:=zS qW) (N:= ["program","splits","order","waiting","word"]) (N':= ["program","splits","order","waiting","word"]) rfl rfl (by decide+kernel)) lG.nd rfl (Or.inl rfl) rfl (vL (uG (zG (zO hr) (qv 0) z8 (λ_ _=>rfl)) uH (vP z8))) (λC s H fp pins=>(yF (i:=5) nd2 rfl (Or.inl rfl))) (λC s H fp pins=>mW) (λC s H fp pins=>(zG (zO hr) (qv 5) z8 (λ_ _=>rfl))))
   (zD (za6 PassesOwn.never (jX (qv 3)) (zD (zW (i:=4) lG.nd rfl (Or.inl rfl) (zmE PySem.F.plainAttrs_list PySem.F.slot_list_pop PySem.F.type_list_pop (by decide) zkU (qv 3)))
   (zD (wO (wN PySem.F.plainAttrs_list PySem.F.slot_list_append PySem.F.type_list_append (by decide) uF (qv 2) (z3 (qv 4) z6)))
   (zM (wO (wN PySem.F.plainAttrs_list PySem.F.slot_list_extend PySem.F.type_list_extend (by decide) zeO (qv 3) (z3 (zmG rfl (by rfl) M.list (by rfl) M.reversed (zG (zO hr) (qv 1) (qv 4) (λ_ _=>rfl))) z6)))))))
   (zM (yN (u5 (qK rfl) (by rfl) M.tuple rF (z3 (qv 2) z6)))))))),λxs st Q h=> ?_⟩
 obtain⟨sh,h0,hs,rk,rfl,hn,hl,R,hr7,q⟩:=h;obtain⟨all,eall⟩: ∃all,h0::hs=all:=⟨_,rfl⟩;have h0m:h0.1∈all.map (·.1):=by rw[<- eall];exact List.mem_cons_self ..
 have hal:all.length<=1000:=by rw[<- eall,List.length_cons];omega
 rw[eall]at hn R hr7 q⊢
 refine zC ?_
 try simp? only[true_and]
 refine⟨sh,all,"split",Rh.sp,rfl,.inl ⟨rfl,rfl⟩,hn,hal,?_⟩
 try simp? only[true_and]
 refine zC ?_
 try simp? only[true_and]
 refine zC ?_;unfold w5
 try simp? only[true_and]
 rw[show((1:Int))=((1:Nat):Int)from rfl,oH,<- List.map_take,<- eall,List.take_succ_cons,List.take_zero,eall];refine tS nmF (λj y e hy he=> ?_) ?_
 ·obtain⟨h,hh,rfl⟩:=wW hy
  obtain⟨y1,rfl⟩:=rN he;unfold yJ yM at hy⊢
  try simp? only[true_and]
  exact CP.yes (e':= [_]) hy rfl rfl
 show uK _ _ _ _ (st++ [PO.lst []]++ [PO.lst [PV.str h0.1]]);obtain⟨g,eg⟩: ∃g,v0 Rh.sp all=g:=⟨_,rfl⟩;have gv: ∀n∈all.map (·.1),zR (tK Rh.sp all) (.inr n)=some (.lst ((g n).map PV.str)):=λn hn=>by rw[zeG hn,eg]
 rw[eg]at R q;have hbig:(yZ g 8 h0.1).length<=960800:=Nat.le_trans (zat R h0m) (by rw[<- bd7];exact kO (hr7 _ h0m));have g1: ∀{x y:PO},(st++ [x]++ [y])[st.length]?=some x:=λ{x y} =>by rw[List.append_assoc,List.getElem?_append_right (Nat.le_refl _),Nat.sub_self];rfl
 have g2: ∀{x y:PO},(st++ [x]++ [y])[st.length+1]?=some y:=λ{x y} =>by rw[List.append_assoc,List.getElem?_append_right (by omega),show st.length+1 - st.length=1 by omega];rfl
 have s1: ∀{x y z:PO},(st++ [x]++ [y]).set st.length z=st++ [z]++ [y]:=λ{x y z} =>by rw[List.append_assoc,List.set_append_right _ _ (Nat.le_refl _),Nat.sub_self];simp
 have s2: ∀{x y z:PO},(st++ [x]++ [y]).set (st.length+1) z=st++ [x]++ [z]:=λ{x y z} =>by rw[List.append_assoc,List.set_append_right _ _ (by omega),show st.length+1 - st.length=1 by omega];simp
 refine zC ?_;have len1':(st++ [PO.lst []]).length=st.length+1:=by simp
 rw[len1'];refine⟨λm env s=> ∃(wt od:List Str) (v:Option PV),env= [some (.tup [.tup (sh.map yM),.tup (all.map yJ)]),some (.dct (tK Rh.sp all)),some (.obj st.length),some (.obj (st.length+1)),v]/\s=st++ [.lst (od.map PV.str)]++ [.lst (wt.map PV.str)]/\(∀n∈wt,n∈all.map (·.1))/\od++wt.reverse.flatMap (yZ g 8)=yZ g 8 h0.1/\m=(wt.reverse.flatMap (yZ g 8)).length,⟨_,[h0.1],[],none,rfl,rfl,λn hn=>by rw[List.mem_singleton.mp hn];exact h0m,by simp,rfl⟩,?_⟩;rintro m env s ⟨wt,od,v,rfl,rfl,hw,ho,rfl⟩
 try simp? only[g2]
 rcases List.eq_nil_or_concat wt with rfl | ⟨wt',n,rfl⟩
 ·have ho':od=yZ g 8 h0.1:=by simpa using ho
  have t1: ∀{x y:PO},(st++ [x]++ [y]).take st.length=st:=λ{x y} =>by rw[List.append_assoc,List.take_append_of_le_length (Nat.le_refl _),List.take_length]
  try simp? only[g1,t1]
  rw[ho'];exact q
 ·rw[List.concat_eq_append]at *
  have nm:n∈all.map (·.1):=hw n (by simp);have hgl:((wt'++ [n]).map PV.str).getLast?=some (.str n):=by simp
  have hdl:((wt'++ [n]).map PV.str).dropLast=wt'.map PV.str:=by simp
  have hne:((wt'++ [n]).map PV.str).isEmpty=false:=by simp
  have hst:=jO R nm (show rk n < 8 by have:=hr7 n nm;omega);have hfl:(wt'++ [n]).reverse.flatMap (yZ g 8)=n::((g n).flatMap (yZ g 8)++wt'.reverse.flatMap (yZ g 8)):=by
   rw[List.reverse_append,List.reverse_singleton,List.singleton_append,List.flatMap_cons,hst];rfl
  have hlen:=congrArg List.length ho;rw[hfl,List.length_append,List.length_cons,List.length_append]at hlen;have hex:(wt'++(g n).reverse).reverse.flatMap (yZ g 8)=(g n).flatMap (yZ g 8)++wt'.reverse.flatMap (yZ g 8):=by
   rw[List.reverse_append,List.reverse_reverse,List.flatMap_append]
  have hwl: ∀{l:List Str},(∀x∈l,x∈all.map (·.1))->l.length<=(l.flatMap (yZ g 8)).length:=λ{l} =>by
   induction l with
   | nil=>intro _;exact Nat.le_refl _
   | cons x l ih=>
    intro h;rw[List.flatMap_cons,List.length_append,List.length_cons];have h1:=ih λy hy=>h y (List.mem_cons_of_mem _ hy);have hx:=h x (List.mem_cons_self ..);have h2:=jO R hx (show rk x < 8 by have:=hr7 x hx;omega);have h3:1<=(yZ g 8 x).length:=by rw[h2,List.length_cons];omega
    omega
  have hw': ∀x∈wt'.reverse,x∈all.map (·.1):=λx hx=>hw x (by simp at hx⊢;exact .inl hx);have hg': ∀x∈g n,x∈all.map (·.1):=R.sub n nm;have l1:=hwl hw';have l2:=hwl hg';rw[List.length_reverse]at l1
  try simp? only[hne]
  refine⟨λe s=> ∃(v:Option PV),e= [some (.tup [.tup (sh.map yM),.tup (all.map yJ)]),some (.dct (tK Rh.sp all)),some (.obj st.length),some (.obj (st.length+1)),v]/\s=st++ [.lst ((od++ [n]).map PV.str)]++ [.lst ((wt'++(g n).reverse).map PV.str)],?_,?_⟩
  ·rintro e s ⟨v,rfl,rfl⟩
   refine⟨_,?_,wt'++(g n).reverse,od++ [n],v,rfl,rfl,λx hx=> ?_,?_,rfl⟩
   ·rw[hex,hfl,List.length_cons];exact Nat.lt_succ_self _
   ·rcases List.mem_append.mp hx with hx | hx
    ·exact hw x (by simp[hx])
    ·exact hg' x (by simpa using hx)
   ·rw[hex,<- ho,hfl];simp
  ·have gvn:=gv n nm
   have big:(960800:Nat) < sizeLine:=by rw[sizeLine_eq];decide
   refine zC ?_
   try simp? only[g2,hgl,hdl,s2]
   refine zC ?_
   try simp? only[g1,s1,List.length_map]
   refine⟨by omega,?_⟩
   try simp? only[gvn,g2,s2,List.length_map,List.length_reverse]
   refine⟨by omega,_,rfl,by simp⟩
theorem zeX {f:Addr}{fd:FuncData}(M:Mo K mg)(F:yC K "held_behind" "held_behind" o4 f fd):zP P w K mg base zQ 1 f fd ["rows","ends"] (zN K zbb):=by
 refine xV 0 F zaS (λxs st Q h=>by obtain⟨rs,en,ev,kvs,rfl,_⟩:=h;rfl) ⟨_,λcdv A outer s H E hr=>(zD (zW (i:=2) zaS.nd rfl (Or.inl rfl) jU)
   (zD (vM PassesOwn.never rfl (vL (qv 0)) (yF (i:=3) zaS.nd rfl (Or.inl rfl)) (zD (yV (yE (yY hr) (zG (zO hr) (qv 3) z8 (λ_ _=>rfl)) zI (yB _)) (zM (vQ mV (sW hr (qv 2) (zG (zO hr) (qv 3) z8 (λ_ _=>rfl))))) xF)
   (zM (yV (yE (yY hr) (zG (zO hr) (qv 3) z8 (λ_ _=>rfl)) zI (yB _)) (zD (yV (yE (zeR hr) (zG (zO hr) (qv 3) z8 (λ_ _=>rfl)) (qv 2) (by rfl)) (zM zmN) xF)
   (zD (wO (wN PySem.F.plainAttrs_dict PySem.F.slot_dict_pop PySem.F.type_dict_pop (by decide) zkV (qv 2) (z3 (zG (zO hr) (qv 3) z8 (λ_ _=>rfl)) z6)))
   (zM (wO (wN PySem.F.plainAttrs_dict PySem.F.slot_dict_update PySem.F.type_dict_update (by decide) zkZ (qv 2) (z3 (zG (zO hr) (qv 1) (zG (zO hr) (qv 3) z8 (λ_ _=>rfl)) (λ_ _=>rfl)) z6)))))) xF))))
   (zM (yN (qv 2))))),λxs st Q h=> ?_⟩
 obtain⟨rs,en,ev,kvs,rfl,hev,hl,hv,hj,q⟩:=h;have hix: ∀{y:Str} {v:PV} {o:PO} {Q:K3},zR kvs (.inr y)=some v->qP ev (.str y) (st++ [o]) Q=Q v (st++ [o]):=λ{y v o Q} e=>by
  rcases hev with rfl | ⟨i,rfl,e2⟩
  ·rw[zi_,zcI];show wD (zR kvs (.inr y)) _=_;rw[e];rfl
  ·rw[ziA,j7 e2,ziB,zcI];show wD (zR kvs (.inr y)) _=_;rw[e];rfl
 have hin: ∀{y:Str} {ms:List Str} {Q:K3},uI true (.str y) (.obj st.length) (st++ [.dct (x8 ms)]) Q=Q (.bl (!(zR (x8 ms) (.inr y)).isSome)) (st++ [.dct (x8 ms)]):=λ{y ms Q} =>by
  unfold uI pY qF;dsimp only;rw[rO]
  rfl
 have e1:(("split" :Str)== "split")=true:=by decide+kernel
 have e2:(("split" :Str)== "join")=false:=by decide+kernel
 have e3:(("join" :Str)== "split")=false:=by decide+kernel
 have e4:(("join" :Str)== "join")=true:=by decide+kernel
 have big:(40000:Nat) < sizeLine:=by rw[sizeLine_eq];decide
 refine zC ?_
 try simp? only[true_and]
 refine zC ?_
 try simp? only[true_and]
 refine wZ (λk env s=> ∃(ms:List Str) (v:Option PV),env= [some (.tup (rs.map Rh.pv)),some ev,some (.obj st.length),v]/\s=st++ [.dct (x8 ms)]/\uA ms (yR en (rs.take k))/\ms.length<=1001 * k) ⟨[],none,rfl,rfl,⟨by simp,λx=>by simp[yR]⟩,Nat.zero_le _⟩ ?_ ?_
 ·rintro k x env s hx ⟨ms,v,rfl,rfl,hm,hml⟩
  obtain⟨r,hr,rfl⟩:=wW hx;have hk:=(List.getElem?_eq_some_iff.mp hr).1;have hs:=sD hr;have hmz:ms.length<=30030:=by omega
  cases r with
  | split y=>
   unfold Rh.pv
   try simp? only[true_and]
   refine zC ?_
   try simp? only[e1,zg1,zbq]
   refine⟨by omega,?_⟩
   try simp? only[e2]
   exact⟨_,_,rfl,rfl,by rw[hs];exact hm.split,by have:=zcd (ms:=ms) (x:=y);omega⟩
  | join y=>
   obtain⟨hi,hr'⟩:=List.getElem?_eq_some_iff.mp hr;have hrs:rs=rs.take k++ .join y::rs.drop (k+1):=by rw[<- hr',List.getElem_cons_drop,List.take_append_drop]
   have hy:y∈ms:=(hm.2 y).mpr (hv _ _ _ hrs);have hvy:zR (x8 ms) (.inr y)=some (.bl true):=by rw[iL,if_pos hy]
   obtain⟨ns,hn1,hn2,hn3⟩:=hj y (List.mem_iff_getElem?.mpr ⟨k,hr⟩);obtain⟨m2,em,hfl⟩: ∃m2,(ms.filter λz=>decide (z≠y))=m2/\m2.length<=ms.length:=⟨_,rfl,List.length_filter_le ..⟩;have hj2:=hm.join hn2;rw[em]at hj2;unfold Rh.pv
   try simp? only[true_and]
   refine zC ?_
   try simp? only[e3]
   try simp? only[e4]
   refine zC ?_
   try simp? only[hin,hvy]
   refine zC ?_
   try simp? only[zf2]
   refine⟨st.length,.inr y,.bl true,x8 ms,.str y,rfl,rfl,rfl,rO,hvy,?_⟩;rw[nB,zol,em]
   try simp? only[hix hn1,zf3]
   refine⟨st.length,_,_,rfl,rfl,rO,by rw[zbq,zbq];omega,?_⟩;rw[nB,zg0];exact⟨_,_,rfl,rfl,by rw[hs];exact hj2,by have:=zca (ns:=ns) (ms:=m2);omega⟩
  | pl r=>
   obtain⟨k1,more,e,h1,h2⟩:=zfn r;rw[e]
   try simp? only[true_and]
   refine zC ?_
   try simp? only[h1]
   try simp? only[h2]
   exact⟨_,_,rfl,rfl,by rw[hs];exact hm.pl,by omega⟩
 ·rintro env s ⟨ms,v,rfl,rfl,hm,hml⟩
  rw[List.length_map,List.take_of_length_le (Nat.le_refl _)]at hm
  try simp? only[true_and]
  exact q ms hm
theorem zlp {f:Addr}{fd:FuncData}(M:Mo K mg)(F:yC K "held_at_ends" "held_at_ends" o3 f fd):zP P w K mg base zQ 3 f fd ["program"] (zN K zaZ):=by
 obtain⟨zjz,zjr,zbM,zhW,zk6⟩:=M.in_split_order;have zht:zP P w K mg base zQ 2 zjz zjr ["program"] (zN K zbc):=zlr M zbM;obtain⟨aR,aQ,nO,gR,zan⟩:=M.held_behind;have hU:zP P w K mg base zQ 1 aR aQ ["rows","ends"] (zN K zbb):=zeX M nO;refine xV 0 F iD (λxs st Q h=>by obtain⟨sh,h0,hs,en,rj,rfl,_⟩:=h;rfl) ⟨_,λcdv A outer s H E hr=>have hr1:y4 1 _:=hr.mono (by decide);have hr2:y4 2 _:=hr.mono (by decide);(zD (zW (i:=1) iD.nd rfl (Or.inl rfl) (u5 (zkQ rfl) (by rfl) M.dict zhZ (z3 (zG (zO hr) (qv 0) z8 (λ_ _=>rfl)) z6)))
   (zD (zW (i:=2) iD.nd rfl (Or.inl rfl) jU)
   (zD (vM PassesOwn.never rfl (vL (zmH rfl (by rfl) M.list (by rfl) M.reversed (zK zht hr2 (by rfl) zk6 zbM.kp zhW (z3 (qv 0) z6)))) (yF (i:=3) iD.nd rfl (Or.inl rfl)) (zM (vQ (zK hU hr1 (by rfl) zan nO.kp gR (z3 (zG (zO hr) (qv 1) (qv 3) (λ_ _=>rfl)) (z3 (qv 2) z6))) (sW hr (qv 2) (qv 3)))))
   (zM (yN (qv 2)))))),λxs st Q h=> ?_⟩
 obtain⟨sh,h0,hs,en,rj,rfl,O,G,q⟩:=h;obtain⟨rk,R,h7⟩:=O.rk;obtain⟨all,eall⟩: ∃all,h0::hs=all:=⟨_,rfl⟩;have hl8:=O.hl;have h0n:h0.1∈all.map (·.1):=by rw[<- eall];exact List.mem_cons_self ..
 have iso: ∀{Q:K3} {st:z4},Q (.tup ((yZ (v0 Rh.sp all) 8 h0.1).map PV.str)) st->zbc [w5 sh all] st Q:=λ{Q st} hq=>⟨sh,h0,hs,rk,by rw[eall],O.hn,by rw[List.length_cons]at hl8;omega,R,h7,by rw[eall];exact hq⟩;have reach:=G.reach O.hn R h7 rfl;rw[eall]at O G R h7 q reach⊢
 have hps:(all.map yJ).map jQ=(rV all).map some:=by unfold rV;rw[List.map_map,List.map_map];rfl
 have hmg:rP [] (rV all)=rV all:=zeE (by rw[List.nil_append,znr];exact zjJ O.hn);refine zC ?_;unfold w5
 try simp? only[za7]
 refine⟨_,hps,?_⟩;rw[hmg];refine zC ?_
 try simp? only[true_and]
 refine zC ?_
 try simp? only[zox]
 refine iso ?_;obtain⟨l,el⟩: ∃l,yZ (v0 Rh.sp all) 8 h0.1=l:=⟨_,rfl⟩;have hbig:l.length<=960800:=by rw[<- el];exact Nat.le_trans (zat R h0n) (by rw[<- bd7];exact kO (h7 _ h0n))
 have big:(960800:Nat) < sizeLine:=by rw[sizeLine_eq];decide
 rw[el]at reach;rw[el];dsimp only;rw[<- List.map_reverse];refine wZ (λk env s=> ∃(kvs:List (z7×PV)) (v:Option PV),env= [some (.tup [.tup (sh.map yM),.tup (all.map yJ)]),some (.dct (rV all)),some (.obj st.length),v]/\s=st++ [.dct kvs]/\kvs.length<=k/\∀w∈l.reverse.take k,iU kvs en w) ⟨[],none,rfl,rfl,Nat.le_refl _,λw hw=>by simp at hw⟩ ?_ ?_
 ·rintro k x env s hx ⟨kvs,v,rfl,rfl,hk,hw⟩
  obtain⟨w,hwk,rfl⟩:=wW hx;obtain⟨hkl,hwk'⟩:=List.getElem?_eq_some_iff.mp hwk;have hkl':=hkl;rw[List.length_reverse]at hkl';have hsp:l.reverse=l.reverse.take k++w::l.reverse.drop (k+1):=by rw[<- hwk',List.getElem_cons_drop,List.take_append_drop]
  have hlsp:yZ (v0 Rh.sp all) 8 h0.1=(l.reverse.drop (k+1)).reverse++w::(l.reverse.take k).reverse:=by
   have:=congrArg List.reverse hsp;rw[List.reverse_reverse,List.reverse_append,List.reverse_cons]at this;rw[el];exact this.trans (by rw[List.append_assoc];rfl)
  obtain⟨hwn,hwb⟩:=jP R h7 h0n (show rk h0.1 < 8 by have:=h7 _ h0n;omega) hlsp;obtain⟨h,hh,rfl⟩:=List.mem_map.mp hwn;have hrw:=zfG O.hn hh;have hhb:=G.hb h hh
  try simp? only[hrw]
  refine⟨h.2,en,.obj st.length,kvs,rfl,.inr ⟨_,rfl,rO⟩,O.rl h hh,hhb.2,λy hy=> ?_,λms hms=> ?_⟩
  ·obtain⟨i,hi⟩:=List.mem_iff_getElem?.mp hy
   obtain⟨hil,e'⟩:=List.getElem?_eq_some_iff.mp hi;have hs2:h.2=h.2.take i++ .join y::h.2.drop (i+1):=by rw[<- e',List.getElem_cons_drop,List.take_append_drop]
   have:=G.below O.hn R h7 (x:=y) _ h (Nat.le_refl _) hh i (hhb.2 _ _ _ hs2);exact hw y (by simpa using hwb y this)
  ·have hml:ms.length<=1000:=by
    have:=mT (l:=ms) (m:=all.map (·.1)) hms.1 λx hx=>by
     have:=G.tail hh (n:=h.2.length) (x:=x) (by rw[List.take_length];exact(hms.2 x).mp hx);obtain⟨k2,hk2,e2⟩:=List.mem_map.mp this;exact List.mem_map.mpr ⟨k2,List.mem_of_mem_tail hk2,e2⟩
    rw[List.length_map,<- eall]at this;omega
   rw[hhb.1]at hms
   try simp? only[true_and]
   refine⟨by omega,_,_,rfl,rfl,Nat.le_trans zm_ (by omega),λw hw2=> ?_⟩;rw[sD hwk]at hw2;by_cases e:h.1=w
   ·exact⟨ms,by rw[zb3,if_pos (by rw[e])],by rw[<- e];exact hms,hml⟩
   ·rcases List.mem_append.mp hw2 with hw2 | hw2
    ·obtain⟨ns,n1,n2,n3⟩:=hw w hw2
     exact⟨ns,by rw[zb3,if_neg λz=>e (Sum.inr.inj z)];exact n1,n2,n3⟩
    ·exact absurd (List.mem_singleton.mp hw2).symm e
 ·rintro env s ⟨kvs,v,rfl,rfl,hk,hw⟩
  rw[List.length_map,List.take_of_length_le (Nat.le_refl _)]at hw
  try simp? only[true_and]
  exact q kvs λw hwn=>hw w (List.mem_reverse.mpr (reach _ w hwn (Nat.le_refl _)))
theorem nd3:(["program","held","hand"]:List Str).Nodup:=by decide+kernel
theorem zlq {f:Addr}{fd:FuncData}(M:Mo K mg)(F:yC K "in_order_of_hands" "in_order_of_hands" qV f fd):zP P w K mg base zQ 1 f fd ["program","held"] (zN K zfW):=by
 refine xV 0 F znw (λxs st Q h=>by obtain⟨sh,hs,ms,rfl,_⟩:=h;rfl) ⟨_,λcdv A outer s H E hr=>(zM (yN (u5 (qK rfl) (by rfl) M.tuple rF (z3 (qL (own:= ["hand"]) (tI (fsc:=zS qV) (N:= ["program","held"]) (N':= ["program","held"]) rfl rfl (by decide+kernel)) rfl (vL (zG (zO hr) (qv 0) z8 (λ_ _=>rfl))) (λC s H fp pins=>(yF (i:=2) nd3 rfl (Or.inl rfl))) (λC s H fp pins=>pH (yE (zap hr) (zG (zO hr) (qv 2) z8 (λ_ _=>rfl)) (qv 1) (by rfl))) (λC s H fp pins=>(zG (zO hr) (qv 2) z8 (λ_ _=>rfl)))) z6)))),λxs st Q h=> ?_⟩;obtain⟨sh,hs,ms,rfl,q⟩:=h;unfold w5
 try simp? only[true_and]
 refine tS (j8 ms) (λj y e hy he=> ?_) ?_
 ·obtain⟨h,hh,rfl⟩:=wW hy
  obtain⟨y1,rfl⟩:=rN he;have hf:j8 ms (yJ h)=if h.1∈ms then some (.str h.1)else none:=rfl
  have hin: ∀{Q:K3} {st:z4},uI false (.str h.1) (.dct (x8 ms)) st Q=Q (.bl (zR (x8 ms) (.inr h.1)).isSome) st:=λ{Q st} =>rfl;unfold yJ yM uO at hy hf⊢
  by_cases e:h.1∈ms
  ·rw[if_pos e]at hf
   have hv:zR (x8 ms) (.inr h.1)=some (.bl true):=by rw[iL,if_pos e]
   try simp? only[hin,hv]
   exact CP.yes (e':= [_]) hy hf rfl
  ·rw[if_neg e]at hf
   have hv:zR (x8 ms) (.inr h.1)=none:=by rw[iL,if_neg e]
   try simp? only[hin,hv]
   exact CP.no (e':= [_]) hy hf rfl
 rw[zem]
 try simp? only[true_and]
 exact q
theorem zlo {f:Addr}{fd:FuncData}(M:Mo K mg)(F:yC K "held_at" "held_at" o0 f fd):zP P w K mg base zQ 4 f fd ["program","H","n"] (zN K zba):=by
 obtain⟨zju,zjn,zbJ,zhT,zk3⟩:=M.hand_named;have zhq:zP P w K mg base zQ 2 zju zjn ["program","H"] (zN K zfU):=zln M zbJ;obtain⟨zjw,zjp,zbK,zhU,zk4⟩:=M.held_at_ends;have zhr:zP P w K mg base zQ 3 zjw zjp ["program"] (zN K zaZ):=zlp M zbK;obtain⟨aR,aQ,nO,gR,zan⟩:=M.held_behind;have hU:zP P w K mg base zQ 1 aR aQ ["rows","ends"] (zN K zbb):=zeX M nO;obtain⟨zjy,zjq,zbL,zhV,zk5⟩:=M.in_order_of_hands;have zhs:zP P w K mg base zQ 1 zjy zjq ["program","held"] (zN K zfW):=zlq M zbL;refine xV 0 F zfK (λxs st Q h=>by obtain⟨sh,h0,hs,en,rj,h,n,rfl,_⟩:=h;rfl) ⟨_,λcdv A outer s H E hr=>have hr1:y4 1 _:=hr.mono (by decide);have hr2:y4 2 _:=hr.mono (by decide);have hr3:y4 3 _:=hr.mono (by decide);(zD (zW (i:=3) zfK.nd rfl (Or.inl rfl) (zG (zO hr) (zK zhq hr2 (by rfl) zk3 zbJ.kp zhT (z3 (qv 0) (z3 (qv 1) z6))) z8 (λ_ _=>rfl)))
   (zM (yN (zK zhs hr1 (by rfl) zk5 zbL.kp zhV (z3 (qv 0) (z3 (zK hU hr1 (by rfl) zan nO.kp gR (z3 (uG (qv 3) uH (vP (qv 2))) (z3 (zK zhr hr3 (by rfl) zk4 zbK.kp zhU (z3 (qv 0) z6)) z6))) z6)))))),λxs st Q h=> ?_⟩
 obtain⟨sh,h0,hs,en,rj,h,n,rfl,O,G,hh,q⟩:=h;obtain⟨all,eall⟩: ∃all,h0::hs=all:=⟨_,rfl⟩;have hae: ∀{Q:K3} {st:z4},(∀kvs,(∀w∈all.map (·.1),iU kvs en w)->Q (.dct kvs) st)->zaZ [w5 sh all] st Q:=λ{Q st} hq=>⟨sh,h0,hs,en,rj,by rw[eall],O,G,by rw[eall];exact hq⟩;rw[eall]at O G hh q⊢
 refine zC ?_
 try simp? only[true_and]
 refine⟨sh,all,h,rfl,O.hn,hh,?_⟩;unfold yJ yM uO
 try simp? only[true_and]
 refine hae λkvs hk=> ?_;rw[oH,<- List.map_take]
 try simp? only[true_and]
 refine⟨h.2.take n,en,.dct kvs,kvs,rfl,.inl rfl,by rw[List.length_take];have:=O.rl h hh;omega,(G.hb h hh).2.take n,λy hy=> ?_,λms hms=> ?_⟩
 ·have hy':=List.mem_of_mem_take hy
  have:=(G.je y).mp (List.mem_flatMap.mpr ⟨h,hh,List.mem_filterMap.mpr ⟨_,hy',rfl⟩⟩);obtain⟨k,hk2,rfl⟩:=List.mem_map.mp this;exact hk _ (List.mem_map_of_mem (List.mem_of_mem_tail hk2))
 try simp? only[true_and]
 refine⟨sh,all,ms,rfl,?_⟩;have e:(all.map (·.1)).filter (λn=>decide (n∈ms))=(all.map (·.1)).filter λx=>decide (x∈yR en (h.2.take n)):=List.filter_congr λx _=>decide_eq_decide.mpr (hms.2 x);rw[e]
 try simp? only[true_and]
 exact q
theorem zeU {f:Addr}{fd:FuncData}(M:Mo K mg)(F:yC K "_law_box" "_law_box" pK f fd):zP P w K mg base zQ 1 f fd ["_law_script","_law_k"] (zN K zaY):=by
 refine xV 1 F lC (λxs st Q h=>by obtain⟨ns,k,rfl,_⟩:=h;rfl) ⟨_,λcdv A outer s H E hr=>(zD (zW (i:=2) lC.nd rfl (Or.inl rfl) (zY yS (zY sU z8 (qv 1)) z8))
   (zD (yV (yE oZ (qv 1) (xO xU (by rfl) M.len PySem.boot_len (z3 (qv 0) z6)) (yB _)) (zM (zW (i:=2) lC.nd rfl (Or.inl rfl) (zG (zO hr) (qv 0) (qv 1) (λ_ _=>rfl)))) (zM (yV (yE uR (xO xU (by rfl) M.len PySem.boot_len (z3 (qv 0) z6)) z8 (yB _)) (zM (zW (i:=2) lC.nd rfl (Or.inl rfl) (zY yS (qv 2) (zY sU (zY sT (zG (zO hr) (qv 0) (zY sT (qv 1) (xO xU (by rfl) M.len PySem.boot_len (z3 (qv 0) z6))) (λ_ _=>rfl)) z8) z8)))) xF)))
   (zD (zW (i:=3) lC.nd rfl (Or.inl rfl) (zY yS (zY sT (zY yS (zY sU (zY sT (qv 2) z8) z8) (zY sU z8 (qv 1))) z8) z8))
   (zM (yN (tL (z3 (zY sU (qv 2) (u5 oY (by rfl) M.int oG (z3 (rR zeP (qv 2) (zY zkW z8 z8) (yB _)) z6))) (z3 (qv 3) z6)))))))),λxs st Q h=> ?_⟩
 obtain⟨ns,k,rfl,hl,hk,q⟩:=h
 simp_all? only[List.length_map]
 have bit: ∀c:Int,-18446744073709551616 < (if decide (1000000000000000000<=c)=true then(1:Int)else 0)/\(if decide (1000000000000000000<=c)=true then(1:Int)else 0) < 18446744073709551616:=λc=>by split <;> exact⟨by decide,by decide⟩
 have fin: ∀c:Int,yD (c * (if decide (1000000000000000000<=c)=true then(1:Int)else 0)) ((c % 2147483629 * 48271+40692 * k) % 2147483629+1):=λc=>by
  refine⟨?_,by omega,by omega⟩
  split
  ·rename_i h
   have:=of_decide_eq_true h;omega
  ·omega
 refine zad (λh=> ?_) (λh=>zad (λh2=> ?_) (λh2=> ?_))
 ·obtain⟨z,_,ez⟩:=oF PV.int (ns:=ns) hk (of_decide_eq_true h)
  simp_all? only[ez]
  exact⟨gZ,.inr (bit z),q _ _ (fin z)⟩
 ·have hp:(0:Int) < ns.length:=of_decide_eq_true h2
  obtain⟨z,_,ez⟩:=oF PV.int (ns:=ns) (k:=k % ns.length) (Int.emod_nonneg _ (by omega)) (Int.emod_lt_of_pos _ hp)
  simp_all? only[ez]
  exact⟨hp,gZ,.inr (bit _),q _ _ (fin _)⟩
 ·exact⟨gZ,.inr (bit _),q _ _ (fin _)⟩
theorem uT {f:Addr}{fd:FuncData}(M:Mo K mg)(F:yC K "_law_take" "_law_take" pS f fd):zP P w K mg base zQ 1 f fd ["_law_box_here","_law_many"] (zN K u8):=by
 refine xV 0 F zaR (λxs st Q h=>by obtain⟨i,many,a,b,rfl,_⟩:=h;rfl) ⟨_,λcdv A outer s H E hr=>(zD (yV (yE uR (zG (zO hr) (qv 0) z8 (λ_ _=>rfl)) z8 (yB _)) (zD (zW (i:=2) zaR.nd rfl (Or.inl rfl) (zY sT (zG (zO hr) (qv 0) z8 (λ_ _=>rfl)) (qv 1)))
   (zD (vQ (zY jI (zG (zO hr) (qv 0) z8 (λ_ _=>rfl)) (qv 1)) (sW hr (qv 0) z8))
   (zM (yN (qv 2))))) xF)
   (zD (zW (i:=3) zaR.nd rfl (Or.inl rfl) (zY sT (zY sU (zG (zO hr) (qv 0) z8 (λ_ _=>rfl)) z8) z8))
   (zD (vQ (zY yS (zY sT (zY yS (zY sU (qv 3) z8) z8) z8) z8) (sW hr (qv 0) z8))
   (zM (yN (zY sT (zY jI (zY yS (zY sU (qv 3) z8) (zG (zO hr) (qv 0) z8 (λ_ _=>rfl))) z8) (qv 1))))))),λxs st Q h=> ?_⟩
 obtain⟨i,many,a,b,rfl,hi,⟨ha,hb,hb2⟩,hm,hm2,q⟩:=h
 simp_all? only[hi]
 refine zad (λh=> ?_) (λh=> ?_)
 ·exact⟨hm,⟨hm,hm2⟩,q _ _ _ (Int.emod_nonneg _ (by omega)) (Int.emod_lt_of_pos _ hm) ⟨Int.ediv_nonneg ha (by omega),hb,hb2⟩⟩
 ·exact⟨hm,q _ _ _ (Int.emod_nonneg _ (by omega)) (Int.emod_lt_of_pos _ hm) ⟨ha,by omega,by omega⟩⟩
theorem nd4:(["_law_box_here","_law_many","_law_letters","?3","_law_common","_law_at","_law_first","_law_longer","_law_found","_law_word","_law_own","_law_k"]:List Str).Nodup:=by decide+kernel
theorem zll {f:Addr}{fd:FuncData}(M:Mo K mg)(F:yC K "_law_words" "_law_words" qS f fd):zP P w K mg base zQ 2 f fd ["_law_box_here","_law_many"] (zN K zge):=by
 obtain⟨xZ,w4,zV,y8,y9⟩:=M._law_take;have y7:zP P w K mg base zQ 1 xZ w4 ["_law_box_here","_law_many"] (zN K u8):=uT M zV;refine xV 0 F uY (λxs st Q h=>by obtain⟨i,many,a,b,rfl,_⟩:=h;rfl) ⟨_,λcdv A outer s H E hr=>have hr1:y4 1 _:=hr.mono (by decide);(zD (zW (i:=2) uY.nd rfl (Or.inr rfl) zI)
   (zD (zW (i:=4) uY.nd rfl (Or.inl rfl) (wN PySem.F.plainAttrs_str PySem.F.slot_str_join PySem.F.type_str_join (by decide) zkT zI (z3 (qL (own:= ["_law_k"]) (tI (fsc:=zS qS) (N:= ["_law_box_here","_law_many","_law_letters","_law_k","_law_common","_law_at","_law_first","_law_longer","_law_found","_law_word","_law_own"]) (N':= ["_law_box_here","_law_many","_law_letters","?3","_law_common","_law_at","_law_first","_law_longer","_law_found","_law_word","_law_own"]) rfl rfl (by decide+kernel)) rfl (rS (by rfl) M.range (z3 (zK y7 hr1 (by rfl) y9 zV.kp y8 (z3 (qv 0) (z3 z8 z6))) z6)) (λC s H fp pins=>(yF (i:=11) nd4 rfl (Or.inl rfl))) (λC s H fp pins=>mW) (λC s H fp pins=>(zG (zO hr) (qv 2) (zK y7 hr1 (by rfl) y9 zV.kp y8 (z3 (qv 0) (z3 z8 z6))) (λ_ _=>rfl)))) z6)))
   (zD (zW (i:=5) uY.nd rfl (Or.inl rfl) (zK y7 hr1 (by rfl) y9 zV.kp y8 (z3 (qv 0) (z3 (zY yS (xO xU (by rfl) M.len PySem.boot_len (z3 (qv 4) z6)) z8) z6))))
   (zD (zW (i:=6) uY.nd rfl (Or.inl rfl) (zK y7 hr1 (by rfl) y9 zV.kp y8 (z3 (qv 0) (z3 z8 z6))))
   (zD (zW (i:=7) uY.nd rfl (Or.inl rfl) (zK y7 hr1 (by rfl) y9 zV.kp y8 (z3 (qv 0) (z3 z8 z6))))
   (zD (zW (i:=8) uY.nd rfl (Or.inl rfl) (tL z6))
   (zD (vM PassesOwn.never rfl (rS (by rfl) M.range (z3 (qv 1) z6)) (yF (i:=3) uY.nd rfl (Or.inl rfl)) (zD (zW (i:=9) uY.nd rfl (Or.inl rfl) (zY yS (zY yS (uG (qv 4) uH (vP (qv 5))) (zG (zO hr) (qv 2) (zY sT (zY yS (qv 6) (zY sU z8 (qv 3))) z8) (λ_ _=>rfl))) (uG (qv 4) (vP (qv 5)) uH)))
   (zM (wO (wN PySem.F.plainAttrs_list PySem.F.slot_list_append PySem.F.type_list_append (by decide) uF (qv 8) (z3 (zY yS (qv 9) (zY sU zI (u5 oY (by rfl) M.int oG (z3 (zfv (rR (yY hr) (qv 7) z8 (yB _)) (zfw (rR (yY hr) (zY sT (qv 3) z8) z8 (yB _)))) z6)))) z6))))))
   (zD (zW (i:=10) uY.nd rfl (Or.inl rfl) (u6 (z3 zI (z3 zI (z3 zI (z3 zI (z3 zI (z3 zI (z3 zI (z3 zI (z3 zI (z3 zI (z3 zI (z3 zI z6))))))))))))))
   (zD (zW (i:=10) uY.nd rfl (Or.inl rfl) (zY yS (qv 10) (u6 (z3 zI (z3 zI (z3 zI (z3 zI (z3 zI (z3 zI (z3 zI (z3 zI (z3 zI (z3 zI (z3 zI z6))))))))))))))
   (zD (zW (i:=10) uY.nd rfl (Or.inl rfl) (zY yS (qv 10) (u6 (z3 zI (z3 zI (z3 zI (z3 zI z6)))))))
   (zD (zW (i:=9) uY.nd rfl (Or.inl rfl) (zG (zO hr) (qv 10) (zK y7 hr1 (by rfl) y9 zV.kp y8 (z3 (qv 0) (z3 z8 z6))) (λ_ _=>rfl)))
   (zD (yV (PW.pt (qM (yE (yY hr) (zK y7 hr1 (by rfl) y9 zV.kp y8 (z3 (qv 0) (z3 z8 z6))) z8 (yB _)) (qN (yE (zeR hr) (qv 9) (qv 8) (by rfl))))) (zM (vQ (qv 9) (sW hr (qv 8) (zK y7 hr1 (by rfl) y9 zV.kp y8 (z3 (qv 0) (z3 (qv 1) z6)))))) xF)
   (zM (yN (qv 8))))))))))))))),λxs st Q h=> ?_⟩
 obtain⟨i,many,a,b,rfl,hi,hb,h0,h10,q⟩:=h;have hil:=(List.getElem?_eq_some_iff.mp hi).1;have hset: ∀{a b:Int},(st.set i (z9 a b))[i]?=some (z9 a b):=λ{a b} =>tU hi;have hset2: ∀{a b:Int} {o:PO},(st.set i (z9 a b)++ [o])[i]?=some (z9 a b):=λ{a b o} =>j7 hset;have hput: ∀{a b c d:Int} {o:PO},(st.set i (z9 a b)++ [o]).set i (z9 c d)=st.set i (z9 c d)++ [o]:=λ{a b c d o} =>by rw[zaW (by rw[List.length_set];exact hil),set_set]
 have hsl: ∀{o:PO},(st.set i o).length=st.length:=List.length_set;have hat: ∀{a b:Int} {o:PO},(st.set i (z9 a b)++ [o])[st.length]?=some o:=λ{a b o} =>by rw[<- hsl (o:=z9 a b)];exact rO
 have hst2: ∀{a b:Int} {o o':PO},(st.set i (z9 a b)++ [o]).set st.length o'=st.set i (z9 a b)++ [o']:=λ{a b o o'} =>by rw[<- hsl (o:=z9 a b)];exact nB
 have small_l:(("abcdefghijklmnopqrstuvwxyz" :Str)).length<=sizeLine:=Nat.le_trans (m:=1000) (by decide+kernel) (by decide);have thou: ∀{n:Nat},n<=1000->n<=sizeLine:=λh=>Nat.le_trans h (by decide);refine zC ?_
 try simp? only[true_and]
 refine zC ?_
 try simp? only[true_and]
 refine⟨i,7,a,b,rfl,hi,hb,by decide,by decide,λd a b d0 d1 hb=> ?_⟩
 try simp? only[true_and]
 refine⟨⟨by omega,by omega⟩,λk ys env s=> ∃(xs:List Str) (v:Option PV) (a b:Int),ys=xs.map PV.str/\xs.length=k/\(∀x∈xs,x.length<=1)/\env= [some (PV.obj i),some (PV.int many),some (PV.str "abcdefghijklmnopqrstuvwxyz"),none,none,none,none,none,none,none,none,v]/\yD a b/\s=st.set i (z9 a b),
  ⟨[],none,a,b,rfl,rfl,by simp,rfl,hb,rfl⟩,?_,?_⟩
 ·rintro k x ys env s hx ⟨xs,v,a,b,rfl,hk,hx1,rfl,hb,rfl⟩
  obtain⟨_,rfl⟩:=tO hx
  try simp? only[true_and]
  refine⟨i,26,a,b,rfl,hset,hb,by decide,by decide,λe a b e0 e1 hb=> ?_⟩;have hc:=ze6 e0 e1
  try simp? only[hc]
  refine⟨small_l,xs++ [⟨#[97+e.toNat]⟩],_,a,b,by simp,by simp[hk],λz hz=> ?_,rfl,hb,rfl⟩;rcases List.mem_append.mp hz with hz | hz
  ·exact hx1 z hz
  ·rw[List.mem_singleton.mp hz];exact Nat.le_refl _
 rintro ys env s ⟨xs,v,a,b,rfl,hk,hx1,rfl,hb,rfl⟩;rw[uW]at hk;have hsum:(xs.map (·.length)).sum<=1 * xs.length:=zow xs 1 hx1;have hz:(xs.map (·.length)).sum+xs.length * (Str.ofString "").length<=6:=by
  rw[show(Str.ofString "").length=0 by decide+kernel];omega
 try simp? only[zaC]
 refine⟨xs,rfl,Nat.le_trans hz (by decide),?_⟩;have hcl:(Txt.join (Str.ofString "") xs).length<=6:=Nat.le_trans (zjX _ _) hz;generalize Txt.join (Str.ofString "") xs=common at hcl⊢
 try simp? only[true_and]
 refine zC ?_
 try simp? only[true_and]
 refine⟨thou (by omega),i,_,a,b,rfl,hset,hb,by omega,by omega,λat' a b a0 a1 hb=> ?_⟩
 try simp? only[true_and]
 refine zC ?_
 try simp? only[true_and]
 refine⟨i,26,a,b,rfl,hset,hb,by decide,by decide,λfirst a b f0 f1 hb=> ?_⟩
 try simp? only[true_and]
 refine zC ?_
 try simp? only[true_and]
 refine⟨i,3,a,b,rfl,hset,hb,by decide,by decide,λlg a b g0 g1 hb=> ?_⟩
 try simp? only[true_and]
 refine zC ?_
 try simp? only[true_and]
 refine zC ?_
 try simp? only[hsl]
 obtain⟨A,eA⟩: ∃A:Str,A=Txt.slice common none (some at'):=⟨_,rfl⟩;obtain⟨B,eB⟩: ∃B:Str,B=Txt.slice common (some at') none:=⟨_,rfl⟩;refine⟨⟨by omega,by omega⟩,?_⟩;refine wZ (λk env s=> ∃(ws:List Str) (v3 v9:Option PV),env= [some (PV.obj i),some (PV.int many),some (PV.str "abcdefghijklmnopqrstuvwxyz"),v3,some (.str common),some (.int at'),some (.int first),some (.int lg),some (.obj st.length),v9,none]/\ws.length=k/\p8 A B first ws/\s=st.set i (z9 a b)++ [.lst (ws.map PV.str)])
  ⟨[],none,none,rfl,rfl,λm w hw=>by simp at hw,rfl⟩ ?_ ?_
 ·rintro k x env s hx ⟨ws,v3,v9,rfl,hwl,hw,rfl⟩
  obtain⟨hk2,rfl⟩:=tO hx;have hc:=ze6 (d:=(first+5 * (0+k)) % 26) (Int.emod_nonneg _ (by decide)) (Int.emod_lt_of_pos _ (by decide))
  try simp? only[true_and]
  refine zC ?_
  try simp? only[hc]
  refine⟨thou (by omega),λl1=>⟨small_l,?_⟩⟩;rw[<- eA]at l1⊢
  have lc:(⟨#[97+((first+5 * (0+(k:Int))) % 26).toNat]⟩:Str).length=1:=rfl;refine⟨thou (by omega),thou (by omega),λl2=> ?_⟩;rw[<- eB]at l2⊢
  refine⟨thou (by rw[Str.length_append];omega),?_⟩
  try simp? only[true_and]
  have done: ∀z:Str,z.length<=1->(A++⟨#[97+((first+5 * (0+(k:Int))) % 26).toNat]⟩++B).length+z.length<=sizeLine/\ws.length < sizeLine/\∃(ws':List Str) (v3 v9:Option PV),[some (PV.obj i),some (PV.int many),some (PV.str "abcdefghijklmnopqrstuvwxyz"),some (PV.int (0+k)),some (.str common),some (.int at'),some (.int first),some (.int lg),some (.obj st.length),some (PV.str (A++⟨#[97+((first+5 * (0+(k:Int))) % 26).toNat]⟩++B)),none]= [some (PV.obj i),some (PV.int many),some (PV.str "abcdefghijklmnopqrstuvwxyz"),v3,some (.str common),some (.int at'),some (.int first),some (.int lg),some (.obj st.length),v9,none]/\ws'.length=k+1/\p8 A B first ws'/\st.set i (z9 a b)++ [PO.lst (ws.map PV.str++ [.str (A++⟨#[97+((first+5 * (0+(k:Int))) % 26).toNat]⟩++B++z)])]=st.set i (z9 a b)++ [.lst (ws'.map PV.str)]:=λz hz=>by
   refine⟨thou (by rw[Str.length_append,Str.length_append];omega),Nat.lt_of_lt_of_le (m:=1000) (by omega) (by decide),ws++ [A++⟨#[97+((first+5 * (0+(k:Int))) % 26).toNat]⟩++B++z],_,_,rfl,by simp[hwl],hw.snoc hwl,by simp⟩
  by_cases gg:lg=1
  ·subst gg
   by_cases o1:(0+(k:Int)) % 2=1
   ·have b1:((0+(k:Int)) % 2==1)=true:=by simpa using o1
    try simp? only[beq_self_eq_true,b1,hat,hst2,List.length_map]
    exact done _ (by decide+kernel)
   ·have b1:((0+(k:Int)) % 2==1)=false:=by simpa using o1
    try simp? only[beq_self_eq_true,b1,hat,hst2,List.length_map]
    exact done _ (by decide+kernel)
  ·have gf:(lg==1)=false:=by simpa using gg
   try simp? only[gf,hat,hst2,List.length_map]
   exact done _ (by decide+kernel)
 ·rintro env s ⟨ws,v3,v9,rfl,hwl,hw,rfl⟩
  rw[uW]at hwl;have hnd:=hw.nodup (by omega)
  try simp? only[true_and]
  refine zC ?_
  try simp? only[true_and]
  refine zC ?_
  try simp? only[true_and]
  refine⟨thou (by decide),zC ?_⟩
  try simp? only[true_and]
  refine⟨thou (by decide),zC ?_⟩
  try simp? only[true_and]
  refine⟨i,27,a,b,rfl,hset2,hb,by decide,by decide,λe a b e0 e1 hb=> ?_⟩;obtain⟨wd,et⟩:=zlE e0 e1
  try simp? only[hput,et]
  refine sY (λenv s=> ∃(us:List Str) (v3 v9 v10:Option PV) (a b:Int),env= [some (PV.obj i),some (PV.int many),some (PV.str "abcdefghijklmnopqrstuvwxyz"),v3,some (.str common),some (.int at'),some (.int first),some (.int lg),some (.obj st.length),v9,v10]/\us.Nodup/\us.length=ws.length/\yD a b/\s=st.set i (z9 a b)++ [.lst (us.map PV.str)]) (λN hN=> ?_) ?_
  ·try simp? only[true_and]
   refine⟨i,4,a,b,rfl,hset2,hb,by decide,by decide,λf a b f0 f1 hb=> ?_⟩
   try simp? only[hput]
   by_cases hf:f=0
   ·subst hf
    have nin: ∀{Q:K3},uI true (.str wd) (.obj st.length) (st.set i (z9 a b)++ [.lst (ws.map PV.str)]) Q=Q (.bl (!decide (wd∈ws))) (st.set i (z9 a b)++ [.lst (ws.map PV.str)]):=zkP hat
    try simp? only[beq_self_eq_true,nin]
    by_cases hin:wd∈ws
    ·have hd:decide (wd∈ws)=true:=decide_eq_true hin
     try simp? only[hd]
     exact hN _ _ ⟨ws,_,_,_,a,b,rfl,hnd,rfl,hb,rfl⟩
    ·have hd:decide (wd∈ws)=false:=decide_eq_false hin
     try simp? only[hd]
     refine⟨i,many,a,b,rfl,hset2,hb,by omega,by omega,λg a b g0 g1 hb=> ?_⟩;obtain⟨n,rfl⟩: ∃n:Nat,g=n:=⟨g.toNat,by omega⟩;have hix:xT ws.length (n:Int)=some n:=zjU (by omega)
     try simp? only[hput,hat,hst2,List.length_map,hix]
     exact hN _ _ ⟨ws.set n wd,_,_,_,a,b,rfl,zkN hnd hin n,List.length_set,hb,by rw[List.map_set]⟩
   ·have nf:(f==0)=false:=by simpa using hf
    try simp? only[nf]
    exact hN _ _ ⟨ws,_,_,_,a,b,rfl,hnd,rfl,hb,rfl⟩
  ·rintro env s ⟨us,v3,v9,v10,a,b,rfl,hun,hul,hb,rfl⟩
   try simp? only[true_and]
   rw[show xG st.length Q=xG ((st.set i (z9 a b)).length+0) Q by rw[hsl];rfl,<- hsl (o:=z9 a b),j3];exact q us a b (by omega) hun hb
theorem zeW {f:Addr}{fd:FuncData}(M:Mo K mg)(F:yC K "_law_number" "_law_number" pQ f fd):zP P w K mg base zQ 2 f fd ["_law_box_here"] (zN K zbd):=by
 obtain⟨xZ,w4,zV,y8,y9⟩:=M._law_take;have y7:zP P w K mg base zQ 1 xZ w4 ["_law_box_here","_law_many"] (zN K u8):=uT M zV;refine xV 0 F zfJ (λxs st Q h=>by obtain⟨i,a,b,rfl,_⟩:=h;rfl) ⟨_,λcdv A outer s H E hr=>have hr1:y4 1 _:=hr.mono (by decide);(zD (zW (i:=1) zfJ.nd rfl (Or.inl rfl) (zK y7 hr1 (by rfl) y9 zV.kp y8 (z3 (qv 0) (z3 z8 z6))))
   (zD (yV (yE oZ (qv 1) z8 (yB _)) (zM (yN (zK y7 hr1 (by rfl) y9 zV.kp y8 (z3 (qv 0) (z3 z8 z6))))) xF)
   (zD (yV (yE (yY hr) (qv 1) z8 (yB _)) (zM (yN (zY rQ z8 (zK y7 hr1 (by rfl) y9 zV.kp y8 (z3 (qv 0) (z3 z8 z6)))))) xF)
   (zM (yN (zK y7 hr1 (by rfl) y9 zV.kp y8 (z3 (qv 0) (z3 z8 z6)))))))),λxs st Q h=> ?_⟩
 obtain⟨i,a,b,rfl,hi,hb,q⟩:=h;have hset: ∀{a b:Int},(st.set i (z9 a b))[i]?=some (z9 a b):=λ{a b} =>tU hi;refine zC ?_
 try simp? only[true_and]
 refine⟨i,4,a,b,rfl,hi,hb,by decide,by decide,λd a b d0 d1 hb=> ?_⟩;refine zC ?_
 try simp? only[true_and]
 by_cases h0:d < 2
 ·rw[if_pos (decide_eq_true h0)]
  exact⟨i,_,a,b,rfl,hset,hb,by decide,by decide,λe a b e0 e1 hb=>by try simp? only[true_and];exact q e a b e0 (by omega) hb⟩
 rw[if_neg (by simpa using h0)];refine zC ?_
 try simp? only[true_and]
 by_cases h1:d=2
 ·subst h1
  try simp? only[beq_self_eq_true]
  refine⟨i,_,a,b,rfl,hset,hb,by decide,by decide,λe a b e0 e1 hb=> ?_⟩
  try simp? only[true_and]
  exact q _ a b (by omega) (by omega) hb
 have n1:(d==2)=false:=by simpa using h1
 try simp? only[n1]
 exact⟨i,_,a,b,rfl,hset,hb,by decide,by decide,λe a b e0 e1 hb=>by try simp? only[true_and];exact q e a b e0 e1 hb⟩
theorem zas {L:Type}{lp:L->PV}{f:Addr}{fd:FuncData}(M:Mo K mg)(F:yC K "_law_term" "_law_term" pT f fd)(uN:x5 K fd ["_law_box_here","_law_leaves_here","_law_room","_law_deep"] [])(uP:mg "_law_term" =some (.ref f)): ∀d,zP P w K mg base zQ (d+2) f fd ["_law_box_here","_law_leaves_here","_law_room","_law_deep"] (zN K ((lJ lp) d))
 | 0=>⟨λvs H Q E h=>(zgd h).elim,λA outer s H args us vs Q E _ _ _ _ h=>(zgd h).elim⟩
 | d+1=>by
  have IH:zP P w K mg base zQ (d+2) f fd ["_law_box_here","_law_leaves_here","_law_room","_law_deep"] (zN K ((lJ lp) d)):=zas M F uN uP d;obtain⟨xZ,w4,zV,y8,y9⟩:=M._law_take;have y7:zP P w K mg base zQ 1 xZ w4 ["_law_box_here","_law_many"] (zN K u8):=uT M zV;obtain⟨aK,aO,nN,gP,zal⟩:=M._law_number;have h9:zP P w K mg base zQ 2 aK aO ["_law_box_here"] (zN K zbd):=zeW M nN;have t8:=F;refine xV 0 F pX (λxs st Q h=>by obtain⟨i,ls,room,deep,a,b,rfl,_⟩:=h;rfl) ⟨_,λcdv A outer s H E hr=>have hr1:y4 1 _:=hr.mono (by omega);have hr2:y4 2 _:=hr.mono (by omega);(zD (zW (i:=4) pX.nd rfl (Or.inl rfl) (zK y7 hr1 (by rfl) y9 zV.kp y8 (z3 (qv 0) (z3 z8 z6))))
   (zD (yV (PW.pt (mX (yE oZ (qv 2) z8 (yB _)) (mX (yE (yY hr) (qv 3) z8 (yB _)) (jY (yE oZ (qv 4) z8 (yB _)))))) (zD (yV (PW.pt (qM (yE uR (xO xU (by rfl) M.len PySem.boot_len (z3 (qv 1) z6)) z8 (yB _)) (qN (yE uR (zK y7 hr1 (by rfl) y9 zV.kp y8 (z3 (qv 0) (z3 z8 z6))) z8 (yB _))))) (zM (yN (zG (zO hr) (qv 1) (zK y7 hr1 (by rfl) y9 zV.kp y8 (z3 (qv 0) (z3 (xO xU (by rfl) M.len PySem.boot_len (z3 (qv 1) z6)) z6))) (λ_ _=>rfl)))) xF)
   (zM (yN (yO (z3 zI (z3 (zK h9 hr2 (by rfl) zal nN.kp gP (z3 (qv 0) z6)) z6)))))) xF)
   (zD (yV (PW.pt (qM (yE (yY hr) (qv 4) z8 (yB _)) (qN (yE uR (qv 2) z8 (yB _))))) (zD (zW (i:=5) pX.nd rfl (Or.inl rfl) (zY jI (zY rQ (qv 2) z8) z8))
   (zD (zW (i:=6) pX.nd rfl (Or.inl rfl) (zK IH hr (by rfl) uP t8.kp uN (z3 (qv 0) (z3 (qv 1) (z3 (qv 5) (z3 (zY rQ (qv 3) z8) z6))))))
   (zD (zW (i:=7) pX.nd rfl (Or.inl rfl) (zK IH hr (by rfl) uP t8.kp uN (z3 (qv 0) (z3 (qv 1) (z3 (qv 5) (z3 (zY rQ (qv 3) z8) z6))))))
   (zM (yN (yO (z3 zI (z3 (qv 6) (z3 (qv 7) (z3 (zK IH hr (by rfl) uP t8.kp uN (z3 (qv 0) (z3 (qv 1) (z3 (qv 5) (z3 (zY rQ (qv 3) z8) z6))))) z6)))))))))) xF)
   (zD (zW (i:=8) pX.nd rfl (Or.inl rfl) (zY jI (zY rQ (qv 2) z8) z8))
   (zD (zW (i:=6) pX.nd rfl (Or.inl rfl) (zK IH hr (by rfl) uP t8.kp uN (z3 (qv 0) (z3 (qv 1) (z3 (qv 8) (z3 (zY rQ (qv 3) z8) z6))))))
   (zM (yN (yO (z3 zI (z3 (zG (zO hr) zI (zK y7 hr1 (by rfl) y9 zV.kp y8 (z3 (qv 0) (z3 z8 z6))) (λ_ _=>rfl)) (z3 (qv 6) (z3 (zK IH hr (by rfl) uP t8.kp uN (z3 (qv 0) (z3 (qv 1) (z3 (qv 8) (z3 (zY rQ (qv 3) z8) z6))))) z6)))))))))))),λxs st Q h=> ?_⟩
  obtain⟨i,ls,room,deep,a,b,rfl,hi,hb,hlp,hll,d0,dd,q⟩:=h;have hset: ∀{a b:Int},(st.set i (z9 a b))[i]?=some (z9 a b):=λ{a b} =>tU hi;refine zC ?_
  try simp? only[true_and]
  refine⟨i,5,a,b,rfl,hi,hb,by decide,by decide,λf a b f0 f1 hb=> ?_⟩;refine zC ?_;refine zel (b:=decide (room < 3∨deep=0∨f < 2)) (λQ=> ?_) ?_
  ·try simp? only[true_and]
   by_cases h1:room < 3
   ·simp[h1]
   ·by_cases h2:deep=0
    ·simp[h1,h2]
    ·simp[h1,h2]
  by_cases hz:room < 3∨deep=0∨f < 2
  ·rw[if_pos (decide_eq_true hz)]
   refine zC ?_
   try simp? only[List.length_map]
   by_cases hl:0 < ls.length
   ·have hl':decide ((0:Int) < (ls.length:Int))=true:=decide_eq_true (by omega)
    try simp? only[hl']
    refine⟨i,3,a,b,rfl,hset,hb,by decide,by decide,λe a b e0 e1 hb=> ?_⟩
    try simp? only[true_and]
    by_cases he:0 < e
    ·rw[if_pos (decide_eq_true he)]
     try simp? only[List.length_map]
     refine⟨i,_,a,b,rfl,hset,hb,by omega,by omega,λg a b g0 g1 hb=> ?_⟩;obtain⟨n,rfl⟩: ∃n:Nat,g=n:=⟨g.toNat,by omega⟩;have hn:n < ls.length:=by omega
     have ha:atI (ls.map lp) (n:Int)=some (lp ls[n]):=wY (by rw[List.getElem?_map,List.getElem?_eq_getElem hn];rfl)
     try simp? only[ha]
     refine zcQ (t:= .lf ls[n]) hlp ?_;rw[zok];exact q (.lf ls[n]) a b (List.getElem_mem hn) d0 hb
    ·rw[if_neg (by simpa using he)]
     try simp? only[true_and]
     refine⟨i,a,b,rfl,hset,hb,λk a b k0 k1 hb=> ?_⟩
     try simp? only[true_and]
     exact q (.num k) a b ⟨k0,k1⟩ d0 hb
   ·have hl':decide ((0:Int) < (ls.length:Int))=false:=decide_eq_false (by omega)
    try simp? only[hl']
    refine⟨i,a,b,rfl,hset,hb,λk a b k0 k1 hb=> ?_⟩
    try simp? only[true_and]
    exact q (.num k) a b ⟨k0,k1⟩ d0 hb
  rw[if_neg (by simpa using hz)];have hd0: ¬ deep=0:=λz=>hz (.inr (.inl z))
  try simp? only[true_and]
  refine zC ?_;refine zel (b:=decide (f=4/\3 < room)) (λQ=> ?_) ?_
  ·try simp? only[true_and]
   by_cases h1:f=4
   ·subst h1;simp
   ·simp[h1]
  by_cases hc:f=4/\3 < room
  ·rw[if_pos (decide_eq_true hc)]
   refine zC ?_
   try simp? only[true_and]
   refine zC ?_
   try simp? only[true_and]
   refine⟨i,ls,_,deep - 1,a,b,rfl,hset,hb,hlp,hll,by omega,by omega,λt1 a b k1 r1 hb=> ?_⟩;refine zC ?_
   try simp? only[true_and]
   refine⟨i,ls,_,deep - 1,a,b,rfl,hset,hb,hlp,hll,by omega,by omega,λt2 a b k2 r2 hb=> ?_⟩
   try simp? only[true_and]
   refine⟨i,ls,_,deep - 1,a,b,rfl,hset,hb,hlp,hll,by omega,by omega,λt3 a b k3 r3 hb=> ?_⟩
   try simp? only[za4 hlp]
   exact q (.ite t1 t2 t3) a b ⟨k1,k2,k3⟩ (by show((max t1.rank (max t2.rank t3.rank)+1:Nat):Int)<=deep;omega) hb
  rw[if_neg (by simpa using hc)]
  try simp? only[true_and]
  refine zC ?_
  try simp? only[true_and]
  refine zC ?_
  try simp? only[true_and]
  refine⟨i,ls,_,deep - 1,a,b,rfl,hset,hb,hlp,hll,by omega,by omega,λt1 a b k1 r1 hb=> ?_⟩
  try simp? only[true_and]
  refine⟨i,5,a,b,rfl,hset,hb,by decide,by decide,λg a b g0 g1 hb=> ?_⟩;obtain⟨c,hc,hs⟩:=znz g g0 g1
  try simp? only[hc]
  refine⟨Nat.le_trans (m:=1000) (by decide+kernel) (by decide),i,ls,_,deep - 1,a,b,rfl,hset,hb,hlp,hll,by omega,by omega,λt2 a b k2 r2 hb=> ?_⟩
  try simp? only[za4 hlp]
  exact q (.op ⟨#[c]⟩ t1 t2) a b ⟨hs,k1,k2⟩ (by show((max t1.rank t2.rank+1:Nat):Int)<=deep;omega) hb
theorem zeT {L:Type}{lp:L->PV}{f:Addr}{fd:FuncData}(M:Mo K mg)(F:yC K "_law_any_term" "_law_any_term" pJ f fd):zP P w K mg base zQ 10 f fd ["_law_box_here","_law_leaves_here"] (zN K (zaX lp)):=by
 obtain⟨xZ,w4,zV,y8,y9⟩:=M._law_take;have y7:zP P w K mg base zQ 1 xZ w4 ["_law_box_here","_law_many"] (zN K u8):=uT M zV;obtain⟨aL,aP,t8,uN,uP⟩:=M._law_term;have kD:zP P w K mg base zQ 9 aL aP ["_law_box_here","_law_leaves_here","_law_room","_law_deep"] (zN K (lJ lp 7)):=zas M t8 uN uP 7;refine xV 0 F zfH (λxs st Q h=>by obtain⟨i,ls,a,b,rfl,_⟩:=h;rfl) ⟨_,λcdv A outer s H E hr=>have hr1:y4 1 _:=hr.mono (by decide);have hr9:y4 9 _:=hr.mono (by decide);(zD (zW (i:=2) zfH.nd rfl (Or.inl rfl) (zG (zO hr) (u6 (z3 z8 (z3 z8 (z3 z8 (z3 z8 z6))))) (zK y7 hr1 (by rfl) y9 zV.kp y8 (z3 (qv 0) (z3 z8 z6))) (λ_ _=>rfl)))
   (zM (yN (zK kD hr9 (by rfl) uP t8.kp uN (z3 (qv 0) (z3 (qv 1) (z3 (qv 2) (z3 (zG (zO hr) (u6 (z3 z8 (z3 z8 z6))) (u5 oY (by rfl) M.int oG (z3 (rR (yY hr) (zK y7 hr1 (by rfl) y9 zV.kp y8 (z3 (qv 0) (z3 z8 z6))) z8 (yB _)) z6)) (λ_ _=>rfl)) z6)))))))),λxs st Q h=> ?_⟩
 obtain⟨i,ls,a,b,rfl,hi,hb,hlp,hll,q⟩:=h;have hset: ∀{a b:Int},(st.set i (z9 a b))[i]?=some (z9 a b):=λ{a b} =>tU hi;refine zC ?_
 try simp? only[true_and]
 refine⟨i,4,a,b,rfl,hi,hb,by decide,by decide,λf a b f0 f1 hb=> ?_⟩;obtain⟨r,er⟩: ∃r:Int,atI [PV.int 1,.int 3,.int 7,.int 30] f=some (.int r):=by
  have:f=0∨f=1∨f=2∨f=3:=by omega
  rcases this with rfl | rfl | rfl | rfl
  ·exact⟨1,rfl⟩
  ·exact⟨3,rfl⟩
  ·exact⟨7,rfl⟩
  ·exact⟨30,rfl⟩
 try simp? only[er]
 refine⟨i,4,a,b,rfl,hset,hb,by decide,by decide,λg a b g0 g1 hb=> ?_⟩;obtain⟨dp,ed,p0,p6⟩: ∃dp:Int,atI [PV.int 2,.int 6] (if(g==1)=true then(1:Int)else 0)=some (.int dp)/\0<=dp/\dp<=6:=by
  split
  ·exact⟨6,rfl,by decide,by decide⟩
  ·exact⟨2,rfl,by decide,by decide⟩
 try simp? only[ed]
 refine⟨i,ls,r,dp,a,b,rfl,hset,hb,hlp,hll,p0,by omega,λt a b tk tr hb=> ?_⟩;refine zcQ hlp ?_
 try simp? only[true_and]
 exact q t a b tk (by omega) hb
theorem zlg {f:Addr}{fd:FuncData}(M:Mo K mg)(F:yC K "_law_manner" "_law_manner" pP f fd):zP P w K mg base zQ 10 f fd ["_law_box_here","_law_kinds","_law_calm"] (zN K zfY):=by
 obtain⟨xZ,w4,zV,y8,y9⟩:=M._law_take;have y7:zP P w K mg base zQ 1 xZ w4 ["_law_box_here","_law_many"] (zN K u8):=uT M zV;obtain⟨aL,aP,t8,uN,uP⟩:=M._law_term;have kD:zP P w K mg base zQ 9 aL aP ["_law_box_here","_law_leaves_here","_law_room","_law_deep"] (zN K (lJ tF.pv 7)):=zas M t8 uN uP 7;refine xV 0 F lF (λxs st Q h=>by obtain⟨i,a,b,rfl,_⟩:=h;rfl) ⟨_,λcdv A outer s H E hr=>have hr1:y4 1 _:=hr.mono (by decide);have hr9:y4 9 _:=hr.mono (by decide);(zD (zW (i:=3) lF.nd rfl (Or.inl rfl) (zG (zO hr) (qv 1) (zK y7 hr1 (by rfl) y9 zV.kp y8 (z3 (qv 0) (z3 (xO xU (by rfl) M.len PySem.boot_len (z3 (qv 1) z6)) z6))) (λ_ _=>rfl)))
   (zD (yV (yE (zaq hr) (qv 3) zI (yB _)) (zM (yN (yO (z3 (qv 3) z6)))) xF)
   (zD (zW (i:=4) lF.nd rfl (Or.inl rfl) (u6 (z3 (yO (z3 zI z6)) (z3 (yO (z3 zI z6)) (z3 (yO (z3 zI z6)) z6)))))
   (zD (zW (i:=5) lF.nd rfl (Or.inl rfl) (zK kD hr9 (by rfl) uP t8.kp uN (z3 (qv 0) (z3 (qv 4) (z3 (zG (zO hr) (u6 (z3 z8 (z3 z8 (z3 z8 (z3 z8 z6))))) (zK y7 hr1 (by rfl) y9 zV.kp y8 (z3 (qv 0) (z3 z8 z6))) (λ_ _=>rfl)) (z3 z8 z6))))))
   (zD (yV (jX (qv 2)) (zM (zW (i:=5) lF.nd rfl (Or.inl rfl) (yO (z3 zI (z3 (yO (z3 zI (z3 zI (z3 (zG (zO hr) (qv 4) z8 (λ_ _=>rfl)) (z3 (zG (zO hr) (qv 4) z8 (λ_ _=>rfl)) z6))))) (z3 (zG (zO hr) (qv 4) z8 (λ_ _=>rfl)) (z3 (zK kD hr9 (by rfl) uP t8.kp uN (z3 (qv 0) (z3 (qv 4) (z3 z8 (z3 z8 z6))))) z6))))))) xF)
   (zM (yN (yO (z3 zI (z3 (zY yS z8 (zK y7 hr1 (by rfl) y9 zV.kp y8 (z3 (qv 0) (z3 z8 z6)))) (z3 (qv 5) z6))))))))))),λxs st Q h=> ?_⟩
 obtain⟨i,a,b,rfl,hi,hb,q⟩:=h;have hset: ∀{a b:Int},(st.set i (z9 a b))[i]?=some (z9 a b):=λ{a b} =>tU hi;unfold oT;refine zC ?_
 try simp? only[true_and]
 refine⟨i,_,a,b,rfl,hi,hb,by decide,by decide,λd a b d0 d1 hb=> ?_⟩;obtain⟨kd,hkd,ek⟩: ∃kd:Str,(kd= "last" ∨kd= "sum" ∨kd= "bag" ∨kd= "row" ∨kd= "told")/\atI [PV.str "last",.str "sum"] d=some (.str kd):=by
  have:d=0∨d=1:=by omega
  rcases this with rfl | rfl
  ·exact⟨_,.inl rfl,rfl⟩
  ·exact⟨_,.inr (.inl rfl),rfl⟩
 try simp? only[ek]
 refine zC ?_
 try simp? only[true_and]
 by_cases ht:kd= "told"
 ·subst ht
  try simp? only[beq_self_eq_true]
  refine zC ?_
  try simp? only[true_and]
  refine zC ?_
  try simp? only[true_and]
  refine⟨i,4,a,b,rfl,hset,hb,by decide,by decide,λe a b e0 e1 hb=> ?_⟩;obtain⟨rm,er⟩: ∃rm:Int,atI [PV.int 1,.int 3,.int 7,.int 15] e=some (.int rm):=by
   have:e=0∨e=1∨e=2∨e=3:=by omega
   rcases this with rfl | rfl | rfl | rfl
   ·exact⟨1,rfl⟩
   ·exact⟨3,rfl⟩
   ·exact⟨7,rfl⟩
   ·exact⟨15,rfl⟩
  try simp? only[er]
  refine⟨i,[.was,.mine,.yours],rm,6,a,b,rfl,hset,hb,ze3,by decide,by decide,by decide,λt a b tk tr hb=> ?_⟩
  try simp? only[true_and]
  refine zC ?_
  try simp? only[true_and]
  refine⟨i,4,a,b,rfl,hset,hb,by decide,by decide,λn a b n0 n1 hb=> ?_⟩
  try simp? only[za4 ze3]
  exact q "told" [.int (2+n),t.pv tF.pv] a b (.inr ⟨rfl,2+n,t,rfl,by omega,by omega,by omega⟩) hb
 ·have nt:(kd==("told" :Str))=false:=by simpa using ht
  try simp? only[nt]
  exact q kd [] a b (.inl ⟨by rcases hkd with h | h | h | h | h <;> simp_all,rfl⟩) hb
theorem nd5:(["_law_box_here","_law_manner_here","_law_things","_law_found","_law_word","_law_many","_law_k"]:List Str).Nodup:=by decide+kernel
theorem zlb {f:Addr}{fd:FuncData}(M:Mo K mg)(F:yC K "_law_begin" "_law_begin" qQ f fd):zP P w K mg base zQ 3 f fd ["_law_box_here","_law_manner_here","_law_things"] (zN K zfQ):=by
 obtain⟨xZ,w4,zV,y8,y9⟩:=M._law_take;have y7:zP P w K mg base zQ 1 xZ w4 ["_law_box_here","_law_many"] (zN K u8):=uT M zV;obtain⟨aK,aO,nN,gP,zal⟩:=M._law_number;have h9:zP P w K mg base zQ 2 aK aO ["_law_box_here"] (zN K zbd):=zeW M nN;refine xV 0 F lB (λxs st Q h=>by obtain⟨i,kd,r,ws,a,b,rfl,_⟩:=h;rfl) ⟨_,λcdv A outer s H E hr=>have hr1:y4 1 _:=hr.mono (by decide);have hr2:y4 2 _:=hr.mono (by decide);(zD (yV (yE (yY hr) (zG (zO hr) (qv 1) z8 (λ_ _=>rfl)) zI (yB _)) (zM (yN (zK y7 hr1 (by rfl) y9 zV.kp y8 (z3 (qv 0) (z3 (zG (zO hr) (qv 1) z8 (λ_ _=>rfl)) z6))))) xF)
   (zD (yV (yE (yY hr) (zG (zO hr) (qv 1) z8 (λ_ _=>rfl)) zI (yB _)) (zD (zW (i:=3) lB.nd rfl (Or.inl rfl) (tL z6))
   (zD (vM PassesOwn.never rfl (vL (xO zkY (by rfl) M.sorted PyProof.Rows.boot_sorted (z3 (qv 2) z6))) (yF (i:=4) lB.nd rfl (Or.inl rfl)) (zD (zW (i:=5) lB.nd rfl (Or.inl rfl) (zY rQ (zK y7 hr1 (by rfl) y9 zV.kp y8 (z3 (qv 0) (z3 z8 z6))) z8))
   (zM (yV (yE (yY hr) (zK y7 hr1 (by rfl) y9 zV.kp y8 (z3 (qv 0) (z3 z8 z6))) z8 (yB _)) (zM (wO (wN PySem.F.plainAttrs_list PySem.F.slot_list_append PySem.F.type_list_append (by decide) uF (qv 3) (z3 (yO (z3 (qv 4) (z3 (zY yS (qv 5) (u5 oY (by rfl) M.int oG (z3 (rR zeP (qv 5) z8 (yB _)) z6))) z6))) z6)))) xF))))
   (zM (yN (u5 (qK rfl) (by rfl) M.tuple rF (z3 (qv 3) z6)))))) xF)
   (zD (yV (yE (yY hr) (zG (zO hr) (qv 1) z8 (λ_ _=>rfl)) zI (yB _)) (zD (zW (i:=5) lB.nd rfl (Or.inl rfl) (zK y7 hr1 (by rfl) y9 zV.kp y8 (z3 (qv 0) (z3 (zG (zO hr) (u6 (z3 z8 (z3 z8 z6))) (u5 oY (by rfl) M.int oG (z3 (rR (yY hr) (zK y7 hr1 (by rfl) y9 zV.kp y8 (z3 (qv 0) (z3 z8 z6))) z8 (yB _)) z6)) (λ_ _=>rfl)) z6))))
   (zM (yN (u5 (qK rfl) (by rfl) M.tuple rF (z3 (qL (own:= ["_law_k"]) (tI (fsc:=zS qQ) (N:= ["_law_box_here","_law_manner_here","_law_things","_law_found","_law_word","_law_many"]) (N':= ["_law_box_here","_law_manner_here","_law_things","_law_found","_law_word","_law_many"]) rfl rfl (by decide+kernel)) rfl (rS (by rfl) M.range (z3 (qv 5) z6)) (λC s H fp pins=>(yF (i:=6) nd5 rfl (Or.inl rfl))) (λC s H fp pins=>mW) (λC s H fp pins=>(zG (zO hr) (qv 2) (zK y7 hr1 (by rfl) y9 zV.kp y8 (z3 (qv 0) (z3 (xO xU (by rfl) M.len PySem.boot_len (z3 (qv 2) z6)) z6))) (λ_ _=>rfl)))) z6))))) xF)
   (zM (yN (zK h9 hr2 (by rfl) zal nN.kp gP (z3 (qv 0) z6))))))),λxs st Q h=> ?_⟩
 obtain⟨i,kd,r,ws,a,b,rfl,hi,hb,hmn,hne,hwl,hnd,q⟩:=h;have hil:=(List.getElem?_eq_some_iff.mp hi).1;have hset: ∀{a b:Int},(st.set i (z9 a b))[i]?=some (z9 a b):=λ{a b} =>tU hi;have hset2: ∀{a b:Int} {o:PO},(st.set i (z9 a b)++ [o])[i]?=some (z9 a b):=λ{a b o} =>j7 hset;have hput: ∀{a b c d:Int} {o:PO},(st.set i (z9 a b)++ [o]).set i (z9 c d)=st.set i (z9 c d)++ [o]:=λ{a b c d o} =>by rw[zaW (by rw[List.length_set];exact hil),set_set]
 have hsl: ∀{o:PO},(st.set i o).length=st.length:=List.length_set;have hat: ∀{a b:Int} {o:PO},(st.set i (z9 a b)++ [o])[st.length]?=some o:=λ{a b o} =>by rw[<- hsl (o:=z9 a b)];exact rO
 have hst2: ∀{a b:Int} {o o':PO},(st.set i (z9 a b)++ [o]).set st.length o'=st.set i (z9 a b)++ [o']:=λ{a b o o'} =>by rw[<- hsl (o:=z9 a b)];exact nB
 have htk: ∀{a b:Int} {o:PO},(st.set i (z9 a b)++ [o]).take st.length=st.set i (z9 a b):=λ{a b o} =>by rw[<- hsl (o:=z9 a b)];exact zbm
 have hst:st=st.set i (z9 a b):=by
  obtain⟨h1,h2⟩:=List.getElem?_eq_some_iff.mp hi;rw[<- h2,List.set_getElem_self]
 have hpos:0 < ws.length:=List.length_pos_iff.mpr hne;have n_last_told:(("last" :Str)==("told" :Str))=false:=by decide+kernel
 have n_last_bag:(("last" :Str)==("bag" :Str))=false:=by decide+kernel
 have n_last_row:(("last" :Str)==("row" :Str))=false:=by decide+kernel
 have n_sum_told:(("sum" :Str)==("told" :Str))=false:=by decide+kernel
 have n_sum_bag:(("sum" :Str)==("bag" :Str))=false:=by decide+kernel
 have n_sum_row:(("sum" :Str)==("row" :Str))=false:=by decide+kernel
 have n_bag_told:(("bag" :Str)==("told" :Str))=false:=by decide+kernel
 have n_row_told:(("row" :Str)==("told" :Str))=false:=by decide+kernel
 have n_row_bag:(("row" :Str)==("bag" :Str))=false:=by decide+kernel
 rcases hmn with⟨hk,rfl⟩ | ⟨rfl,n,t,rfl,n2,n6⟩
 ·rcases hk with rfl | rfl | rfl | rfl
  ·refine zC ?_
   try simp? only[n_last_told]
   refine zC ?_
   try simp? only[n_last_bag]
   refine zC ?_
   try simp? only[n_last_row]
   refine⟨i,a,b,rfl,hi,hb,λd a b d0 d1 hb=> ?_⟩
   try simp? only[true_and]
   exact q (.int d) a b ⟨by decide+kernel,by decide+kernel,d0,d1⟩ hb
  ·refine zC ?_
   try simp? only[n_sum_told]
   refine zC ?_
   try simp? only[n_sum_bag]
   refine zC ?_
   try simp? only[n_sum_row]
   refine⟨i,a,b,rfl,hi,hb,λd a b d0 d1 hb=> ?_⟩
   try simp? only[true_and]
   exact q (.int d) a b ⟨by decide+kernel,by decide+kernel,d0,d1⟩ hb
  ·refine zC ?_
   try simp? only[n_bag_told]
   refine zC ?_
   try simp? only[beq_self_eq_true]
   refine zC ?_
   try simp? only[true_and]
   refine zC ?_
   try simp? only[zaJ,oU]
   refine⟨ws,rfl,by omega,λss hp hs=> ?_⟩;have hss:ss.Nodup:=hp.nodup_iff.mpr hnd;have hsln:=hp.length_eq
   try simp? only[true_and]
   refine wZ (λk env s=> ∃(l:List (Str×Int)) (v w:Option PV) (a b:Int),env= [some (PV.obj i),some (.tup [.str "bag"]),some (.lst (ws.map PV.str)),some (.obj st.length),v,w]/\(l.map (·.1)).Sublist (ss.take k)/\yD a b/\s=st.set i (z9 a b)++ [.lst (l.map λq=>PV.tup [.str q.1,.int q.2])])
    ⟨[],none,none,a,b,rfl,by simp,hb,by rw[<- hst];rfl⟩ ?_ ?_
   ·rintro k x env s hx ⟨l,v,w,a,b,rfl,hl,hb,rfl⟩
    obtain⟨wd,hwd,rfl⟩:=wW hx;have hll:l.length<=40:=by
     have:=hl.length_le;rw[List.length_map,List.length_take]at this;omega
    try simp? only[true_and]
    refine zC ?_
    try simp? only[true_and]
    refine⟨i,198,a,b,rfl,hset2,hb,by decide,by decide,λd a b d0 d1 hb=> ?_⟩
    try simp? only[hput]
    refine⟨i,2,a,b,rfl,hset2,hb,by decide,by decide,λe a b e0 e1 hb=> ?_⟩
    try simp? only[hput]
    by_cases h1:e=1
    ·subst h1
     try simp? only[beq_self_eq_true,hat,hst2,List.length_map]
     refine⟨Nat.lt_of_lt_of_le (m:=1000) (by omega) (by decide),l++ [(wd,_)],_,_,a,b,rfl,?_,hb,by simp;rfl⟩;rw[lN hwd,List.map_append];exact hl.append (List.Sublist.refl _)
    ·have n1:(e==1)=false:=by simpa using h1
     try simp? only[n1]
     exact⟨l,_,_,a,b,rfl,by rw[lN hwd];exact hl.trans (List.sublist_append_left _ _),hb,rfl⟩
   ·rintro env s ⟨l,v,w,a,b,rfl,hl,hb,rfl⟩
    have hsub:=hl.trans (List.take_sublist _ _);have hll:l.length<=40:=by
     have:=hsub.length_le;rw[List.length_map]at this;omega
    try simp? only[hat,htk]
    exact q (.bag l) a b ⟨rfl,hss.sublist hsub,hll⟩ hb
  ·refine zC ?_
   try simp? only[n_row_told]
   refine zC ?_
   try simp? only[n_row_bag]
   refine zC ?_
   try simp? only[beq_self_eq_true]
   refine zC ?_
   try simp? only[true_and]
   refine⟨i,4,a,b,rfl,hi,hb,by decide,by decide,λe a b e0 e1 hb=> ?_⟩;obtain⟨z,ez,z0,z1⟩: ∃z:Int,atI [PV.int 5,.int 21] (if(e==1)=true then(1:Int)else 0)=some (.int z)/\0 < z/\z<=21:=by
    split
    ·exact⟨21,rfl,by decide,by decide⟩
    ·exact⟨5,rfl,by decide,by decide⟩
   try simp? only[ez]
   refine⟨i,z,a,b,rfl,hset,hb,z0,by omega,λm a b m0 m1 hb=> ?_⟩
   try simp? only[true_and]
   refine⟨⟨by omega,by omega⟩,λk ys env s=> ∃(us:List Str) (v:Option PV) (a b:Int),ys=us.map PV.str/\us.length=k/\env= [some (PV.obj i),some (.tup [.str "row"]),some (.lst (ws.map PV.str)),none,none,some (.int m),v]/\yD a b/\s=st.set i (z9 a b),⟨[],none,a,b,rfl,rfl,rfl,hb,rfl⟩,?_,?_⟩
   ·rintro k x ys env s hx ⟨us,v,a,b,rfl,hk,rfl,hb,rfl⟩
    obtain⟨_,rfl⟩:=tO hx
    try simp? only[List.length_map]
    refine⟨i,_,a,b,rfl,hset,hb,by omega,by omega,λe a b e0 e1 hb=> ?_⟩;obtain⟨t,_,et⟩:=oF PV.str (ns:=ws) e0 e1
    try simp? only[et]
    exact⟨us++ [t],_,a,b,by simp,by simp[hk],rfl,hb,rfl⟩
   ·rintro ys env s ⟨us,v,a,b,rfl,hk,rfl,hb,rfl⟩
    rw[uW]at hk
    try simp? only[true_and]
    exact q (.row us) a b ⟨rfl,by omega⟩ hb
 ·refine zC ?_
  try simp? only[beq_self_eq_true]
  refine⟨i,n,a,b,rfl,hi,hb,by omega,by omega,λd a b d0 d1 hb=> ?_⟩
  try simp? only[true_and]
  exact q (.int d) a b ⟨by decide+kernel,by decide+kernel,d0,by omega⟩ hb
theorem zlf {f:Addr}{fd:FuncData}(M:Mo K mg)(F:yC K "_law_leaves" "_law_leaves" pO f fd):zP P w K mg base zQ 2 f fd ["_law_box_here","_law_shelves","_law_things"] (zN K zfX):=by
 obtain⟨xZ,w4,zV,y8,y9⟩:=M._law_take;have y7:zP P w K mg base zQ 1 xZ w4 ["_law_box_here","_law_many"] (zN K u8):=uT M zV;refine xV 0 F lE (λxs st Q h=>by obtain⟨i,sh,ws,a,b,rfl,_⟩:=h;rfl) ⟨_,λcdv A outer s H E hr=>have hr1:y4 1 _:=hr.mono (by decide);(zD (zW (i:=3) lE.nd rfl (Or.inl rfl) (tL z6))
   (zD (vM PassesOwn.never rfl (vL (qv 1)) (tM (n:=3) rfl (xE (yF (i:=4) lE.nd rfl (Or.inl rfl)) (xE (yF (i:=5) lE.nd rfl (Or.inl rfl)) (xE (yF (i:=6) lE.nd rfl (Or.inl rfl)) uV)))) (zM (yV (yE (yY hr) (zG (zO hr) (qv 5) z8 (λ_ _=>rfl)) zI (yB _)) (zM (wO (wN PySem.F.plainAttrs_list PySem.F.slot_list_append PySem.F.type_list_append (by decide) uF (qv 3) (z3 (yO (z3 zI (z3 (qv 4) (z3 (zG (zO hr) (qv 2) (zK y7 hr1 (by rfl) y9 zV.kp y8 (z3 (qv 0) (z3 (xO xU (by rfl) M.len PySem.boot_len (z3 (qv 2) z6)) z6))) (λ_ _=>rfl)) z6)))) z6)))) (zM (wO (wN PySem.F.plainAttrs_list PySem.F.slot_list_append PySem.F.type_list_append (by decide) uF (qv 3) (z3 (zG (zO hr) (u6 (z3 (yO (z3 zI (z3 (qv 4) z6))) (z3 (yO (z3 zI (z3 (qv 4) z6))) z6))) (u5 oY (by rfl) M.int oG (z3 (rR (yY hr) (zG (zO hr) (qv 5) z8 (λ_ _=>rfl)) zI (yB _)) z6)) (λ_ _=>rfl)) z6)))))))
   (zM (yN (qv 3))))),λxs st Q h=> ?_⟩
 obtain⟨i,sh,ws,a,b,rfl,hi,hb,hk,hsl,hne,hwl,q⟩:=h;have hil:=(List.getElem?_eq_some_iff.mp hi).1;have hset: ∀{a b:Int},(st.set i (z9 a b))[i]?=some (z9 a b):=λ{a b} =>tU hi;have hset2: ∀{a b:Int} {o:PO},(st.set i (z9 a b)++ [o])[i]?=some (z9 a b):=λ{a b o} =>j7 hset;have hput: ∀{a b c d:Int} {o:PO},(st.set i (z9 a b)++ [o]).set i (z9 c d)=st.set i (z9 c d)++ [o]:=λ{a b c d o} =>by rw[zaW (by rw[List.length_set];exact hil),set_set]
 have hsl2: ∀{o:PO},(st.set i o).length=st.length:=List.length_set;have hst:st=st.set i (z9 a b):=by
  obtain⟨h1,h2⟩:=List.getElem?_eq_some_iff.mp hi;rw[<- h2,List.set_getElem_self]
 have hpos:0 < ws.length:=List.length_pos_iff.mpr hne;refine zC ?_
 try simp? only[true_and]
 refine zC ?_
 try simp? only[true_and]
 refine wZ (λk env s=> ∃(ls:List Lf) (v w x:Option PV) (a b:Int),env= [some (PV.obj i),some (.lst (sh.map yA)),some (.lst (ws.map PV.str)),some (.obj st.length),v,w,x]/\ls.length=k/\(∀l∈ls,nR sh l)/\yD a b/\s=st.set i (z9 a b)++ [.lst (ls.map Lf.pv)])
  ⟨[],none,none,none,a,b,rfl,rfl,by simp,hb,by rw[<- hst];rfl⟩ ?_ ?_
 ·rintro k y env s hy ⟨ls,v,w,x,a,b,rfl,hk',hl,hb,rfl⟩
  obtain⟨s0,hs0,rfl⟩:=wW hy;have ms:=List.mem_of_getElem? hs0;have hkl:=(List.getElem?_eq_some_iff.mp hs0).1;obtain⟨kd,r,er⟩:=hk s0 ms;have hat: ∀{a b:Int} {o:PO},(st.set i (z9 a b)++ [o])[st.length]?=some o:=λ{a b o} =>by rw[<- hsl2 (o:=z9 a b)];exact rO
  have hst2: ∀{a b:Int} {o o':PO},(st.set i (z9 a b)++ [o]).set st.length o'=st.set i (z9 a b)++ [o']:=λ{a b o o'} =>by rw[<- hsl2 (o:=z9 a b)];exact nB
  unfold yA;rw[er];have more: ∀(l:Lf) (a b:Int),nR sh l->yD a b->∀v w x,∃(ls':List Lf) (v' w' x':Option PV) (a' b':Int),[some (PV.obj i),some (.lst (sh.map yA)),some (.lst (ws.map PV.str)),some (.obj st.length),v,w,x]= [some (PV.obj i),some (.lst (sh.map yA)),some (.lst (ws.map PV.str)),some (.obj st.length),v',w',x']/\ls'.length=k+1/\(∀l∈ls',nR sh l)/\yD a' b'/\st.set i (z9 a b)++ [PO.lst (ls.map Lf.pv++ [l.pv])]=st.set i (z9 a' b')++ [.lst (ls'.map Lf.pv)]:=λl a b h1 h2 v w x=>
   ⟨ls++ [l],v,w,x,a,b,rfl,by simp[hk'],λl' hl'=>by
    rcases List.mem_append.mp hl' with h | h
    ·exact hl l' h
    ·rw[List.mem_singleton.mp h];exact h1,h2,by simp⟩
  have small:(ls.map Lf.pv).length < sizeLine:=Nat.lt_of_lt_of_le (m:=1000) (by rw[List.length_map];omega) (by decide)
  try simp? only[true_and]
  by_cases hbag:kd= "bag"
  ·subst hbag
   try simp? only[beq_self_eq_true,List.length_map,hat]
   refine⟨i,_,a,b,rfl,hset2,hb,by omega,by omega,λe a b e0 e1 hb=> ?_⟩;obtain⟨t,_,et⟩:=oF PV.str (ns:=ws) e0 e1
   try simp? only[et,hput,hat,hst2]
   exact⟨small,more (.many s0.1 t) a b ⟨s0,ms,"bag",⟨r,er⟩,.inl ⟨rfl,t,rfl⟩⟩ hb _ _ _⟩
  ·have nb:(kd==("bag" :Str))=false:=by simpa using hbag
   try simp? only[nb]
   by_cases hrow:kd= "row"
   ·subst hrow
    try simp? only[beq_self_eq_true,hat,hst2]
    exact⟨small,more (.long s0.1) a b ⟨s0,ms,"row",⟨r,er⟩,.inr (.inl ⟨rfl,rfl⟩)⟩ hb _ _ _⟩
   ·have nr:(kd==("row" :Str))=false:=by simpa using hrow
    try simp? only[nr,hat,hst2]
    exact⟨small,more (.shelf s0.1) a b ⟨s0,ms,kd,⟨r,er⟩,.inr (.inr ⟨hbag,hrow,rfl⟩)⟩ hb _ _ _⟩
 ·rintro env s ⟨ls,v,w,x,a,b,rfl,hk',hl,hb,rfl⟩
  rw[List.length_map]at hk'
  try simp? only[true_and]
  rw[show xG st.length Q=xG ((st.set i (z9 a b)).length+0) Q by rw[hsl2];rfl,<- hsl2 (o:=z9 a b),j3];exact q ls a b hk' hl hb
theorem zlc {f:Addr}{fd:FuncData}(M:Mo K mg)(F:yC K "_law_deed" "_law_deed" pL f fd):zP P w K mg base zQ 11 f fd ["_law_box_here","_law_shelf","_law_leaves_here","_law_things"] (zN K zfR):=by
 obtain⟨xZ,w4,zV,y8,y9⟩:=M._law_take;have y7:zP P w K mg base zQ 1 xZ w4 ["_law_box_here","_law_many"] (zN K u8):=uT M zV;obtain⟨aI,aM,oA,kN,jF⟩:=M._law_any_term;have kC:zP P w K mg base zQ 10 aI aM ["_law_box_here","_law_leaves_here"] (zN K (zaX Lf.pv)):=zeT M oA;refine xV 0 F pV (λxs st Q h=>by obtain⟨i,nm,kd,r,bg,ls,ws,a,b,rfl,_⟩:=h;rfl) ⟨_,λcdv A outer s H E hr=>have hr1:y4 1 _:=hr.mono (by decide);have hr10:y4 10 _:=hr.mono (by decide);(zD (vQ (qv 1) (tM (n:=3) rfl (xE (yF (i:=4) pV.nd rfl (Or.inl rfl)) (xE (yF (i:=5) pV.nd rfl (Or.inl rfl)) (xE (yF (i:=6) pV.nd rfl (Or.inl rfl)) uV)))))
   (zD (zW (i:=7) pV.nd rfl (Or.inl rfl) (zG (zO hr) (qv 3) (zK y7 hr1 (by rfl) y9 zV.kp y8 (z3 (qv 0) (z3 (xO xU (by rfl) M.len PySem.boot_len (z3 (qv 3) z6)) z6))) (λ_ _=>rfl)))
   (zD (yV (yE (yY hr) (zG (zO hr) (qv 5) z8 (λ_ _=>rfl)) zI (yB _)) (zM (yN (yO (z3 (zG (zO hr) (u6 (z3 zI (z3 zI z6))) (zK y7 hr1 (by rfl) y9 zV.kp y8 (z3 (qv 0) (z3 z8 z6))) (λ_ _=>rfl)) (z3 (qv 4) (z3 (qv 7) z6)))))) xF)
   (zD (zW (i:=8) pV.nd rfl (Or.inl rfl) (zK kC hr10 (by rfl) jF oA.kp kN (z3 (qv 0) (z3 (qv 2) z6))))
   (zD (yV (yE (yY hr) (zG (zO hr) (qv 5) z8 (λ_ _=>rfl)) zI (yB _)) (zM (yN (yO (z3 zI (z3 (qv 4) (z3 (qv 8) z6)))))) xF)
   (zD (yV (yE (zaq hr) (zG (zO hr) (qv 5) z8 (λ_ _=>rfl)) zI (yB _)) (zM (yN (yO (z3 zI (z3 (qv 4) (z3 (qv 8) z6)))))) xF)
   (zD (yV (yE (yY hr) (zK y7 hr1 (by rfl) y9 zV.kp y8 (z3 (qv 0) (z3 z8 z6))) z8 (yB _)) (zM (zW (i:=8) pV.nd rfl (Or.inl rfl) (yO (z3 zI (z3 (zK y7 hr1 (by rfl) y9 zV.kp y8 (z3 (qv 0) (z3 z8 z6))) z6))))) xF)
   (zD (yV (yE uR (zK y7 hr1 (by rfl) y9 zV.kp y8 (z3 (qv 0) (z3 z8 z6))) z8 (yB _)) (zM (yN (yO (z3 zI (z3 (qv 4) (z3 (qv 8) (z3 (qv 7) z6))))))) xF)
   (zM (yN (yO (z3 zI (z3 (qv 4) (z3 (qv 8) z6)))))))))))))),λxs st Q h=> ?_⟩
 obtain⟨i,nm,kd,r,bg,ls,ws,a,b,rfl,hbg,hi,hb,hwe,hwl,hll,q⟩:=h;have hset: ∀{a b:Int},(st.set i (z9 a b))[i]?=some (z9 a b):=λ{a b} =>tU hi;have hw0:0 < ws.length:=List.length_pos_iff.mpr hwe;refine zC ?_
 try simp? only[hbg]
 refine zC ?_
 try simp? only[List.length_map]
 refine⟨i,(ws.length:Int),a,b,rfl,hi,hb,by omega,by omega,λd a b d0 d1 hb=> ?_⟩;obtain⟨wd,_,ew⟩:=oF PV.str (ns:=ws) d0 d1
 try simp? only[ew]
 refine zC ?_;by_cases k1:kd= "bag"
 ·subst k1
  try simp? only[beq_self_eq_true]
  refine⟨i,2,a,b,rfl,hset,hb,by decide,by decide,λg a b g0 g1 hb=> ?_⟩;have hg:g=0∨g=1:=by omega
  rcases hg with rfl | rfl
  ·try simp? only[set_set]
   exact q (.bag true nm wd) a b ⟨rfl,λx hx=>(by cases hx),rfl⟩ hb
  ·try simp? only[set_set]
   exact q (.bag false nm wd) a b ⟨rfl,λx hx=>(by cases hx),rfl⟩ hb
 have n1:(kd==("bag" :Str))=false:=by simpa using k1
 try simp? only[n1]
 refine zC ?_
 try simp? only[true_and]
 refine⟨i,ls,a,b,rfl,hset,hb,zaj,hll,λt a b tok u9 hb=> ?_⟩
 try simp? only[set_set]
 refine zC ?_;by_cases k2:kd= "sum"
 ·subst k2
  try simp? only[beq_self_eq_true]
  exact⟨sE t,q (.more nm t) a b ⟨rfl,λx hx=>(by cases hx;exact⟨tok,u9⟩),rfl⟩ hb⟩
 have n2:(kd==("sum" :Str))=false:=by simpa using k2
 try simp? only[n2]
 refine zC ?_;by_cases k3:kd= "row"
 rotate_left
 ·have n3:(kd==("row" :Str))=false:=by simpa using k3
  try simp? only[n3]
  exact⟨sE t,q (.set nm t) a b ⟨rfl,λx hx=>(by cases hx;exact⟨tok,u9⟩),k1,k3,k2⟩ hb⟩
 subst k3
 try simp? only[beq_self_eq_true]
 refine sY (λenv s=> ∃(t:Tm Lf) (a b:Int),env= [some (PV.obj i),some (.tup [.str nm,.tup (.str "row" ::r),bg]),some (.lst (ls.map Lf.pv)),some (.lst (ws.map PV.str)),some (.str nm),some (.tup (.str "row" ::r)),some bg,some (.str wd),some (t.pv Lf.pv)]/\s=st.set i (z9 a b)/\yD a b/\t.ok (λl=>l∈ls)/\t.rank < 7) (λN hN=> ?_) ?_
 ·try simp? only[true_and]
  refine⟨i,2,a,b,rfl,hset,hb,by decide,by decide,λg a b g0 g1 hb=> ?_⟩
  try simp? only[set_set]
  by_cases h0:g=0
  ·subst h0
   try simp? only[beq_self_eq_true]
   refine⟨i,6,a,b,rfl,hset,hb,by decide,by decide,λe a b e0 e1 hb=> ?_⟩
   try simp? only[set_set]
   exact hN _ _ ⟨.num e,a,b,rfl,rfl,hb,⟨e0,by omega⟩,by show 0 < 7;decide⟩
  ·have nf:(g==0)=false:=by simpa using h0
   try simp? only[nf]
   exact hN _ _ ⟨t,a,b,rfl,rfl,hb,tok,u9⟩
 ·rintro env s0 ⟨t,a,b,rfl,rfl,hb,tok,u9⟩
  refine zC ?_
  try simp? only[true_and]
  refine⟨i,5,a,b,rfl,hset,hb,by decide,by decide,λg a b g0 g1 hb=> ?_⟩
  try simp? only[set_set]
  by_cases h1:1 < g
  ·have hd:decide (1 < g)=true:=decide_eq_true h1
   try simp? only[hd]
   exact⟨sE t,q (.lay nm t wd) a b ⟨rfl,λx hx=>(by cases hx;exact⟨tok,u9⟩),rfl⟩ hb⟩
  ·have hd:decide (1 < g)=false:=decide_eq_false h1
   try simp? only[hd]
   exact⟨sE t,q (.drop nm t) a b ⟨rfl,λx hx=>(by cases hx;exact⟨tok,u9⟩),rfl⟩ hb⟩
theorem zli {f:Addr}{fd:FuncData}(M:Mo K mg)(F:yC K "_law_row" "_law_row" pR f fd):zP P w K mg base zQ 12 f fd ["_law_box_here","_law_uses","_law_things"] (zN K lI):=by
 obtain⟨xZ,w4,zV,y8,y9⟩:=M._law_take;have y7:zP P w K mg base zQ 1 xZ w4 ["_law_box_here","_law_many"] (zN K u8):=uT M zV;obtain⟨aI,aM,oA,kN,jF⟩:=M._law_any_term;have kC:zP P w K mg base zQ 10 aI aM ["_law_box_here","_law_leaves_here"] (zN K (zaX Lf.pv)):=zeT M oA;obtain⟨ziT,zjf,zbD,zhN,zkv⟩:=M._law_leaves;have zhh:zP P w K mg base zQ 2 ziT zjf ["_law_box_here","_law_shelves","_law_things"] (zN K zfX):=zlf M zbD;obtain⟨ziP,zjb,zbB,zhL,zkt⟩:=M._law_deed;have zhe:zP P w K mg base zQ 11 ziP zjb ["_law_box_here","_law_shelf","_law_leaves_here","_law_things"] (zN K zfR):=zlc M zbB;refine xV 0 F nA (λxs st Q h=>by obtain⟨i,sh,ws,a,b,rfl,_⟩:=h;rfl) ⟨_,λcdv A outer s H E hr=>have hr1:y4 1 _:=hr.mono (by decide);have hr2:y4 2 _:=hr.mono (by decide);have hr10:y4 10 _:=hr.mono (by decide);have hr11:y4 11 _:=hr.mono (by decide);(zD (vQ (qv 1) (tM (n:=2) rfl (xE (yF (i:=3) nA.nd rfl (Or.inl rfl)) (xE (yF (i:=4) nA.nd rfl (Or.inl rfl)) uV))))
   (zD (zW (i:=5) nA.nd rfl (Or.inl rfl) (zK zhh hr2 (by rfl) zkv zbD.kp zhN (z3 (qv 0) (z3 (qv 4) (z3 (qv 2) z6)))))
   (zD (zW (i:=6) nA.nd rfl (Or.inl rfl) (yO (z3 zI (z3 (zK kC hr10 (by rfl) jF oA.kp kN (z3 (qv 0) (z3 (qv 5) z6))) z6))))
   (zD (yV (PW.pt (qM (yE uR (xO xU (by rfl) M.len PySem.boot_len (z3 (qv 3) z6)) z8 (yB _)) (qN (yE uR (zK y7 hr1 (by rfl) y9 zV.kp y8 (z3 (qv 0) (z3 z8 z6))) z8 (yB _))))) (zM (zW (i:=6) nA.nd rfl (Or.inl rfl) (zK zhe hr11 (by rfl) zkt zbB.kp zhL (z3 (qv 0) (z3 (zG (zO hr) (qv 3) (zK y7 hr1 (by rfl) y9 zV.kp y8 (z3 (qv 0) (z3 (xO xU (by rfl) M.len PySem.boot_len (z3 (qv 3) z6)) z6))) (λ_ _=>rfl)) (z3 (qv 5) (z3 (qv 2) z6))))))) xF)
   (zD (yV (yE (yY hr) (zK y7 hr1 (by rfl) y9 zV.kp y8 (z3 (qv 0) (z3 z8 z6))) z8 (yB _)) (zM (yN (yO (z3 zI (z3 (zK kC hr10 (by rfl) jF oA.kp kN (z3 (qv 0) (z3 (qv 5) z6))) (z3 (qv 6) z6)))))) xF)
   (zM (yN (qv 6)))))))),λxs st Q h=> ?_⟩
 obtain⟨i,sh,ws,a,b,rfl,hi,hb,hsh,hse,hsl,hwe,hwl,q⟩:=h;have hset: ∀{a b:Int},(st.set i (z9 a b))[i]?=some (z9 a b):=λ{a b} =>tU hi;have hs0:0 < sh.length:=List.length_pos_iff.mpr hse;have hk: ∀s∈sh,∃kd,gA s kd:=λs hs=>let⟨kd,r,h,e,_⟩:=hsh s hs;⟨kd,r,e⟩;refine zC ?_
 try simp? only[true_and]
 refine zC ?_
 try simp? only[true_and]
 refine⟨i,sh,ws,a,b,rfl,hi,hb,hk,by omega,hwe,hwl,λls a b lll hls hb=> ?_⟩;have tf: ∀{t:Tm Lf},t.ok (λl=>l∈ls)->t.rank < 7->gI sh t:=λh1 h2=>⟨Tm.ok_mono (λl hl=>hls l hl) h1,h2⟩
 try simp? only[true_and]
 refine zC ?_
 try simp? only[true_and]
 refine⟨i,ls,a,b,rfl,hset,hb,zaj,by omega,λt a b tok u9 hb=> ?_⟩
 try simp? only[set_set,sE]
 refine sY (λenv s=> ∃(d:Dd) (a b:Int),env= [some (PV.obj i),some (.tup [.lst (sh.map yA),.lst (sh.map yA)]),some (.lst (ws.map PV.str)),some (.lst (sh.map yA)),some (.lst (sh.map yA)),some (.lst (ls.map Lf.pv)),some d.pv]/\s=st.set i (z9 a b)/\yD a b/\zb_ sh d) (λN hN=> ?_) ?_
 ·have hd0:decide ((0:Int) < (sh.length:Int))=true:=decide_eq_true (by omega)
  try simp? only[List.length_map,hd0]
  refine⟨i,6,a,b,rfl,hset,hb,by decide,by decide,λg a b g0 g1 hb=> ?_⟩
  try simp? only[set_set]
  by_cases hg:0 < g
  ·have hd:decide (0 < g)=true:=decide_eq_true hg
   try simp? only[hd,List.length_map]
   refine⟨i,(sh.length:Int),a,b,rfl,hset,hb,by omega,by omega,λe a b e0 e1 hb=> ?_⟩;obtain⟨n,rfl⟩: ∃n:Nat,e=n:=⟨e.toNat,by omega⟩;have hn:sh[n]?=some sh[n]:=List.getElem?_eq_getElem (by omega);obtain⟨kd,r,h,es,hm,eb,hv⟩:=hsh _ (List.mem_iff_getElem?.mpr ⟨n,hn⟩);have er:atI (sh.map yA) (n:Int)=some (.tup [.str sh[n].1,.tup (.str kd::r),h.pv]):=by
    rw[znA hn];unfold yA;rw[es,eb]
   try simp? only[set_set,er]
   refine⟨i,sh[n].1,kd,r,h.pv,ls,ws,a,b,rfl,zef h,hset,hb,hwe,hwl,by omega,λd a b hd hb=> ?_⟩
   try simp? only[set_set]
   obtain⟨d1,d2,d3⟩:=hd;exact hN _ _ ⟨d,a,b,rfl,rfl,hb,λx hx=>tf (d2 x hx).1 (d2 x hx).2,λs hs=>⟨sh[n],List.mem_iff_getElem?.mpr ⟨n,hn⟩,by rw[d1]at hs;exact Option.some.inj hs,kd,r,es,d3⟩⟩
  ·have hd:decide (0 < g)=false:=decide_eq_false hg
   try simp? only[hd]
   exact hN _ _ ⟨.tell t,a,b,rfl,rfl,hb,λx hx=>(by cases hx;exact tf tok u9),λs hs=>by cases hs⟩
 ·rintro env s0 ⟨d,a,b,rfl,rfl,hb,hD⟩
  refine zC ?_
  try simp? only[true_and]
  refine⟨i,4,a,b,rfl,hset,hb,by decide,by decide,λg a b g0 g1 hb=> ?_⟩
  try simp? only[set_set]
  by_cases h0:g=0
  ·subst h0
   try simp? only[beq_self_eq_true]
   refine⟨i,ls,a,b,rfl,hset,hb,zaj,by omega,λt a b tok u9 hb=> ?_⟩
   try simp? only[set_set,sE]
   exact⟨fE d,q (some t,d) a b ⟨λx hx=>(by cases hx;exact tf tok u9),hD⟩ hb⟩
  ·have nf:(g==0)=false:=by simpa using h0
   try simp? only[nf]
   exact ziK (fE d) (q (none,d) a b ⟨λx hx=>(by cases hx),hD⟩ hb)
theorem zle {f:Addr}{fd:FuncData}(M:Mo K mg)(F:yC K "_law_join" "_law_join" pN f fd):zP P w K mg base zQ 2 f fd ["_law_box_here","_law_plan","_law_rows","_law_held"] (zN K iF):=by
 obtain⟨xZ,w4,zV,y8,y9⟩:=M._law_take;have y7:zP P w K mg base zQ 1 xZ w4 ["_law_box_here","_law_many"] (zN K u8):=uT M zV;refine xV 0 F zfI (λxs st Q h=>by obtain⟨S,i,p,r,h,e,kv,names,E,a,b,w0,hd,rfl,_⟩:=h;rfl) ⟨_,λcdv A outer s H E hr=>have hr1:y4 1 _:=hr.mono (by decide);(zD (zW (i:=4) zfI.nd rfl (Or.inl rfl) (wN PySem.F.plainAttrs_list PySem.F.slot_list_pop PySem.F.type_list_pop (by decide) zeS (qv 3) (z3 (zK y7 hr1 (by rfl) y9 zV.kp y8 (z3 (qv 0) (z3 (xO xU (by rfl) M.len PySem.boot_len (z3 (qv 3) z6)) z6))) z6)))
   (zD (wO (wN PySem.F.plainAttrs_list PySem.F.slot_list_append PySem.F.type_list_append (by decide) uF (qv 2) (z3 (yO (z3 zI (z3 (zG (zO hr) (zG (u3 hr) (qv 1) zI (λ_ _=>rfl)) (qv 4) (λ_ _=>rfl)) z6))) z6)))
   (zM (wO (wN PySem.F.plainAttrs_list PySem.F.slot_list_extend PySem.F.type_list_extend (by decide) zeO (qv 3) (z3 (zG (zO hr) (zG (u3 hr) (qv 1) zI (λ_ _=>rfl)) (qv 4) (λ_ _=>rfl)) z6)))))),λxs st Q h=> ?_⟩
 obtain⟨S,i,p,r,h,e,kv,names,E,a,b,w0,hd,rfl,rfl,L,hb,hne,hl1,hl2,hx,q⟩:=h;have hlen: ∀{a b a' b':Int} {w w' d d':List PV},(S a' b' w' d').take (S a b w d).length=S a' b' w' d':=λ{a b a' b' w w' d d'} =>by
  rw[L.len (a':=a') (b':=b') (w':=w') (d':=d')];exact List.take_length
 obtain⟨gi,si,gr,sr,gh,sh',gp,ge⟩:=L;have hpos:0 < hd.length:=List.length_pos_iff.mpr hne;have nm:zR kv (.inr "names")=some (.lst (names.map PV.str)):=hx.1;have en:zR kv (.inr "ends")=some (.obj e):=hx.2.1;refine zC ?_
 try simp? only[gh,List.length_map]
 refine⟨i,hd.length,a,b,rfl,gi,hb,by omega,by omega,λk a b k0 k1 hb=> ?_⟩;obtain⟨k,rfl⟩: ∃n:Nat,k=n:=⟨k.toNat,by omega⟩;have hk:k < hd.length:=by omega
 obtain⟨x,hxk⟩: ∃x,hd[k]?=some x:=⟨_,List.getElem?_eq_getElem hk⟩;obtain⟨hxn,l,hll,hlv⟩:=hx.2.2 x (List.mem_iff_getElem?.mpr ⟨k,hxk⟩);obtain⟨nmx,hnx⟩: ∃z,names[x]?=some z:=⟨_,List.getElem?_eq_getElem hxn⟩;have hix:atI (names.map PV.str) (x:Int)=some (.str nmx):=wY (by rw[List.getElem?_map,hnx];rfl);have hel:(hd.eraseIdx k).length<=1000:=Nat.le_trans (List.length_eraseIdx_le ..) hl1;have he:(hd.map yL).eraseIdx k=(hd.eraseIdx k).map yL:=fI
 try simp? only[si,zaG]
 refine⟨h,k,yL x,_,rfl,rfl,gh,by rw[List.getElem?_map,hxk];rfl,?_⟩;rw[he]
 try simp? only[sh']
 refine zC ?_
 try simp? only[gp,nm,hix,gr,sr,wQ]
 refine⟨Nat.lt_of_le_of_lt hl2 (by decide),?_⟩;rw[gh,en];refine⟨rfl,?_⟩;have ge':= @ge
 try simp? only[ge,hlv,gh,sh',List.length_map]
 refine⟨by rw[sizeLine_eq];omega,?_⟩;rw[<- List.map_append,hlen];exact q k x l nmx a b hxk hnx hlv hb
theorem zeV {f:Addr}{fd:FuncData}(M:Mo K mg)(F:yC K "_law_hand" "_law_hand" pM f fd)(nZ:x5 K fd ["_law_script","_law_at","_law_plan","_law_number_here"] [])(mP:mg "_law_hand" =some (.ref f)): ∀d,zP P w K mg base zQ (d+13) f fd ["_law_script","_law_at","_law_plan","_law_number_here"] (zN K (iE d))
 | 0=>⟨λvs H Q E h=>(zfV h).elim,λA outer s H args us vs Q E _ _ _ _ h=>(zfV h).elim⟩
 | d+1=>by
  have IH:zP P w K mg base zQ (d+13) f fd ["_law_script","_law_at","_law_plan","_law_number_here"] (zN K (iE d)):=zeV M F nZ mP d;obtain⟨aJ,aN,nM,gO,zak⟩:=M._law_box;have iZ:zP P w K mg base zQ 1 aJ aN ["_law_script","_law_k"] (zN K zaY):=zeU M nM;obtain⟨xZ,w4,zV,y8,y9⟩:=M._law_take;have y7:zP P w K mg base zQ 1 xZ w4 ["_law_box_here","_law_many"] (zN K u8):=uT M zV;obtain⟨ziW,zji,iW,zck,zeA⟩:=M._law_row;have zbQ:zP P w K mg base zQ 12 ziW zji ["_law_box_here","_law_uses","_law_things"] (zN K lI):=zli M iW;obtain⟨ziS,zje,iV,zcj,ze_⟩:=M._law_join;have zbP:zP P w K mg base zQ 2 ziS zje ["_law_box_here","_law_plan","_law_rows","_law_held"] (zN K iF):=zle M iV;have lY:=F;refine xV 0 F pW (λxs st Q h=>by obtain⟨ns,at',n,a0,kv,names,things,shl,many,sp,E,R,m0,rfl,_⟩:=h;rfl) ⟨_,λcdv A outer s H E hr=>have hr1:y4 1 _:=hr.mono (by omega);have hr2:y4 2 _:=hr.mono (by omega);have hr12:y4 12 _:=hr.mono (by omega);(zD (zW (i:=4) pW.nd rfl (Or.inl rfl) (zK iZ hr1 (by rfl) zak nM.kp gO (z3 (qv 0) (z3 (zY yS (qv 1) (qv 3)) z6))))
   (zD (zW (i:=5) pW.nd rfl (Or.inl rfl) (zG (zO hr) (zG (u3 hr) (qv 2) zI (λ_ _=>rfl)) (qv 3) (λ_ _=>rfl)))
   (zD (zmO (i:=6) (j:=7) rfl pW.nd rfl rfl (by decide) rfl rfl (z3 (tL z6) (z3 (tL z6) z6)) (by rfl))
   (zD (vM PassesOwn.never rfl (rS (by rfl) M.range (z3 (zK y7 hr1 (by rfl) y9 zV.kp y8 (z3 (qv 4) (z3 z8 z6))) z6)) (yF (i:=8) pW.nd rfl (Or.inl rfl)) (zD (zW (i:=9) pW.nd rfl (Or.inl rfl) (zK y7 hr1 (by rfl) y9 zV.kp y8 (z3 (qv 4) (z3 z8 z6))))
   (zM (yV (PW.pt (qM (yE oZ (qv 9) z8 (yB _)) (qN (yE uR (xO xU (by rfl) M.len PySem.boot_len (z3 (zG (u3 hr) (qv 2) zI (λ_ _=>rfl)) z6)) z8 (yB _))))) (zD (zW (i:=10) pW.nd rfl (Or.inl rfl) (wN PySem.F.plainAttrs_list PySem.F.slot_list_pop PySem.F.type_list_pop (by decide) zeS (zG (u3 hr) (qv 2) zI (λ_ _=>rfl)) (z3 (zK y7 hr1 (by rfl) y9 zV.kp y8 (z3 (qv 4) (z3 (xO xU (by rfl) M.len PySem.boot_len (z3 (zG (u3 hr) (qv 2) zI (λ_ _=>rfl)) z6)) z6))) z6)))
   (zD (vQ (zK IH hr (by rfl) mP lY.kp nZ (z3 (qv 0) (z3 (qv 1) (z3 (qv 2) (z3 (qv 10) z6))))) (sW hr (zG (u3 hr) (qv 2) zI (λ_ _=>rfl)) (qv 10)))
   (zD (wO (wN PySem.F.plainAttrs_list PySem.F.slot_list_append PySem.F.type_list_append (by decide) uF (qv 6) (z3 (yO (z3 zI (z3 (zG (zO hr) (zG (u3 hr) (qv 2) zI (λ_ _=>rfl)) (qv 10) (λ_ _=>rfl)) z6))) z6)))
   (zM (wO (wN PySem.F.plainAttrs_list PySem.F.slot_list_append PySem.F.type_list_append (by decide) uF (qv 7) (z3 (qv 10) z6))))))) (zM (yV (PW.pt (qM (yE (yY hr) (qv 9) z8 (yB _)) (qN (yE uR (xO xU (by rfl) M.len PySem.boot_len (z3 (qv 7) z6)) z8 (yB _))))) (zM (wO (zK zbP hr2 (by rfl) ze_ iV.kp zcj (z3 (qv 4) (z3 (qv 2) (z3 (qv 6) (z3 (qv 7) z6))))))) (zM (wO (wN PySem.F.plainAttrs_list PySem.F.slot_list_append PySem.F.type_list_append (by decide) uF (qv 6) (z3 (zK zbQ hr12 (by rfl) zeA iW.kp zck (z3 (qv 4) (z3 (qv 5) (z3 (zG (u3 hr) (qv 2) zI (λ_ _=>rfl)) z6)))) z6))))))))))
   (zD (za6 PassesOwn.never (PW.pt (qM (yE uR (xO xU (by rfl) M.len PySem.boot_len (z3 (qv 7) z6)) z8 (yB _)) (qN (PW.pt (mX (yE (yY hr) (qv 3) z8 (yB _)) (jY (yE uR (zK y7 hr1 (by rfl) y9 zV.kp y8 (z3 (qv 4) (z3 z8 z6))) z8 (yB _)))))))) (zD (yV (PW.pt (qM (yE oZ (xO xU (by rfl) M.len PySem.boot_len (z3 (qv 6) z6)) z8 (yB _)) (qN (yE (yY hr) (zK y7 hr1 (by rfl) y9 zV.kp y8 (z3 (qv 4) (z3 z8 z6))) z8 (yB _))))) (zM (wO (wN PySem.F.plainAttrs_list PySem.F.slot_list_append PySem.F.type_list_append (by decide) uF (qv 6) (z3 (zK zbQ hr12 (by rfl) zeA iW.kp zck (z3 (qv 4) (z3 (qv 5) (z3 (zG (u3 hr) (qv 2) zI (λ_ _=>rfl)) z6)))) z6)))) xF)
   (zM (wO (zK zbP hr2 (by rfl) ze_ iV.kp zcj (z3 (qv 4) (z3 (qv 2) (z3 (qv 6) (z3 (qv 7) z6)))))))))
   (zD (vQ (yO (z3 (zG (zO hr) (zG (u3 hr) (qv 2) zI (λ_ _=>rfl)) (qv 3) (λ_ _=>rfl)) (z3 (u5 (qK rfl) (by rfl) M.tuple rF (z3 (qv 6) z6)) z6))) (sW hr (zG (u3 hr) (qv 2) zI (λ_ _=>rfl)) (qv 3)))
   (zM (yN (qv 7))))))))),λxs st Q h=> ?_⟩
  obtain⟨ns,at',n,a0,kv,names,things,shl,many,sp,E,R,m0,rfl,rfl,H,hd8,q⟩:=h;have hu:atI (List.replicate many (PV.tup [.lst (shl.map yA),.lst (shl.map yA)])) (n:Int)=some (.tup [.lst (shl.map yA),.lst (shl.map yA)]):=wY (by rw[List.getElem?_replicate,if_pos H.nlt]);have kn:=H.K.nms;have kt:=H.K.tgs;have ku:=H.K.uses;have ks:=H.K.spare;have ke:=H.K.ends;have kr:=H.K.rows;refine zC ?_
  try simp? only[true_and]
  refine⟨ns,_,rfl,H.nl,by have:=H.a0;omega,λa b hb=> ?_⟩
  try simp? only[zbR,zbS]
  refine zC ?_
  try simp? only[wP,ku,hu,wQ]
  refine zC ?_
  try simp? only[zbR,zbS]
  have e3: ∀{x y z:PO},m0++ [x]++ [y]++ [z]=m0++ [x,y,z]:=λ{x y z} =>by simp
  have l1: ∀{x:PO},(m0++ [x]).length+5=m0.length+6:=λ{x} =>by simp
  have l2: ∀{x y:PO},(m0++ [x]++ [y]).length+5=m0.length+7:=λ{x y} =>by simp
  rw[e3,l1,l2];have enm: ∀{x:Nat},x < names.length->atI (names.map PV.str) (x:Int)=some (.str (zB names x)):=λ{x} hx=>wY (by rw[List.getElem?_map,jG hx];rfl);have insp: ∀x∈sp,x < names.length:=λx hx=>Nat.lt_of_lt_of_le (H.sm x hx) H.nml;have inj: ∀a∈sp,∀b∈sp,zB names a=zB names b->a=b:=λa ha b hb e=>mR H.nn (insp a ha) (insp b hb) e;have env0: ∃ev:Option PV->Option PV->Option PV->zF,ev=λv8 v9 v10=> [some (PV.lst (ns.map PV.int)),some (.int at'),some (.obj 4),some (.int (n:Int)),some (.obj (m0.length+5)),some (.tup [.lst (shl.map yA),.lst (shl.map yA)]),some (.obj (m0.length+6)),some (.obj (m0.length+7)),v8,v9,v10]:=⟨_,rfl⟩;obtain⟨ev,hev⟩:=env0;have big:(2000:Nat) < sizeLine:=by rw[sizeLine_eq];decide
  refine sY (λenv s=> ∃(sp' ks:List Nat) (X:List Re) (E1:List Ee) (rs:List Rh) (hd:List Nat) (a b:Int) (v8 v9 v10:Option PV),env=ev v8 v9 v10/\s=G a0 kv (zB names) sp' (E++E1) (R++X) (m0++ [z9 a b,.lst (rs.map Rh.pv),.lst (hd.map yL)])/\LK shl (zB names) sp E sp' ks X E1 rs hd/\rs.length<=8/\yD a b) (λN hN=> ?_) ?_
  ·try simp? only[true_and]
   refine⟨m0.length+5,9,a,b,rfl,wB,hb,by decide,by decide,λt a b t0 t1 hb=> ?_⟩
   try simp? only[wF]
   refine⟨⟨by omega,by omega⟩,wZ (λk env s=> ∃(sp' ks:List Nat) (X:List Re) (E1:List Ee) (rs:List Rh) (hd:List Nat) (a b:Int) (v8 v9 v10:Option PV),env=ev v8 v9 v10/\s=G a0 kv (zB names) sp' (E++E1) (R++X) (m0++ [z9 a b,.lst (rs.map Rh.pv),.lst (hd.map yL)])/\LK shl (zB names) sp E sp' ks X E1 rs hd/\rs.length<=k/\yD a b) ⟨sp,[],[],[],[],[],a,b,none,none,none,by rw[hev],by simp,LK.start H.sn,Nat.le_refl _,hb⟩ ?_ ?_⟩
   ·rintro k x env s hx ⟨sp',ks',X,E1,rs,hd,a,b,v8,v9,v10,rfl,rfl,I,hrl,hb⟩
    obtain⟨hk,rfl⟩:=tO hx;have hIl:=I.len;have hs7:=H.s7;subst hev
    try simp? only[true_and]
    refine zC ?_
    try simp? only[true_and]
    refine⟨m0.length+5,8,a,b,rfl,wB,hb,by decide,by decide,λkind a b k0 k1 hb=> ?_⟩
    try simp? only[wF]
    have hrl':rs.length<=8:=by omega
    have done: ∀{zN ks2:List Nat} {X2:List Re} {E2:List Ee} {rs2:List Rh} {hd2:List Nat} {a b:Int} {v8 v9 v10:Option PV},LK shl (zB names) sp E zN ks2 X2 E2 rs2 hd2->rs2.length<=k+1->yD a b->∃(sp' ks:List Nat) (X:List Re) (E1:List Ee) (rs:List Rh) (hd:List Nat) (a' b':Int) (v8' v9' v10':Option PV),[some (PV.lst (ns.map PV.int)),some (.int at'),some (.obj 4),some (.int (n:Int)),some (.obj (m0.length+5)),some (.tup [.lst (shl.map yA),.lst (shl.map yA)]),some (.obj (m0.length+6)),some (.obj (m0.length+7)),v8,v9,v10]= [some (PV.lst (ns.map PV.int)),some (.int at'),some (.obj 4),some (.int (n:Int)),some (.obj (m0.length+5)),some (.tup [.lst (shl.map yA),.lst (shl.map yA)]),some (.obj (m0.length+6)),some (.obj (m0.length+7)),v8',v9',v10']/\G a0 kv (zB names) zN (E++E2) (R++X2) (m0++ [z9 a b,.lst (rs2.map Rh.pv),.lst (hd2.map yL)])=G a0 kv (zB names) sp' (E++E1) (R++X) (m0++ [z9 a' b',.lst (rs.map Rh.pv),.lst (hd.map yL)])/\LK shl (zB names) sp E sp' ks X E1 rs hd/\rs.length<=k+1/\yD a' b':=λ{zN ks2 X2 E2 rs2 hd2 a b v8 v9 v10} I2 h2 hb=>⟨zN,ks2,X2,E2,rs2,hd2,a,b,v8,v9,v10,rfl,rfl,I2,h2,hb⟩;have plain: ∀{r:Rw} {a b:Int} {v8 v9 v10:Option PV},qC shl r->yD a b->_:=λ{r a b v8 v9 v10} hr hb=>done (v8:=v8) (v9:=v9) (v10:=v10) (I.plain hr) (by rw[List.length_append,List.length_singleton];omega) hb;by_cases hk3:kind < 3
    ·have d3:decide (kind < 3)=true:=decide_eq_true hk3
     rw[d3];by_cases hsp:sp'= []
     ·subst hsp
      try simp? only[vE,vF,wT,wP,wB,vG,wX,wF,vH,vI,kn,kt,ks,ke,kr,wQ,List.length_map]
      have hk3':(kind==3)=false:=by simp;omega
      rw[hk3']
      try simp? only[true_and]
      refine zaN H hb λr a b hr hb=> ?_
      try simp? only[vE,vF,wT,wP,wB,vG,wX,wF,vH,vI,kn,kt,ks,ke,kr,wQ,List.length_map,iB]
      refine⟨by omega,?_⟩;have:=plain (v8:=some (.int (0+(k:Int)))) (v9:=some (.int kind)) (v10:=v10) hr hb;rw[List.map_append]at this;exact this
     ·have hpos:0 < sp'.length:=List.length_pos_iff.mpr hsp
      have hdp:decide (0 < ((sp'.length:Nat):Int))=true:=decide_eq_true (by omega)
      try simp? only[vE,vF,wT,wP,wB,vG,wX,wF,vH,vI,kn,kt,ks,ke,kr,wQ,List.length_map,hdp]
      refine zC ?_
      try simp? only[vE,vF,wT,wP,wB,vG,wX,wF,vH,vI,kn,kt,ks,ke,kr,wQ,List.length_map]
      refine⟨m0.length+5,sp'.length,a,b,rfl,wB,hb,by omega,by omega,λi a b i0 i1 hb=> ?_⟩;obtain⟨i,rfl⟩: ∃n:Nat,i=n:=⟨i.toNat,by omega⟩;have hi:i < sp'.length:=by omega
      obtain⟨j,hj⟩: ∃j,sp'[i]?=some j:=⟨_,List.getElem?_eq_getElem hi⟩;have hjs:j∈sp':=List.mem_iff_getElem?.mpr ⟨i,hj⟩;have hjsp:j∈sp:=I.sub j (List.mem_append_right _ hjs)
      try simp? only[vE,vF,wT,wP,wB,vG,wX,wF,vH,vI,kn,kt,ks,ke,kr,wQ,List.length_map,zaG]
      refine⟨1,i,yL j,_,rfl,rfl,vE,by rw[List.getElem?_map,hj];rfl,?_⟩;rw[fI,zhm]
      try simp? only[true_and]
      refine zC ?_
      try simp? only[true_and]
      have hlt:=List.length_eraseIdx_le sp' i;have hlt2:(sp'.eraseIdx i).length < sp'.length:=by rw[List.length_eraseIdx,if_pos hi];omega
      refine⟨ns,at',j,a0,kv,names,things,shl,many,sp'.eraseIdx i,E++E1,R++X,_,rfl,rfl,H.kid I.toLI hj,by omega,λspc ksc Xc E1c rsc hdc C _ hcl=> ?_⟩;have hjn:j < names.length:=insp j hjsp;have ej:=enm hjn;have Cl:=C.len;have ee1:E1.length=ks'.length:=by rw[<- I.ek,List.length_map]
      have ee2:E1c.length=ksc.length:=by rw[<- C.ek,List.length_map]
      have helh:=H.el;have hjne:j∉(E++E1++E1c).map (·.1):=by
       have hk:=H.kid I.toLI hj;rw[List.map_append,List.mem_append,not_or,C.ek];refine⟨?_,λz=>(zcO (List.nodup_append.mp I.nd).2.1 hj (C.sub j (List.mem_append_left _ z))).2 rfl⟩;rw[List.map_append,List.mem_append,not_or,I.ek];exact⟨H.de j hjsp,λz=>(List.nodup_append.mp I.nd).2.2 j z j hjs rfl⟩
      have hen:=ziE (l:=hdc) hjne;have hel2:(wV (E++E1++E1c)).length<=200:=by unfold wV;rw[List.length_map,List.length_append,List.length_append];omega
      have I2:=LK.split inj I hj C hcl
      try simp? only[vE,vF,wT,wP,wB,vG,wX,wF,vH,vI,kn,kt,ks,ke,kr,wQ,List.length_map]
      refine⟨by omega,?_⟩;rw[hen,zhn];refine zC ?_
      try simp? only[vE,vF,wT,wP,wB,vG,wX,wF,vH,vI,kn,kt,ks,ke,kr,wQ,List.length_map,ej]
      have hhl:=I.hl;refine⟨by omega,by omega,?_⟩;have:=done (v8:=some (.int (0+(k:Int)))) (v9:=some (.int kind)) (v10:=some (yL j)) I2 (by rw[List.length_append,List.length_singleton];omega) hb;rw[<- List.append_assoc E,<- List.append_assoc (E++E1),<- List.append_assoc R,<- List.append_assoc (R++X),List.map_append,List.map_append]at this;exact this
    ·have d3:decide (kind < 3)=false:=decide_eq_false hk3
     rw[d3]
     try simp? only[vE,vF,wT,wP,wB,vG,wX,wF,vH,vI,kn,kt,ks,ke,kr,wQ,List.length_map]
     by_cases he3:kind=3/\hd≠ []
     ·obtain⟨rfl,hne⟩:=he3
      have hdp:decide (0 < ((hd.length:Nat):Int))=true:=decide_eq_true (by have:=List.length_pos_iff.mpr hne;omega)
      try simp? only[beq_self_eq_true,hdp]
      refine ze0 H I.toLI (by omega) hb hne λk' x l a b hx hl hb=> ?_;exact done (I.join inj hx hl).1 (by rw[List.length_append,List.length_singleton];omega) hb
     ·have rowc: ∀{Q:K3},(∀(r:Rw) a b,qC shl r->yD a b->Q r.pv (G a0 kv (zB names) sp' (E++E1) (R++X) (m0++ [z9 a b,.lst (rs.map Rh.pv),.lst (hd.map yL)])))->lI [.obj (m0.length+5),.tup [.lst (shl.map yA),.lst (shl.map yA)],.lst (things.map PV.str)] (G a0 kv (zB names) sp' (E++E1) (R++X) (m0++ [z9 a b,.lst (rs.map Rh.pv),.lst (hd.map yL)])) Q:=λq=>zaN H hb q
      have rowd: ∀(r:Rw) a b,qC shl r->yD a b->_:=λr a b hr hb=>plain (v8:=some (.int (0+(k:Int)))) (v9:=some (.int kind)) (v10:=v10) (a:=a) (b:=b) hr hb;by_cases hkk:kind=3
      ·have hnil:hd= []:=Classical.byContradiction λz=>he3 ⟨hkk,z⟩
       subst hkk hnil
       try simp? only[beq_self_eq_true]
       refine rowc λr a b hr hb=> ?_
       try simp? only[vE,vF,wT,wP,wB,vG,wX,wF,vH,vI,kn,kt,ks,ke,kr,wQ,List.length_map,iB]
       refine⟨by omega,?_⟩;have:=rowd r a b hr hb;rw[List.map_append]at this;exact this
      ·have hk3':(kind==3)=false:=by simpa using hkk
       rw[hk3']
       try simp? only[true_and]
       refine rowc λr a b hr hb=> ?_
       try simp? only[vE,vF,wT,wP,wB,vG,wX,wF,vH,vI,kn,kt,ks,ke,kr,wQ,List.length_map,iB]
       refine⟨by omega,?_⟩;have:=rowd r a b hr hb;rw[List.map_append]at this;exact this
   ·rintro env s ⟨sp',ks',X,E1,rs,hd,a,b,v8,v9,v10,rfl,rfl,I,hrl,hb⟩
    rw[uW]at hrl
    try simp? only[true_and]
    exact hN _ _ ⟨sp',ks',X,E1,rs,hd,a,b,v8,v9,v10,rfl,rfl,I,by omega,hb⟩
  ·rintro env s ⟨sp0,ks0,X0,E0,rs0,hd0,a,b,v8,v9,v10,rfl,rfl,I0,hrl0,hb0⟩
   have hs7:=H.s7;have hw0:=I0.wt;have hk0:=I0.len;refine sY (λenv s=> ∃(sp' ks:List Nat) (X:List Re) (E1:List Ee) (rs:List Rh) (hd:List Nat) (a b:Int) (v8 v9 v10:Option PV),env=ev v8 v9 v10/\s=G a0 kv (zB names) sp' (E++E1) (R++X) (m0++ [z9 a b,.lst (rs.map Rh.pv),.lst (hd.map yL)])/\LK shl (zB names) sp E sp' ks X E1 rs hd/\(n=0->hd= [])/\rs.length<=30) (λN hN=> ?_) ?_
   ·refine⟨λm env s=> ∃(sp' ks:List Nat) (X:List Re) (E1:List Ee) (rs:List Rh) (hd:List Nat) (a b:Int) (v8 v9 v10:Option PV),env=ev v8 v9 v10/\s=G a0 kv (zB names) sp' (E++E1) (R++X) (m0++ [z9 a b,.lst (rs.map Rh.pv),.lst (hd.map yL)])/\LK shl (zB names) sp E sp' ks X E1 rs hd/\yD a b/\m=(hd.map (wE (E++E1))).sum/\rs.length+2 * m<=22,⟨_,sp0,ks0,X0,E0,rs0,hd0,a,b,v8,v9,v10,rfl,rfl,I0,hb0,rfl,by omega⟩,?_⟩
    rintro m env s ⟨sp',ks',X,E1,rs,hd,a,b,v8,v9,v10,rfl,rfl,I,hb,rfl,hrl⟩;have hIl:=I.len;have hhl:=I.hl;subst hev;by_cases hne:hd= []
    ·subst hne
     try simp? only[vE,vF,wT,wP,wB,vG,wX,wF,vH,vI,kn,kt,ks,ke,kr,wQ,List.length_map]
     exact hN _ _ ⟨sp',ks',X,E1,rs,[],a,b,v8,v9,v10,rfl,rfl,I,λ_=>rfl,by omega⟩
    ·have hdp:decide (0 < ((hd.length:Nat):Int))=true:=decide_eq_true (by have:=List.length_pos_iff.mpr hne;omega)
     have body: ∀{a b:Int} {D:xR},yD a b->(∀(rs2:List Rh) (hd2:List Nat) (a b:Int),LK shl (zB names) sp E sp' ks' X E1 rs2 hd2->yD a b->(hd2.map (wE (E++E1))).sum+1=(hd.map (wE (E++E1))).sum->rs2.length<=rs.length+2->D.nx [some (PV.lst (ns.map PV.int)),some (.int at'),some (.obj 4),some (.int (n:Int)),some (.obj (m0.length+5)),some (.tup [.lst (shl.map yA),.lst (shl.map yA)]),some (.obj (m0.length+6)),some (.obj (m0.length+7)),v8,v9,v10] (G a0 kv (zB names) sp' (E++E1) (R++X) (m0++ [z9 a b,.lst (rs2.map Rh.pv),.lst (hd2.map yL)])))->
       uK (iR (iO (lO (q0 (qO λi j=>decide (i < j)) (rZ i7 (t5 (vR 6) o7)) (vC (PV.int 12)))) (lO (q0 za9 (rZ u8 (t5 (vR 4) (t5 (vC (PV.int 3)) o7))) (vC (PV.int 0))))) (iQ (vBM "list" jZ (vR 6) (t5 (rZ lI (t5 (vR 4) (t5 (vR 5) (t5 (q0 i6 (vR 2) (vC (PV.str (Str.ofString "things")))) o7)))) o7))) zbz) (iQ (rZ iF (t5 (vR 4) (t5 (vR 2) (t5 (vR 6) (t5 (vR 7) o7)))))) D [some (PV.lst (ns.map PV.int)),some (.int at'),some (.obj 4),some (.int (n:Int)),some (.obj (m0.length+5)),some (.tup [.lst (shl.map yA),.lst (shl.map yA)]),some (.obj (m0.length+6)),some (.obj (m0.length+7)),v8,v9,v10] (G a0 kv (zB names) sp' (E++E1) (R++X) (m0++ [z9 a b,.lst (rs.map Rh.pv),.lst (hd.map yL)])):=by
      intro a b D hb hD;refine sY (λenv s=> ∃(rs2:List Rh) (a b:Int),env= [some (PV.lst (ns.map PV.int)),some (.int at'),some (.obj 4),some (.int (n:Int)),some (.obj (m0.length+5)),some (.tup [.lst (shl.map yA),.lst (shl.map yA)]),some (.obj (m0.length+6)),some (.obj (m0.length+7)),v8,v9,v10]/\s=G a0 kv (zB names) sp' (E++E1) (R++X) (m0++ [z9 a b,.lst (rs2.map Rh.pv),.lst (hd.map yL)])/\LK shl (zB names) sp E sp' ks' X E1 rs2 hd/\yD a b/\rs2.length<=rs.length+1) (λN hN=> ?_) ?_
      ·try simp? only[vE,vF,wT,wP,wB,vG,wX,wF,vH,vI,kn,kt,ks,ke,kr,wQ,List.length_map]
       by_cases h12:((rs.length:Nat):Int) < 12
       ·have d12:decide (((rs.length:Nat):Int) < 12)=true:=decide_eq_true h12
        try simp? only[d12]
        refine⟨m0.length+5,3,a,b,rfl,wB,hb,by decide,by decide,λt a b t0 t1 hb=> ?_⟩
        try simp? only[wF]
        by_cases ht:t=0
        ·subst ht
         try simp? only[beq_self_eq_true,vE,vF,wT,wP,wB,vG,wX,wF,vH,vI,kn,kt,ks,ke,kr,wQ,List.length_map]
         refine zaN H hb λr a b hr hb=> ?_
         try simp? only[vE,vF,wT,wP,wB,vG,wX,wF,vH,vI,kn,kt,ks,ke,kr,wQ,List.length_map,iB]
         refine⟨by omega,hN _ _ ⟨rs++ [.pl r],a,b,rfl,by rw[List.map_append];rfl,I.plain hr,hb,by rw[List.length_append,List.length_singleton];exact Nat.le_refl _⟩⟩
        ·have ht':(t==0)=false:=by simpa using ht
         try simp? only[ht']
         exact hN _ _ ⟨rs,a,b,rfl,rfl,I,hb,by omega⟩
       ·have d12:decide (((rs.length:Nat):Int) < 12)=false:=decide_eq_false h12
        try simp? only[d12]
        exact hN _ _ ⟨rs,a,b,rfl,rfl,I,hb,by omega⟩
      ·rintro env s ⟨rs2,a,b,rfl,rfl,I2,hb,hr2⟩
       try simp? only[true_and]
       refine ze0 H I2.toLI (by omega) hb hne λk' x l a b hx hl hb=> ?_;have:=I2.join inj hx hl;exact hD _ _ a b this.1 hb this.2 (by rw[List.length_append,List.length_singleton];omega)
     try simp? only[vE,vF,wT,wP,wB,vG,wX,wF,vH,vI,kn,kt,ks,ke,kr,wQ,List.length_map,hdp]
     by_cases hn0:n=0
     ·have hn0':(((n:Nat):Int)==0)=true:=by rw[hn0];rfl
      try simp? only[hn0']
      refine⟨λe s=> ∃(rs2:List Rh) (hd2:List Nat) (a b:Int),e= [some (PV.lst (ns.map PV.int)),some (.int at'),some (.obj 4),some (.int (n:Int)),some (.obj (m0.length+5)),some (.tup [.lst (shl.map yA),.lst (shl.map yA)]),some (.obj (m0.length+6)),some (.obj (m0.length+7)),v8,v9,v10]/\s=G a0 kv (zB names) sp' (E++E1) (R++X) (m0++ [z9 a b,.lst (rs2.map Rh.pv),.lst (hd2.map yL)])/\LK shl (zB names) sp E sp' ks' X E1 rs2 hd2/\yD a b/\(hd2.map (wE (E++E1))).sum+1=(hd.map (wE (E++E1))).sum/\rs2.length<=rs.length+2,?_,body hb λrs2 hd2 a b i1 i2 i3 i4=>⟨rs2,hd2,a,b,rfl,rfl,i1,i2,i3,i4⟩⟩;rintro e s ⟨rs2,hd2,a,b,rfl,rfl,h3,h4,h5,h6⟩;exact⟨(hd2.map (wE (E++E1))).sum,by omega,sp',ks',X,E1,rs2,hd2,a,b,v8,v9,v10,rfl,rfl,h3,h4,rfl,by omega⟩
     ·have hn0':(((n:Nat):Int)==0)=false:=by simp;omega
      try simp? only[hn0']
      refine⟨m0.length+5,3,a,b,rfl,wB,hb,by decide,by decide,λt a b t0 t1 hb=> ?_⟩
      try simp? only[wF]
      by_cases ht:0 < t
      ·have ht':decide (0 < t)=true:=decide_eq_true ht
       try simp? only[ht']
       refine⟨λe s=> ∃(rs2:List Rh) (hd2:List Nat) (a b:Int),e= [some (PV.lst (ns.map PV.int)),some (.int at'),some (.obj 4),some (.int (n:Int)),some (.obj (m0.length+5)),some (.tup [.lst (shl.map yA),.lst (shl.map yA)]),some (.obj (m0.length+6)),some (.obj (m0.length+7)),v8,v9,v10]/\s=G a0 kv (zB names) sp' (E++E1) (R++X) (m0++ [z9 a b,.lst (rs2.map Rh.pv),.lst (hd2.map yL)])/\LK shl (zB names) sp E sp' ks' X E1 rs2 hd2/\yD a b/\(hd2.map (wE (E++E1))).sum+1=(hd.map (wE (E++E1))).sum/\rs2.length<=rs.length+2,?_,body hb λrs2 hd2 a b i1 i2 i3 i4=>⟨rs2,hd2,a,b,rfl,rfl,i1,i2,i3,i4⟩⟩;rintro e s ⟨rs2,hd2,a,b,rfl,rfl,h3,h4,h5,h6⟩;exact⟨(hd2.map (wE (E++E1))).sum,by omega,sp',ks',X,E1,rs2,hd2,a,b,v8,v9,v10,rfl,rfl,h3,h4,rfl,by omega⟩
      ·have ht':decide (0 < t)=false:=decide_eq_false ht
       try simp? only[ht']
       exact hN _ _ ⟨sp',ks',X,E1,rs,hd,a,b,v8,v9,v10,rfl,rfl,I,λz=>absurd z hn0,by omega⟩
   ·rintro env s ⟨sp',ks',X,E1,rs,hd,a,b,v8,v9,v10,rfl,rfl,I,hz,hrl⟩
    subst hev;have en:=enm (Nat.lt_of_lt_of_le H.nlt H.nml);have hnk:n∉(R++X).map (·.1):=by
     rw[List.map_append,List.mem_append,not_or,I.xk];exact⟨H.nr,λz=>H.ns' (I.sub n (List.mem_append_left _ z))⟩
    have hrn:=zno (nm:=zB names) (rs:=rs) hnk;have hxl:X.length=ks'.length:=by rw[<- I.xk,List.length_map]
    have hIl:=I.len;have hrr:=H.rl;have hrl2:(vN (zB names) (R++X)).length<=200:=by unfold vN;rw[List.length_map,List.length_append];omega
    refine zC ?_
    try simp? only[vE,vF,wT,wP,wB,vG,wX,wF,vH,vI,kn,kt,ks,ke,kr,wQ,List.length_map,en]
    refine⟨by omega,?_⟩;rw[show PV.tup [PV.str (zB names n),PV.tup (rs.map Rh.pv)]=yJ (zB names n,rs)from rfl,hrn,zho];unfold xG;dsimp only;rw[if_neg (by omega),wX];dsimp only;have htk: ∀{m1 m2:z4} {x y:List Nat} {z:List Ee} {u:List Re},(G a0 kv (zB names) x z u (m1++m2)).take (m1.length+5)=G a0 kv (zB names) x z u m1:=λ{m1 m2 x y z u} =>by
     show _::_::_::_::_::((m1++m2).take m1.length)=_;rw[List.take_append_of_le_length (Nat.le_refl _),List.take_length];rfl
    rw[htk (y:= [])];exact q sp' ks' X E1 rs hd I hz hrl
theorem zlj {f:Addr}{fd:FuncData}(M:Mo K mg)(F:yC K "_law_three_words" "_law_three_words" pU f fd):zP P w K mg base zQ 3 f fd ["_law_box_here"] (zN K zgc):=by
 obtain⟨xZ,w4,zV,y8,y9⟩:=M._law_take;have y7:zP P w K mg base zQ 1 xZ w4 ["_law_box_here","_law_many"] (zN K u8):=uT M zV;obtain⟨ziZ,zjl,lZ,gQ,zam⟩:=M._law_words;have hJ:zP P w K mg base zQ 2 ziZ zjl ["_law_box_here","_law_many"] (zN K zge):=zll M lZ;refine xV 0 F rX (λxs st Q h=>by obtain⟨i,a,b,rfl,_⟩:=h;rfl) ⟨_,λcdv A outer s H E hr=>have hr1:y4 1 _:=hr.mono (by decide);have hr2:y4 2 _:=hr.mono (by decide);(zD (zW (i:=1) rX.nd rfl (Or.inl rfl) (zK y7 hr1 (by rfl) y9 zV.kp y8 (z3 (qv 0) (z3 z8 z6))))
   (zD (zW (i:=2) rX.nd rfl (Or.inl rfl) (zK hJ hr2 (by rfl) zam lZ.kp gQ (z3 (qv 0) (z3 z8 z6))))
   (zD (yV (yE (yY hr) (qv 1) z8 (yB _)) (zD (vQ (uG (uG zI (vP (zK y7 hr1 (by rfl) y9 zV.kp y8 (z3 (qv 0) (z3 z8 z6)))) uH) uH (vP z8)) (zmK (n:=3) rfl (xE (yF (i:=3) rX.nd rfl (Or.inl rfl)) (xE (yF (i:=4) rX.nd rfl (Or.inl rfl)) (xE (yF (i:=5) rX.nd rfl (Or.inl rfl)) uV)))))
   (zD (zW (i:=2) rX.nd rfl (Or.inl rfl) (u6 (z3 (qv 3) (z3 (zY yS (qv 3) (qv 4)) (z3 (qv 4) (z3 (zY yS (qv 4) (qv 5)) (z3 (qv 5) z6)))))))
   (zM (zW (i:=2) rX.nd rfl (Or.inl rfl) (zY yS (qv 2) (u6 (z3 (zY yS (qv 3) (qv 5)) (z3 (zY yS (zY yS (qv 3) (qv 4)) (qv 5)) (z3 (zY yS (qv 5) (qv 4)) z6))))))))) xF)
   (zD (zW (i:=6) rX.nd rfl (Or.inl rfl) (zK y7 hr1 (by rfl) y9 zV.kp y8 (z3 (qv 0) (z3 z8 z6))))
   (zD (yV (PW.pt (mX (yE (yY hr) (qv 1) z8 (yB _)) (jY (yE (yY hr) (qv 1) z8 (yB _))))) (zM (yN (yO (z3 (uG (qv 2) uH (vP z8)) (z3 (zY yS (uG (qv 2) (vP (qv 6)) uH) (uG (qv 2) uH (vP (qv 6)))) (z3 (uG (zfx (qv 2) (vP (jV jJ z8))) uH (vP z8)) z6)))))) xF)
   (zM (yN (yO (z3 (uG (qv 2) uH (vP z8)) (z3 (zK hJ hr2 (by rfl) zam lZ.kp gQ (z3 (qv 0) (z3 z8 z6))) (z3 (zK hJ hr2 (by rfl) zam lZ.kp gQ (z3 (qv 0) (z3 z8 z6))) z6))))))))))),λxs st Q h=> ?_⟩
 obtain⟨i,a,b,rfl,hi,hb,q⟩:=h;have hset: ∀{a b:Int},(st.set i (z9 a b))[i]?=some (z9 a b):=λ{a b} =>tU hi;have small_l:(("abcdefghijklmnopqrstuvwxyz" :Str)).length<=sizeLine:=Nat.le_trans (m:=1000) (by decide+kernel) (by decide);refine zC ?_
 try simp? only[true_and]
 refine⟨i,4,a,b,rfl,hi,hb,by decide,by decide,λform a b f0 f1 hb=> ?_⟩
 try simp? only[true_and]
 refine zC ?_
 try simp? only[true_and]
 refine⟨i,8,a,b,rfl,hset,hb,by decide,by decide,λws a b hwl hwn hb=> ?_⟩;have hwl':ws.length=8:=by omega
 try simp? only[true_and]
 refine sY (λenv s=> ∃(ws:List Str) (v1 v2 v3:Option PV) (a b:Int),env= [some (PV.obj i),some (.int form),some (.lst (ws.map PV.str)),v1,v2,v3,none]/\ws.length=8/\ws.Nodup/\yD a b/\s=st.set i (z9 a b)) (λN hN=> ?_) ?_
 ·by_cases hf:form=2
  ·subst hf
   try simp? only[beq_self_eq_true]
   refine zC ?_
   try simp? only[true_and]
   refine⟨i,24,a,b,rfl,hset,hb,by decide,by decide,λk a b k0 k1 hb=> ?_⟩;obtain⟨n,rfl⟩: ∃n:Nat,k=n:=⟨k.toNat,by omega⟩;have hn:n < 24:=by omega
   have hc:=ziy n hn
   try simp? only[true_and]
   refine⟨small_l,λl1=>⟨Nat.le_trans l1 small_l,λl2=> ?_⟩⟩;rw[hc];refine⟨rfl,?_⟩;have e3:(nE ⟨#[97+n,97+(n+1),97+(n+2)]⟩).map PV.str= [.str (sg n),.str (sg (n+1)),.str (sg (n+2))]:=rfl;rw[e3];have l1': ∀k,(sg k).length=1:=λk=>rfl;have thou: ∀{n:Nat},n<=1000->n<=sizeLine:=λh=>Nat.le_trans h (by decide)
   try simp? only[true_and]
   refine zC ?_
   try simp? only[l1',Str.length_append]
   refine⟨thou (by decide),thou (by decide),?_⟩
   try simp? only[l1',Str.length_append]
   exact⟨thou (by decide),thou (by decide),thou (by decide),thou (by decide),thou (by decide),hN _ _ ⟨zcJ n,_,_,_,a,b,rfl,rfl,ziC n hn,hb,rfl⟩⟩
  ·have hf':(form==2)=false:=by simpa using hf
   try simp? only[hf']
   exact hN _ _ ⟨ws,_,_,_,a,b,rfl,hwl',hwn,hb,rfl⟩
 ·rintro env s ⟨ws,v1,v2,v3,a,b,rfl,hwl,hwn,hb,rfl⟩
  refine zC ?_
  try simp? only[true_and]
  refine⟨i,8,a,b,rfl,hset,hb,by decide,by decide,λk a b k0 k1 hb=> ?_⟩;obtain⟨n,rfl⟩: ∃n:Nat,k=n:=⟨k.toNat,by omega⟩
  try simp? only[true_and]
  refine zC ?_
  try simp? only[true_and]
  have e6:wU (ws.map PV.str) none (some 6)=(ws.take 6).map PV.str:=by rw[show((6:Int))=((6:Nat):Int)from rfl,oH,List.map_take]
  have l6:(ws.take 6).length=6:=by rw[List.length_take];omega
  have n6:(ws.take 6).Nodup:=hwn.sublist (List.take_sublist _ _);have done:(wU (ws.map PV.str) (some (n:Int)) none).length+(wU (ws.map PV.str) none (some (n:Int))).length<=sizeLine/\Q (.tup [.lst (wU (ws.map PV.str) none (some 6)),.lst (wU (ws.map PV.str) (some (n:Int)) none++wU (ws.map PV.str) none (some (n:Int))),.lst (wU (ws.map PV.str).reverse none (some 6))]) (st.set i (z9 a b)):=by
   rw[e6,fB,oH,<- List.map_drop,<- List.map_take,<- List.map_append,<- List.map_reverse,show((6:Int))=((6:Nat):Int)from rfl,oH,<- List.map_take];have hp:(ws.drop n++ws.take n).Perm ws:=List.perm_append_comm.trans (by rw[List.take_append_drop]);refine⟨?_,q _ _ _ a b l6 n6 (hp.length_eq.trans hwl) (hp.nodup_iff.mpr hwn) ?_ ?_ (((List.reverse_perm ws).nodup_iff.mpr hwn).sublist (List.take_sublist _ _)) hb⟩
   ·rw[List.length_map,List.length_map,List.length_drop,List.length_take,sizeLine_eq];omega
   ·intro z;have:=congrArg List.length z;rw[List.length_take,List.length_reverse,hwl]at this;exact absurd this (by decide)
   ·rw[List.length_take];omega
  by_cases hf:form=1∨form=2
  ·rcases hf with rfl | rfl
   ·try simp? only[beq_self_eq_true]
    exact done
   ·try simp? only[beq_self_eq_true]
    exact done
  ·have hb1:(form==1)=false:=by simp at hf⊢;exact hf.1
   have hb2:(form==2)=false:=by simp at hf⊢;exact hf.2
   try simp? only[hb1,hb2]
   refine⟨i,8,a,b,rfl,hset,hb,by decide,by decide,λns a b hnl hnn hb=> ?_⟩
   try simp? only[true_and]
   refine⟨i,6,a,b,rfl,hset,hb,by decide,by decide,λts a b htl htn hb=> ?_⟩;rw[e6]
   try simp? only[true_and]
   exact q _ ns ts a b l6 n6 (by omega) hnn (λz=>by rw[z]at htl;simp at htl) (by omega) htn hb
theorem nd6:(["_law_script","_law_at","_law_kinds","_law_calm","_law_hands","_law_box_here","_law_words_here","_law_names","_law_things","_law_shelves","_law_k","_law_manner_here","_law_many","_law_uses","_law_plan","_law_others","_law_turn","_law_number_here"]:List Str).Nodup:=by decide+kernel
theorem zlh {f:Addr}{fd:FuncData}(M:Mo K mg)(F:yC K "_law_program" "_law_program" rW f fd):zP P w K mg base zQ 22 f fd ["_law_script","_law_at","_law_kinds","_law_calm","_law_hands"] (zN K zgb):=by
 obtain⟨aJ,aN,nM,gO,zak⟩:=M._law_box;have iZ:zP P w K mg base zQ 1 aJ aN ["_law_script","_law_k"] (zN K zaY):=zeU M nM;obtain⟨xZ,w4,zV,y8,y9⟩:=M._law_take;have y7:zP P w K mg base zQ 1 xZ w4 ["_law_box_here","_law_many"] (zN K u8):=uT M zV;obtain⟨ziU,zjg,zbE,zhO,zkw⟩:=M._law_manner;have zhi:zP P w K mg base zQ 10 ziU zjg ["_law_box_here","_law_kinds","_law_calm"] (zN K zfY):=zlg M zbE;obtain⟨ziO,zja,zbA,zhK,zks⟩:=M._law_begin;have zhd:zP P w K mg base zQ 3 ziO zja ["_law_box_here","_law_manner_here","_law_things"] (zN K zfQ):=zlb M zbA;obtain⟨ziR,zjd,lY,nZ,mP⟩:=M._law_hand;have zhg:zP P w K mg base zQ 21 ziR zjd ["_law_script","_law_at","_law_plan","_law_number_here"] (zN K (iE 8)):=zeV M lY nZ mP 8;obtain⟨ziX,zjj,zbG,zhQ,zky⟩:=M._law_three_words;have zhk:zP P w K mg base zQ 3 ziX zjj ["_law_box_here"] (zN K zgc):=zlj M zbG;refine xV 0 F uX (λxs st Q h=>by obtain⟨ns,hands,rfl,_⟩:=h;rfl) ⟨_,λcdv A outer s H E hr=>have hr1:y4 1 _:=hr.mono (by decide);have hr3:y4 3 _:=hr.mono (by decide);have hr10:y4 10 _:=hr.mono (by decide);have hr21:y4 21 _:=hr.mono (by decide);(zD (zW (i:=5) uX.nd rfl (Or.inl rfl) (zK iZ hr1 (by rfl) zak nM.kp gO (z3 (qv 0) (z3 (qv 1) z6))))
   (zD (vQ (zK zhk hr3 (by rfl) zky zbG.kp zhQ (z3 (qv 5) z6)) (tM (n:=3) rfl (xE (yF (i:=6) uX.nd rfl (Or.inl rfl)) (xE (yF (i:=7) uX.nd rfl (Or.inl rfl)) (xE (yF (i:=8) uX.nd rfl (Or.inl rfl)) uV)))))
   (zfz (zW (i:=9) uX.nd rfl (Or.inr rfl) (tL z6)) (vM PassesOwn.never rfl (rS (by rfl) M.range (z3 (zY yS z8 (zK y7 hr1 (by rfl) y9 zV.kp y8 (z3 (qv 5) (z3 z8 z6)))) z6)) (yF (i:=10) uX.nd rfl (Or.inl rfl)) (zD (zW (i:=11) uX.nd rfl (Or.inl rfl) (zK zhi hr10 (by rfl) zkw zbE.kp zhO (z3 (qv 5) (z3 (qv 2) (z3 (qv 3) z6)))))
   (zM (wO (wN PySem.F.plainAttrs_list PySem.F.slot_list_append PySem.F.type_list_append (by decide) uF (qv 9) (z3 (yO (z3 (zG (zO hr) (qv 6) (qv 10) (λ_ _=>rfl)) (z3 (qv 11) (z3 (zK zhd hr3 (by rfl) zks zbA.kp zhK (z3 (qv 5) (z3 (qv 11) (z3 (qv 8) z6)))) z6)))) z6))))))
   (zD (zW (i:=12) uX.nd rfl (Or.inl rfl) (zY yS z8 (zK y7 hr1 (by rfl) y9 zV.kp y8 (z3 (qv 5) (z3 (qv 4) z6)))))
   (zD (za5 (i0:=13) (own:= ["_law_number_here"]) (tI (fsc:=zS rW) (N:= ["_law_script","_law_at","_law_kinds","_law_calm","_law_hands","_law_box_here","_law_words_here","_law_names","_law_things","_law_shelves","_law_k","_law_manner_here","_law_many","_law_uses","_law_plan","_law_others","_law_turn"]) (N':= ["_law_script","_law_at","_law_kinds","_law_calm","_law_hands","_law_box_here","_law_words_here","_law_names","_law_things","_law_shelves","_law_k","_law_manner_here","_law_many","_law_uses","_law_plan","_law_others","_law_turn"]) rfl rfl (by decide+kernel)) uX.nd rfl (Or.inl rfl) rfl (rS (by rfl) M.range (z3 (qv 12) z6)) (λC s H fp pins=>(yF (i:=17) nd6 rfl (Or.inl rfl))) (λC s H fp pins=>mW) (λC s H fp pins=>(yO (z3 (qv 9) (z3 (qv 9) z6)))))
   (zmQ (i:=14) uX.nd rfl (Or.inr rfl) (jW zI (qv 7) (jW zI (qv 8) (jW zI (qv 13) (jW zI (zmI rfl (by rfl) M.list (by rfl) M.range (z3 z8 (z3 (qv 12) z6))) zmM)))) rfl rfl (by simp) (by decide) (zfq (zfj (zav zaw (zav zaw zfb))) (zfk rfl (za1 (zaz (zay (i:=14) rfl (by first | exact Or.inl rfl | exact Or.inr (Or.inl rfl) | exact Or.inr (Or.inr rfl))) zax (zfM hr)) (za1 (zaz (zay (i:=14) rfl (by first | exact Or.inl rfl | exact Or.inr (Or.inl rfl) | exact Or.inr (Or.inr rfl))) zax (zfM hr)) zfl))))
   (zD (wO (zK zhg hr21 (by rfl) mP lY.kp nZ (z3 (qv 0) (z3 (zY yS (qv 1) z8) (z3 (qv 14) (z3 z8 z6))))))
   (zD (za5 (i0:=15) (own:= ["_law_number_here"]) (tI (fsc:=zS rW) (N:= ["_law_script","_law_at","_law_kinds","_law_calm","_law_hands","_law_box_here","_law_words_here","_law_names","_law_things","_law_shelves","_law_k","_law_manner_here","_law_many","_law_uses","_law_plan","_law_others","_law_turn"]) (N':= ["_law_script","_law_at","_law_kinds","_law_calm","_law_hands","_law_box_here","_law_words_here","_law_names","_law_things","_law_shelves","_law_k","_law_manner_here","_law_many","_law_uses","_law_plan","_law_others","_law_turn"]) rfl rfl (by decide+kernel)) uX.nd rfl (Or.inl rfl) rfl (zfy (by rfl) M.range (z3 z8 (z3 (qv 12) z6))) (λC s H fp pins=>(yF (i:=17) nd6 rfl (Or.inl rfl))) (λC s H fp pins=>pH (yE (zap hr) (qv 17) (zG (u3 hr) (qv 14) zI (λ_ _=>rfl)) (by rfl))) (λC s H fp pins=>(zG (zO hr) (zG (u3 hr) (qv 14) zI (λ_ _=>rfl)) (qv 17) (λ_ _=>rfl))))
   (zD (zW (i:=16) uX.nd rfl (Or.inl rfl) (zK y7 hr1 (by rfl) y9 zV.kp y8 (z3 (qv 5) (z3 (zY yS (xO xU (by rfl) M.len PySem.boot_len (z3 (qv 15) z6)) z8) z6))))
   (zM (yN (yO (z3 (u5 (qK rfl) (by rfl) M.tuple rF (z3 (qv 9) z6)) (z3 (zY yS (yO (z3 (zG (zO hr) (zG (u3 hr) (qv 14) zI (λ_ _=>rfl)) z8 (λ_ _=>rfl)) z6)) (u5 (qK rfl) (by rfl) M.tuple rF (z3 (zY yS (uG (qv 15) (vP (qv 16)) uH) (uG (qv 15) uH (vP (qv 16)))) z6))) z6)))))))))))))),λxs st Q h=> ?_⟩
 obtain⟨ns,hands,rfl,rfl,hl,h1,h8,q⟩:=h;refine zC ?_
 try simp? only[true_and]
 refine⟨ns,0,rfl,hl,by decide,λa b hb=> ?_⟩
 try simp? only[true_and]
 refine zC ?_
 try simp? only[true_and]
 refine⟨0,a,b,rfl,rfl,hb,λus nms ts a b hul hun hnl hnn hte htl htn hb=> ?_⟩
 try simp? only[true_and]
 refine zC ?_;unfold zby;refine zC ?_
 try simp? only[true_and]
 refine⟨0,6,a,b,rfl,rfl,hb,by decide,by decide,λn a b n0 n1 hb=> ?_⟩
 try simp? only[true_and]
 refine⟨⟨by omega,by omega⟩,wZ (λk env s=> ∃(sh:List Sh) (v w:Option PV) (a b:Int),env= [some (.lst (ns.map PV.int)),some (.int 0),some oT,some (.bl false),some (.int hands),some (.obj 0),some (.lst (us.map PV.str)),some (.lst (nms.map PV.str)),some (.lst (ts.map PV.str)),some (.obj 1),v,w,none,none,none,none,none]/\sh.length=k/\(∀s∈sh,kL s)/\sh.map (·.1)=us.take k/\yD a b/\s= [z9 a b,.lst (sh.map yA)])
  ⟨[],none,none,a,b,rfl,rfl,by simp,rfl,hb,rfl⟩ ?_ ?_⟩
 ·rintro k x env s hx ⟨sh,v,w,a,b,rfl,hk,hsh,hnm,hb,rfl⟩
  obtain⟨hk2,rfl⟩:=tO hx;have hku:k < us.length:=by omega
  have eu:atI (us.map PV.str) (0+(k:Int))=some (.str us[k]):=by rw[Int.zero_add];exact wY (by rw[List.getElem?_map,List.getElem?_eq_getElem hku];rfl)
  try simp? only[true_and]
  refine zC ?_
  try simp? only[true_and]
  refine⟨0,a,b,rfl,rfl,hb,λkd r a b hmn hb=> ?_⟩
  try simp? only[eu]
  refine⟨0,kd,r,ts,a,b,rfl,rfl,hb,hmn,hte,by omega,htn,λh a b hh hb=> ?_⟩
  try simp? only[zef,List.length_map]
  refine⟨Nat.lt_of_lt_of_le (m:=1000) (by omega) (by decide),sh++ [(us[k],.tup (.str kd::r),h.pv)],_,_,a,b,rfl,by simp[hk],λs hs=> ?_,?_,hb,by simp[yA]⟩
  ·rcases List.mem_append.mp hs with hs | hs
   ·exact hsh s hs
   ·rw[List.mem_singleton.mp hs];exact⟨kd,r,h,rfl,hmn,rfl,hh⟩
  ·rw[sD (List.getElem?_eq_getElem hku),List.map_append,hnm];rfl
 rintro env s ⟨sh,v,w,a,b,rfl,hk,hsh,hnm,hb,rfl⟩;rw[uW]at hk;have hshn:(sh.map (·.1)).Nodup:=by rw[hnm];exact hun.sublist (List.take_sublist _ _)
 have hsl:1<=sh.length/\sh.length<=6:=by omega
 refine⟨[z9 a b],sh.map yA,rfl,by simp,?_⟩;change uK _ _ _ [some (.lst (ns.map PV.int)),some (.int 0),some oT,some (.bl false),some (.int hands),some (.obj 0),some (.lst (us.map PV.str)),some (.lst (nms.map PV.str)),some (.lst (ts.map PV.str)),some (.lst (sh.map yA)),vZ 1 (.lst (sh.map yA)) v,vZ 1 (.lst (sh.map yA)) w,none,none,none,none,none] [z9 a b];generalize vZ 1 (.lst (sh.map yA)) v=v;generalize vZ 1 (.lst (sh.map yA)) w=w;refine zC ?_
 try simp? only[true_and]
 refine⟨0,hands,a,b,rfl,rfl,hb,by omega,by omega,λm a b m0 m1 hb=> ?_⟩;obtain⟨m,rfl⟩: ∃n:Nat,m=n:=⟨m.toNat,by omega⟩
 try simp? only[true_and]
 refine zC ?_
 try simp? only[true_and]
 refine⟨⟨by omega,by omega⟩,?_⟩;refine tS (λ_=>some (.tup [.lst (sh.map yA),.lst (sh.map yA)])) (λj x e hx he=> ?_) ?_
 ·obtain⟨y,rfl⟩:=rN he
  try simp? only[true_and]
  exact CP.yes (e':= [_]) hx rfl rfl
 have huse:(xM 0 (1+(m:Int)).toNat).filterMap (λ_=>some (PV.tup [.lst (sh.map yA),.lst (sh.map yA)]))=List.replicate (m+1) (PV.tup [.lst (sh.map yA),.lst (sh.map yA)]):=by
  rw[show(1+(m:Int)).toNat=m+1 by omega];unfold xM;generalize m+1=q;rw[List.filterMap_map]
  induction q with
  | zero=>rfl
  | succ q ih=>rw[List.range_succ,List.filterMap_append,ih,List.replicate_succ'];rfl
 try simp? only[huse]
 refine zC ?_
 try simp? only[zb1,iS]
 have esp:(List.range (1+(m:Int) - 1).toNat).map (λ(i:Nat)=>PV.int (1+(i:Int)))=(wS m).map yL:=by
  rw[show(1+(m:Int) - 1).toNat=m by omega];unfold wS yL;rw[List.map_map];refine List.map_congr_left λi _=> ?_;show PV.int (1+(i:Int))=PV.int (((i+1:Nat)):Int)
  congr 1;omega
 rw[esp];obtain⟨U,eU⟩: ∃U,List.replicate (m+1) (PV.tup [.lst (sh.map yA),.lst (sh.map yA)])=U:=⟨_,rfl⟩;rw[List.replicate_succ]at eU;rw[eU];refine⟨⟨by omega,by omega⟩,[(.inr "names",.lst (nms.map PV.str)),(.inr "things",.lst (ts.map PV.str)),(.inr "uses",.lst U),(.inr "spare",.obj 2)],[.lst ((wS m).map yL)],rfl,by simp,rfl,?_,?_,?_,?_⟩
 ·intro x hx kvs z;subst z;simp at hx
 ·intro q hq z;simp at hq;rcases hq with rfl | rfl | rfl | rfl <;> cases z
 ·show([.inr "names",.inr "things",.inr "uses",.inr "spare",.inr "ends",.inr "rows"]:List z7).Nodup
  decide+kernel
 obtain⟨kv,ekv⟩: ∃kv,n4 1 "ends" "rows" [(.inr "names",.lst (nms.map PV.str)),(.inr "things",.lst (ts.map PV.str)),(.inr "uses",.lst U),(.inr "spare",.obj 2)] 2=kv:=⟨_,rfl⟩;have ekv':kv= [(.inr "names",.lst (nms.map PV.str)),(.inr "things",.lst (ts.map PV.str)),(.inr "uses",.lst U),(.inr "spare",.obj 1),(.inr "ends",.obj 2),(.inr "rows",.obj 3)]:=ekv.symm;have KV:zbV kv nms ts sh (m+1):=by
  rw[ekv'];refine⟨?_,?_,?_,?_,?_,?_⟩
  ·exact vS
  ·rw[w6 (by decide+kernel)];exact vS
  ·rw[w6 (by decide+kernel),w6 (by decide+kernel),List.replicate_succ,eU];exact vS
  ·rw[w6 (by decide+kernel),w6 (by decide+kernel),w6 (by decide+kernel)];exact vS
  ·rw[w6 (by decide+kernel),w6 (by decide+kernel),w6 (by decide+kernel),w6 (by decide+kernel)];exact vS
  ·rw[w6 (by decide+kernel),w6 (by decide+kernel),w6 (by decide+kernel),w6 (by decide+kernel),w6 (by decide+kernel)];exact vS
 show uK _ _ _ _ [z9 a b,.lst ((wS m).map yL),.dct [],.dct [],.rcd (n4 1 "ends" "rows" _ 2)];rw[ekv];have eG: [z9 a b,.lst ((wS m).map yL),.dct [],.dct [],.rcd kv]=G (z9 a b) kv (zB nms) (wS m) [] [] []:=rfl;rw[eG];refine zC ?_
 try simp? only[true_and]
 refine⟨ns,_,0,z9 a b,kv,nms,ts,sh,m+1,wS m,[],[],[],rfl,rfl,⟨hl,by decide,by rw[nF];omega,KV,hnn,by omega,hnl,by omega,hsh,λz=>by rw[z]at hsl;simp at hsl,by omega,hte,by omega,zga m,λx hx=>by have:=nG.mp hx;omega,λz=>by have:=nG.mp z;omega,by simp,by simp,by simp,by rw[nF];simp;omega,by rw[nF];simp;omega⟩,by rw[nF];omega,λsp' ks X E1 rs hd I hz hrl=> ?_⟩;obtain rfl:=hz rfl;obtain⟨Y,eY⟩: ∃Y,X++ [((0:Nat),rs)]=Y:=⟨_,rfl⟩;rw[List.nil_append,List.nil_append,eY];have kr:=KV.rows
 try simp? only[true_and]
 refine zC ?_
 try simp? only[true_and]
 refine⟨⟨by omega,by omega⟩,?_⟩;refine tS (λx=>match x with | .int k=>zR (vN (zB nms) Y) (.inl k) | _=>none) (λj x e hx he=> ?_) ?_
 ·obtain⟨hj,rfl⟩:=tO hx
  obtain⟨y,rfl⟩:=rN he;have hin: ∀{Q:K3},uI false (.int (1+(j:Int))) (.obj 3) (G (z9 a b) kv (zB nms) sp' E1 Y []) Q=Q (.bl (zR (vN (zB nms) Y) (.inl (1+(j:Int)))).isSome) (G (z9 a b) kv (zB nms) sp' E1 Y []):=λ{Q} =>by
   unfold uI pY qF;dsimp only;rw[wT]
   rfl
  try simp? only[wP,kr,wT,wQ,hin]
  have ej:(1+(j:Int))=((1+j:Nat):Int):=by omega
  have hval:zR (vN (zB nms) Y) (.inl (1+(j:Int)))=(wK (zB nms) Y (1+j)).map yJ:=by rw[ej,jD]
  cases hlk:wK (zB nms) Y (1+j)with
  | none=>
   rw[hlk]at hval;rw[hval]
   try simp? only[true_and]
   exact CP.no (e':= [_]) hx hval rfl
  | some h=>
   rw[hlk]at hval;rw[hval];show if true=true then _ else _
   rw[if_pos rfl];exact⟨rfl,CP.yes (e':= [_]) hx hval rfl⟩
 have eoth:(xM 1 (1+(m:Int) - 1).toNat).filterMap (λx=>match x with | .int k=>zR (vN (zB nms) Y) (.inl k) | _=>none)=((wS m).filterMap (wK (zB nms) Y)).map yJ:=by
  rw[show(1+(m:Int) - 1).toNat=m by omega];unfold xM wS;rw[List.filterMap_map,List.filterMap_map,List.map_filterMap];refine j4 λi _=> ?_;show zR (vN (zB nms) Y) (.inl (1+(i:Int)))=(wK (zB nms) Y (i+1)).map yJ;rw[show(1+(i:Int))=((i+1:Nat):Int) by omega,jD]
 rw[eoth];obtain⟨oth,eo⟩: ∃oth,(wS m).filterMap (wK (zB nms) Y)=oth:=⟨_,rfl⟩;rw[eo];have ks0: ∀k∈X.map (·.1),k∈wS m:=λk hk=>I.sub k (List.mem_append_left _ (by rw[<- I.xk];exact hk));have eo2:oth=(wS m).filterMap (wK (zB nms) X):=by
  rw[<- eo,<- eY];exact j4 λk hk=>zkr (by have:=nG.mp hk;omega)
 have hperm:oth.Perm (X.map (r6 (zB nms))):=by
  rw[eo2];exact ze7 (by rw[I.xk];exact(List.nodup_append.mp I.nd).1) (zga m) ks0
 have hXl:X.length<=7:=by
  have:=I.len;rw[nF]at this;have h2:X.length=ks.length:=by rw[<- I.xk,List.length_map]
  omega
 have hol:oth.length<=7:=by rw[hperm.length_eq,List.length_map];exact hXl
 have h0v:zR (vN (zB nms) Y) (.inl 0)=some (yJ (zB nms 0,rs)):=by
  rw[show(0:Int)=((0:Nat):Int)from rfl,jD,<- eY];unfold wK;rw[List.find?_append];have hno:(X.find? λp=>p.1==0)=none:=by
   rw[List.find?_eq_none];intro p hp hz;have:=nG.mp (ks0 p.1 (List.mem_map_of_mem hp));have:p.1=0:=by simpa using hz
   omega
  rw[hno];rfl
 refine zC ?_
 try simp? only[List.length_map]
 refine⟨0,_,a,b,rfl,rfl,hb,by omega,by omega,λt a b t0 t1 hb=> ?_⟩;obtain⟨t,rfl⟩: ∃n:Nat,t=n:=⟨t.toNat,by omega⟩;have eG2: ∀{a' b':Int} {z:List Ee},(G (z9 a' b') kv (zB nms) sp' z Y []).set 0 (z9 a b)=G (z9 a b) kv (zB nms) sp' z Y []:=λ{a' b' z} =>rfl;rw[eG2]
 try simp? only[wP,kr,wT,wQ,h0v]
 rw[fB,oH,<- List.map_drop,<- List.map_take,<- List.map_append];have hp2:(oth.drop t++oth.take t).Perm oth:=List.perm_append_comm.trans (by rw[List.take_append_drop]);have hrot:(oth.drop t++oth.take t).length<=7:=by rw[hp2.length_eq];exact hol
 refine⟨rfl,by rw[List.length_map,List.length_map,List.length_drop,List.length_take,sizeLine_eq];omega,by rw[List.length_map,sizeLine_eq];omega,?_⟩;have hsh2:sh.map yA=(sh.map shN).map yM:=by rw[List.map_map];rfl
 rw[hsh2];have hh7:=nF m;refine q (sh.map shN) (zB nms 0,rs) (oth.drop t++oth.take t) (zmj (X:=X) hnn (sp:=wS m) (λx hx=>by have:=nG.mp hx;omega) (by omega) (by omega) I.toLI hrl (by rw[List.map_map];exact hshn) (by rw[List.length_map];omega) (λs hs=> ?_) (λs hs=>by obtain⟨s0,hs0,rfl⟩:=List.mem_map.mp hs;exact⟨_,_,rfl⟩) ?_) (zml (X:=X) hnn (sp:=wS m) (λx hx=>by have:=nG.mp hx;omega) (by omega) (by omega) I (hp2.trans hperm))
 ·obtain⟨s0,hs0,rfl⟩:=List.mem_map.mp hs
  exact zn_ (hsh s0 hs0)
 ·rw[List.map_append]
  refine(List.Perm.cons _ (hp2.trans hperm)).trans ?_;exact(List.perm_append_singleton _ _).symm
theorem nd7:(["_law_program_here","_law_kx","_law_found","_law_kh","_law_rows","_law_n","_law_first","_law_joins","_law_taken","_law_other","_law_some","_law_hand_here"]:List Str).Nodup:=by decide+kernel
theorem nd8:(["_law_program_here","_law_kx","_law_found","_law_kh","_law_rows","?5","_law_first","_law_joins","_law_taken","_law_other","_law_some","_law_n"]:List Str).Nodup:=by decide+kernel
theorem zlk {f:Addr}{fd:FuncData}(M:Mo K mg)(F:yC K "_law_way" "_law_way" sX f fd):zP P w K mg base zQ 1 f fd ["_law_program_here","_law_kx"] (zN K zbe):=by
 refine xV 0 F uJ (λxs st Q h=>by obtain⟨sh,h0,hs,en,rj,x,rfl,_⟩:=h;rfl) ⟨_,λcdv A outer s H E hr=>(zD (zW (i:=2) uJ.nd rfl (Or.inl rfl) (tL z6))
   (zD (vM PassesOwn.never rfl (vL (zG (zO hr) (qv 0) z8 (λ_ _=>rfl))) (tM (n:=2) rfl (xE (yF (i:=3) uJ.nd rfl (Or.inr rfl)) (xE (yF (i:=4) uJ.nd rfl (Or.inr rfl)) uV))) (zM (vM PassesOwn.never rfl (rS (by rfl) M.range (z3 (xO xU (by rfl) M.len PySem.boot_len (z3 (qv 4) z6)) z6)) (yF (i:=5) uJ.nd rfl (Or.inl rfl)) (zM (yV (yE (yY hr) (zG (zO hr) (qv 4) (qv 5) (λ_ _=>rfl)) (yO (z3 zI (z3 (qv 1) z6))) (yB _)) (zM (zW (i:=2) uJ.nd rfl (Or.inl rfl) (tL (z3 (yO (z3 (qv 3) (z3 (zY yS (qv 5) z8) z6))) z6)))) xF)))))
   (zM (za6 PassesOwn.never (jX mV) (zD (vQ (zG (zO hr) (qv 2) (jV jJ z8) (λ_ _=>rfl)) (tM (n:=2) rfl (xE (yF (i:=3) uJ.nd rfl (Or.inr rfl)) (xE (yF (i:=6) uJ.nd rfl (Or.inl rfl)) uV))))
   (zD (zW (i:=4) uJ.nd rfl (Or.inr rfl) (zG (zO hr) (qL (own:= ["_law_hand_here"]) (tI (fsc:=zS sX) (N:= ["_law_program_here","_law_kx","_law_found","_law_kh","_law_rows","_law_n","_law_first","_law_joins","_law_taken","_law_other","_law_some"]) (N':= ["_law_program_here","_law_kx","_law_found","_law_kh","_law_rows","_law_n","_law_first","_law_joins","_law_taken","_law_other","_law_some"]) rfl rfl (by decide+kernel)) rfl (vL (zG (zO hr) (qv 0) z8 (λ_ _=>rfl))) (λC s H fp pins=>(yF (i:=11) nd7 rfl (Or.inl rfl))) (λC s H fp pins=>pH (yE (yY hr) (zG (zO hr) (qv 11) z8 (λ_ _=>rfl)) (qv 3) (yB _))) (λC s H fp pins=>(zG (zO hr) (qv 11) z8 (λ_ _=>rfl)))) z8 (λ_ _=>rfl)))
   (zD (za5 (i0:=7) (own:= ["_law_n"]) (tI (fsc:=zS sX) (N:= ["_law_program_here","_law_kx","_law_found","_law_kh","_law_rows","_law_n","_law_first","_law_joins","_law_taken","_law_other","_law_some"]) (N':= ["_law_program_here","_law_kx","_law_found","_law_kh","_law_rows","?5","_law_first","_law_joins","_law_taken","_law_other","_law_some"]) rfl rfl (by decide+kernel)) uJ.nd rfl (Or.inl rfl) rfl (zfy (by rfl) M.range (z3 (qv 6) (z3 (xO xU (by rfl) M.len PySem.boot_len (z3 (qv 4) z6)) z6))) (λC s H fp pins=>(yF (i:=11) nd8 rfl (Or.inl rfl))) (λC s H fp pins=>pH (yE (yY hr) (zG (zO hr) (qv 4) (qv 11) (λ_ _=>rfl)) (yO (z3 zI (z3 (qv 1) z6))) (yB _))) (λC s H fp pins=>(qv 11)))
   (zD (vQ (yO (z3 (qv 3) (z3 (qv 6) (z3 (zG (zO hr) (zY yS (qv 7) (u6 (z3 (xO xU (by rfl) M.len PySem.boot_len (z3 (qv 4) z6)) z6))) z8 (λ_ _=>rfl)) z6)))) (sW hr (qv 2) (jV jJ z8)))
   (zD (yV (yE uR (xO xU (by rfl) M.len PySem.boot_len (z3 (qv 7) z6)) z8 (yB _)) (zM (yN (qv 2))) xF)
   (zD (zW (i:=8) uJ.nd rfl (Or.inl rfl) (u6 z6))
   (zD (vM PassesOwn.never rfl (vL (zG (zO hr) (qv 0) z8 (λ_ _=>rfl))) (tM (n:=2) rfl (xE (yF (i:=9) uJ.nd rfl (Or.inr rfl)) (xE (yF (i:=10) uJ.nd rfl (Or.inr rfl)) uV))) (zM (zW (i:=8) uJ.nd rfl (Or.inl rfl) (zY yS (qv 8) (qL (own:= ["_law_n"]) (tI (fsc:=zS sX) (N:= ["_law_program_here","_law_kx","_law_found","_law_kh","_law_rows","_law_n","_law_first","_law_joins","_law_taken","_law_other","_law_some"]) (N':= ["_law_program_here","_law_kx","_law_found","_law_kh","_law_rows","?5","_law_first","_law_joins","_law_taken","_law_other","_law_some"]) rfl rfl (by decide+kernel)) rfl (rS (by rfl) M.range (z3 (xO xU (by rfl) M.len PySem.boot_len (z3 (qv 10) z6)) z6)) (λC s H fp pins=>(yF (i:=11) nd8 rfl (Or.inl rfl))) (λC s H fp pins=>pH (yE (yY hr) (zG (zO hr) (qv 10) (qv 11) (λ_ _=>rfl)) (yO (z3 zI (z3 (qv 3) z6))) (yB _))) (λC s H fp pins=>(yO (z3 (qv 9) (z3 (zY yS (qv 11) z8) z6)))))))))
   (zM (wO (wN PySem.F.plainAttrs_list PySem.F.slot_list_append PySem.F.type_list_append (by decide) uF (qv 2) (z3 (zG (zO hr) (qv 8) z8 (λ_ _=>rfl)) z6))))))))))))))),λxs st Q h=> ?_⟩
 obtain⟨sh,h0,hs,en,rj,x,rfl,O,G,hx,q⟩:=h;obtain⟨all,eall⟩: ∃all,h0::hs=all:=⟨_,rfl⟩;have hxt:x∈all.tail.map (·.1):=by rw[<- eall];exact hx
 rw[eall]at O G q⊢
 have hrow: ∀{h:Hd} {j:Nat} {r:Rh},h∈all->h.2[j]?=some r->zE r.pv<=50:=λ{h j r} hh hr=>Nat.le_trans (O.rd h hh r (List.mem_iff_getElem?.mpr ⟨j,hr⟩)) (by decide);have big:(40000:Nat) < sizeLine:=by rw[sizeLine_eq];decide
 refine zC ?_
 try simp? only[true_and]
 refine sY (λenv s=> ∃(g:z4) (h:Hd) (i:Nat) (v3 v4 v5:Option PV),env= [some (w5 sh all),some (.str x),some (.obj (st++g).length),v3,v4,v5,none,none,none,none,none]/\s=(st++g)++ [.lst [uU h (i+1)]]/\h∈all/\h.2[i]?=some (.split x)) (λN hN=> ?_) ?_
 ·unfold w5
  try simp? only[true_and]
  refine wZ (λk env s=> ∃(g:z4) (fl:List PV) (v3 v4 v5:Option PV),env= [some (.tup [.tup (sh.map yM),.tup (all.map yJ)]),some (.str x),some (.obj (st++g).length),v3,v4,v5,none,none,none,none,none]/\s=(st++g)++ [.lst fl]/\((fl= []/\∀h∈all.take k,Rh.split x∉h.2)∨∃h i,h∈all/\h.2[i]?=some (Rh.split x)/\fl= [uU h (i+1)])) ⟨[],[],none,none,none,by simp,by simp,.inl ⟨rfl,by simp⟩⟩ ?_ ?_
  ·rintro k y env s hy ⟨g,fl,v3,v4,v5,rfl,rfl,hfl⟩
   obtain⟨h,hh,rfl⟩:=wW hy;have hhm:h∈all:=List.mem_iff_getElem?.mpr ⟨k,hh⟩;unfold yJ yM uO
   try simp? only[List.length_map]
   refine⟨by have:=O.rl h hhm;omega,wZ (λj env s=> ∃(g:z4) (fl:List PV) (v5:Option PV),env= [some (.tup [.tup (sh.map yM),.tup (all.map yJ)]),some (.str x),some (.obj (st++g).length),some (.str h.1),some (.tup (h.2.map Rh.pv)),v5,none,none,none,none,none]/\s=(st++g)++ [.lst fl]/\((fl= []/\(∀h∈all.take k,Rh.split x∉h.2)/\Rh.split x∉h.2.take j)∨∃h i,h∈all/\h.2[i]?=some (Rh.split x)/\fl= [uU h (i+1)])) ⟨g,fl,v5,rfl,rfl,?_⟩ ?_ ?_⟩
   ·exact hfl.imp (λz=>⟨z.1,z.2,by simp⟩) id
   ·rintro j y env s hy ⟨g,fl,v5,rfl,rfl,hfl⟩
    obtain⟨hj,rfl⟩:=tO hy;have hj':j < h.2.length:=by simpa using hj
    obtain⟨r,hr⟩: ∃r,h.2[j]?=some r:=⟨_,List.getElem?_eq_getElem hj'⟩;have hat:atI (h.2.map Rh.pv) (0+(j:Int))=some r.pv:=by rw[Int.zero_add];exact wY (by rw[List.getElem?_map,hr];rfl)
    have hdr:=hrow hhm hr
    try simp? only[hat,ziG]
    cases hb:r.is x with
    | true=>
     rw[zer.mp hb]at hr
     try simp? only[true_and]
     refine⟨hdr,g++ [.lst fl],[uU h (j+1)],some (.int (0+(j:Int))),?_,?_,.inr ⟨h,j,hhm,hr,rfl⟩⟩
     ·rw[List.append_assoc]
     ·unfold uU;rw[show(0+(j:Int)+1)=((j+1:Nat):Int) by omega];simp
    | false=>
     try simp? only[true_and]
     refine⟨hdr,g,fl,_,rfl,rfl,hfl.imp (λz=>⟨z.1,z.2.1,λw=> ?_⟩) id⟩;rw[sD hr]at w;rcases List.mem_append.mp w with w | w
     ·exact z.2.2 w
     ·rw[<- List.mem_singleton.mp w,zer.mpr rfl]at hb;cases hb
   ·rintro env s ⟨g,fl,v5,rfl,rfl,hfl⟩
    try simp? only[true_and]
    refine⟨g,fl,_,_,_,rfl,rfl,hfl.imp (λz=>⟨z.1,λh' hh'=> ?_⟩) id⟩;rw[sD hh]at hh';rcases List.mem_append.mp hh' with hh' | hh'
    ·exact z.2.1 h' hh'
    ·rw[List.mem_singleton.mp hh']
     have:=z.2.2;rw[uW]at this;simpa using this
  ·rintro env s ⟨g,fl,v3,v4,v5,rfl,rfl,hfl⟩
   rw[List.length_map,List.take_of_length_le (Nat.le_refl _)]at hfl
   try simp? only[true_and]
   rcases hfl with⟨_,h2⟩ | ⟨h,i,h1,h2,rfl⟩
   ·obtain⟨k,hk,i,e⟩:=G.isplit hxt
    exact absurd (List.mem_iff_getElem?.mpr ⟨i,e⟩) (h2 k hk)
   ·exact hN _ _ ⟨g,h,i,v3,v4,v5,rfl,rfl,h1,h2⟩
 rintro env s ⟨g,hA,iA,v3,v4,v5,rfl,rfl,hA1,hA2⟩;obtain⟨S,eS,lS⟩: ∃S,st++g=S/\S.take st.length=st:=⟨_,rfl,by simp⟩;rw[eS];unfold w5;refine⟨λm env s=> ∃(W:List (Hd×Nat×Nat)) (h:Hd) (f:Nat) (v3 v4 v5 v6 v7 v8 v9 v10:Option PV),env= [some (.tup [.tup (sh.map yM),.tup (all.map yJ)]),some (.str x),some (.obj S.length),v3,v4,v5,v6,v7,v8,v9,v10]/\s=S++ [.lst (W.map vB++ [uU h f])]/\uM all x W h f/\W.length<=rj h.1/\m=7 - rj h.1,⟨_,[],hA,iA+1,_,_,_,_,_,_,_,_,rfl,rfl,.start hA1 hA2,Nat.zero_le _,rfl⟩,?_⟩;rintro m env s ⟨W,h,f,v3,v4,v5,v6,v7,v8,v9,v10,rfl,rfl,w,hW,rfl⟩;have wk:=w.k G;have hh:=wk.hh;have hr7:=G.r7 h hh;have hf1:f<=h.2.length:=by obtain⟨i,rfl,r,hr,_⟩:=wk.ent;exact(List.getElem?_eq_some_iff.mp hr).1
 have hrl:=O.rl h hh
 try simp? only[true_and]
 refine⟨λe s=> ∃(W2:List (Hd×Nat×Nat)) (h2:Hd) (f2:Nat) (v3 v4 v5 v6 v7 v8 v9 v10:Option PV),e= [some (.tup [.tup (sh.map yM),.tup (all.map yJ)]),some (.str x),some (.obj S.length),v3,v4,v5,v6,v7,v8,v9,v10]/\s=S++ [.lst (W2.map vB++ [uU h2 f2])]/\uM all x W2 h2 f2/\W2.length<=rj h2.1/\rj h.1 < rj h2.1,?_,?_⟩
 ·rintro e s ⟨W2,h2,f2,v3,v4,v5,v6,v7,v8,v9,v10,rfl,rfl,w2,hW2,hlt⟩
  have:=G.r7 h2 (w2.k G).hh;exact⟨7 - rj h2.1,by omega,W2,h2,f2,v3,v4,v5,v6,v7,v8,v9,v10,rfl,rfl,w2,hW2,rfl⟩
 refine zC ?_
 try simp? only[zci]
 unfold uU
 try simp? only[true_and]
 refine zC ?_
 try simp? only[true_and]
 refine tS (lA h.1) (λj y e hy he=> ?_) ?_
 ·obtain⟨k,hk,rfl⟩:=wW hy
  obtain⟨y1,rfl⟩:=rN he;have hf:lA h.1 (yJ k)=if k.1==h.1 then some (.tup (k.2.map Rh.pv))else none:=rfl
  unfold yJ yM uO at hy hf⊢
  try simp? only[true_and]
  cases hb:(k.1==h.1)with
  | true=>
   rw[hb]at hf
   try simp? only[hb]
   exact CP.yes (e':= [_]) hy hf rfl
  | false=>
   rw[hb]at hf
   try simp? only[hb]
   exact CP.no (e':= [_]) hy hf rfl
 rw[zfD O.hn hh]
 try simp? only[true_and]
 refine zC ?_
 try simp? only[List.length_map]
 refine⟨⟨by omega,by omega⟩,?_⟩;refine tS (tV h.2 x) (λj y e hy he=> ?_) ?_
 ·obtain⟨hj,rfl⟩:=tO hy
  obtain⟨y1,rfl⟩:=rN he;have hj':f+j < h.2.length:=by omega
  obtain⟨r,hr⟩: ∃r,h.2[f+j]?=some r:=⟨_,List.getElem?_eq_getElem hj'⟩;have hat:atI (h.2.map Rh.pv) ((f:Int)+(j:Int))=some r.pv:=by rw[show(f:Int)+(j:Int)=((f+j:Nat):Int) by omega];exact wY (by rw[List.getElem?_map,hr];rfl)
  have hdr:=hrow hh hr;have hfj:tV h.2 x (.int ((f:Int)+(j:Int)))=if r.isJ x then some (.int ((f:Int)+(j:Int)))else none:=by
   unfold tV;dsimp only;rw[show((f:Int)+(j:Int)).toNat=f+j by omega,hr]
  try simp? only[hat,zcM]
  cases hb:r.isJ x with
  | true=>
   rw[hb]at hfj
   try simp? only[true_and]
   exact⟨hdr,CP.yes (e':= [_]) hy hfj rfl⟩
  | false=>
   rw[hb]at hfj
   try simp? only[true_and]
   exact⟨hdr,CP.no (e':= [_]) hy hfj rfl⟩
 have hcnt:((h.2.length:Int) - (f:Int)).toNat=h.2.length - f:=by omega
 rw[hcnt];obtain⟨js,ejs⟩: ∃js,(xM (f:Int) (h.2.length - f)).filterMap (tV h.2 x)=js:=⟨_,rfl⟩;have hjs:=ze1 (rs:=h.2) (x:=x) (c:=h.2.length - f) (a:=f);rw[ejs]at hjs⊢
 refine zC ?_
 try simp? only[List.length_map]
 have hjl:js.length<=30:=by
  have:=List.length_filterMap_le (tV h.2 x) (xM (f:Int) (h.2.length - f));rw[ejs,uW]at this;omega
 have hixn: ∀{z:PV},xT (W.map vB++ [z]).length (-1)=some W.length:=λ{z} =>by
  rw[List.length_append,List.length_map,List.length_singleton];unfold xT;simp;omega
 have hset: ∀{z v:PV},(W.map vB++ [z]).set W.length v=W.map vB++ [v]:=λ{z v} =>by
  rw[List.set_append_right _ _ (by rw[List.length_map];exact Nat.le_refl _),List.length_map,Nat.sub_self];rfl
 have hWl:W.length<=7:=by omega
 have stl:st.length<=S.length:=by rw[<- eS,List.length_append];omega
 refine⟨by omega,?_⟩;rcases hjs with⟨ej,hno⟩ | ⟨l,r,ej,hl1,hl2,hl3⟩
 ·subst ej
  have hno': ∀j,f<=j->h.2[j]?≠some (.join x):=λj h1 h2=>hno j h1 (by have:=(List.getElem?_eq_some_iff.mp h2).1;omega) h2;have h0':atI ([]++ [PV.int (h.2.length:Int)]) 0=some (.int (h.2.length:Int)):=rfl;rw[h0']
  try simp? only[hixn,hset]
  refine zC ?_
  try simp? only[true_and]
  obtain⟨kj,hkj,ij,ekj,rkj⟩:=w.on G hno';refine zC ?_
  try simp? only[true_and]
  refine zC ?_
  try simp? only[true_and]
  refine wZ (λk env s=> ∃(tk:List PV) (v9 v10:Option PV),env= [some (.tup [.tup (sh.map yM),.tup (all.map yJ)]),some (.str x),some (.obj S.length),some (.str h.1),some (.tup (h.2.map Rh.pv)),v5,some (.int (f:Int)),some (.lst []),some (.lst tk),v9,v10]/\s=S++ [.lst (W.map vB++ [vB (h,f,h.2.length)])]/\(∀t∈tk,∃k2∈all,∃i:Nat,k2.2[i]?=some (Rh.join h.1)/\t=uU k2 (i+1))/\(∀k2∈all.take k,∀i:Nat,k2.2[i]?=some (Rh.join h.1)->tk≠ [])/\tk.length<=30 * k) ⟨[],v9,v10,rfl,rfl,λt ht=>by simp at ht,λk2 h2=>by simp at h2,Nat.zero_le _⟩ ?_ ?_
  ·rintro k y env s hy ⟨tk,v9,v10,rfl,rfl,t1,t2,t3⟩
   obtain⟨k2,hk2,rfl⟩:=wW hy;have hkm:k2∈all:=List.mem_iff_getElem?.mpr ⟨k,hk2⟩;have hkl:k < all.length:=(List.getElem?_eq_some_iff.mp hk2).1;have hal:=O.hl;have hrl2:=O.rl k2 hkm;unfold yJ yM uO
   try simp? only[List.length_map]
   refine⟨by omega,?_⟩;refine tS (o6 k2 h.1) (λj y e hy he=> ?_) ?_
   ·obtain⟨hj,rfl⟩:=tO hy
    obtain⟨y1,rfl⟩:=rN he;have hj':j < k2.2.length:=by simpa using hj
    obtain⟨r,hr⟩: ∃r,k2.2[j]?=some r:=⟨_,List.getElem?_eq_getElem hj'⟩;have hat:atI (k2.2.map Rh.pv) (0+(j:Int))=some r.pv:=by rw[Int.zero_add];exact wY (by rw[List.getElem?_map,hr];rfl)
    have hdr:=hrow hkm hr;have hfj:=zbp (n:=h.1) hr
    try simp? only[hat,zcM]
    cases hb:r.isJ h.1 with
    | true=>
     rw[hb]at hfj
     try simp? only[true_and]
     refine⟨hdr,?_⟩;unfold uU at hfj;rw[show(((j+1:Nat)):Int)=0+(j:Int)+1 by omega]at hfj;exact CP.yes (e':= [_]) hy hfj rfl
    | false=>
     rw[hb]at hfj
     try simp? only[true_and]
     exact⟨hdr,CP.no (e':= [_]) hy hfj rfl⟩
   have ecn:((k2.2.length:Int)).toNat=k2.2.length:=Int.toNat_natCast _
   try rw[ecn]
   obtain⟨ad,ead⟩: ∃ad,(xM 0 k2.2.length).filterMap (o6 k2 h.1)=ad:=⟨_,rfl⟩;have hadl:ad.length<=30:=by
    have:=List.length_filterMap_le (o6 k2 h.1) (xM 0 k2.2.length);rw[ead,uW]at this;omega
   rw[ead]
   try simp? only[true_and]
   refine⟨by omega,tk++ad,_,_,rfl,λt ht=> ?_,λk3 hk3 i hi=> ?_,by rw[List.length_append];omega⟩
   ·rcases List.mem_append.mp ht with ht | ht
    ·exact t1 t ht
    ·obtain⟨i,h1,h2⟩:=zoo (ead▸ht)
     exact⟨k2,hkm,i,h1,h2⟩
   ·intro z
    have hz:=List.append_eq_nil_iff.mp z;rw[sD hk2]at hk3;rcases List.mem_append.mp hk3 with hk3 | hk3
    ·exact t2 k3 hk3 i hi hz.1
    ·rw[List.mem_singleton.mp hk3]at hi
     exact zon hi (ead.trans hz.2)
  ·rintro env s ⟨tk,v9,v10,rfl,rfl,t1,t2,t3⟩
   rw[List.length_map,List.take_of_length_le (Nat.le_refl _)]at t2;have hne:=t2 kj hkj ij ekj;cases tk with
   | nil=>exact absurd rfl hne
   | cons t tk=>
    obtain⟨k2,hk2,i,e1,e2⟩:=t1 t (List.mem_cons_self ..);have h0t:atI (t::tk) 0=some t:=wY (xs:=t::tk) (j:=0) rfl;have hno2:yP t=true:=by rw[e2];rfl
    try simp? only[h0t,hno2,List.length_map,List.length_append]
    refine⟨by omega,W++ [(h,f,h.2.length)],k2,i+1,_,_,_,_,_,_,_,_,rfl,?_,.next w hno' hk2 e1,?_,G.jr k2 hk2 _ (List.mem_iff_getElem?.mpr ⟨i,e1⟩)⟩
    ·rw[List.map_append,e2];rfl
    ·have:=G.jr k2 hk2 _ (List.mem_iff_getElem?.mpr ⟨i,e1⟩)
     rw[List.length_append,List.length_singleton];omega
 ·have h0':atI (js++ [PV.int (h.2.length:Int)]) 0=some (.int (l:Int)):=wY (xs:=js++ [PV.int (h.2.length:Int)]) (j:=0) (by rw[ej];rfl)
  have hjp:decide (0 < ((js.length:Nat):Int))=true:=decide_eq_true (by rw[ej,List.length_cons];omega);rw[h0']
  try simp? only[hixn,hset]
  refine zC ?_
  try simp? only[hjp]
  unfold xG;dsimp only;rw[if_neg (by omega),rO];dsimp only;rw[List.take_append_of_le_length stl,lS];have:=q W h f l w hWl hl1 hl2 hl3;rw[List.map_append]at this;exact this
theorem nd9:(["_law_program_here","_law_ways","_law_kh","_law_n","_law_due_here","_law_kx","_law_other","_law_first","_law_last"]:List Str).Nodup:=by decide+kernel
theorem zld {f:Addr}{fd:FuncData}(M:Mo K mg)(F:yC K "_law_due" "_law_due" qR f fd):zP P w K mg base zQ 1 f fd ["_law_program_here","_law_ways","_law_kh","_law_n"] (zN K zfS):=by
 refine xV 0 F zaQ (λxs st Q h=>by obtain⟨pg,L,kh,n,rfl,_⟩:=h;rfl) ⟨_,λcdv A outer s H E hr=>(zD (zW (i:=4) zaQ.nd rfl (Or.inl rfl) (tL z6))
   (zD (vM PassesOwn.never rfl (zmL (qv 1)) (yF (i:=5) zaQ.nd rfl (Or.inl rfl)) (zM (yV (yE (zap hr) mV (qL (own:= ["_law_other","_law_first","_law_last"]) (tI (fsc:=zS qR) (N:= ["_law_program_here","_law_ways","_law_kh","_law_n","_law_due_here","_law_kx"]) (N':= ["_law_program_here","_law_ways","_law_kh","_law_n","_law_due_here","_law_kx"]) rfl rfl (by decide+kernel)) rfl (vL (zG (zkS hr) (qv 1) (qv 5) (λ_ _=>rfl))) (λC s H fp pins=>(tM (n:=3) rfl (xE (yF (i:=6) nd9 rfl (Or.inl rfl)) (xE (yF (i:=7) nd9 rfl (Or.inl rfl)) (xE (yF (i:=8) nd9 rfl (Or.inl rfl)) uV))))) (λC s H fp pins=>mW) (λC s H fp pins=>(zfv (rR (yY hr) (qv 2) (qv 6) (yB _)) (zfw (zmF zeQ zeQ (qv 7) (qv 3) (qv 8)))))) (by rfl)) (zM (wO (wN PySem.F.plainAttrs_list PySem.F.slot_list_append PySem.F.type_list_append (by decide) uF (qv 4) (z3 (qv 5) z6)))) xF)))
   (zM (yN (u5 (qK rfl) (by rfl) M.tuple rF (z3 (qv 4) z6)))))),λxs st Q h=> ?_⟩
 obtain⟨pg,L,kh,n,rfl,hw,hn,hl,q⟩:=h;have big:(40000:Nat) < sizeLine:=by rw[sizeLine_eq];decide
 have hks:(wJ L).map (λq=>u0 q.1)=L.map λp=>PV.str p.1:=by unfold wJ;rw[List.map_map];rfl
 rcases hw with rfl | ⟨o,rfl⟩
 ·refine zC ?_
  try simp? only[true_and]
  refine zC ?_
  try simp? only[zg7]
  refine⟨0,wJ L,rfl,.inl ⟨rfl,λo=> ?_⟩⟩
  try simp? only[true_and]
  rw[hks];refine wZ (λk env s=> ∃v:Option PV,env= [some pg,some (.obj 0),some (.str kh),some (.int (n:Int)),some (.obj 1),v]/\s= [.fd o (wJ L),.lst ((((L.take k).filter λp=>wH kh n p.2).map (·.1)).map PV.str)]) ⟨none,rfl,rfl⟩ ?_ ?_
  ·rintro k y env s hy ⟨v,rfl,rfl⟩
   obtain⟨p,hp,rfl⟩:=wW hy;have hpm:p∈L:=List.mem_iff_getElem?.mpr ⟨k,hp⟩;have hv:=zb7 hn hpm;refine⟨rfl,?_⟩
   try simp? only[zcH,hv]
   refine tS (mF kh n) (λj y e hy he=> ?_) ?_
   ·obtain⟨w,hw,rfl⟩:=wW hy
    obtain⟨y1,y2,y3,rfl⟩:=ze4 he;have hf:=fC (kh:=kh) (n:=n) (p:=w);have d1:decide ((w.2.1:Int)<=(n:Int))=decide (w.2.1<=n):=decide_eq_decide.mpr Int.ofNat_le;have d2:decide ((n:Int)<=(w.2.2:Int))=decide (n<=w.2.2):=decide_eq_decide.mpr Int.ofNat_le;unfold vB at hy hf⊢
    try simp? only[iN]
    cases hb:(kh==w.1.1)with
    | false=>
     rw[hb]at hf
     try simp? only[true_and]
     exact CP.yes (e':= [_,_,_]) hy hf rfl
    | true=>
     rw[hb]at hf
     try simp? only[iN,d1,d2]
     cases hc:decide (w.2.1<=n)with
     | false=>
      rw[hc]at hf
      try simp? only[true_and]
      exact CP.yes (e':= [_,_,_]) hy hf rfl
     | true=>
      rw[hc]at hf
      try simp? only[d2]
      exact CP.yes (e':= [_,_,_]) hy hf rfl
   rw[fD];obtain⟨i1,i2⟩:=zaa (bs:=p.2.map λq=>kh==q.1.1&&(decide (q.2.1<=n)&&decide (n<=q.2.2)));have ic:(p.2.map λq=>kh==q.1.1&&(decide (q.2.1<=n)&&decide (n<=q.2.2))).any id=wH kh n p.2:=by unfold wH;rw[List.any_map];rfl
   have hin: ∀{Q:K3} {st:z4},uI false (.bl true) (.lst ((p.2.map λq=>kh==q.1.1&&(decide (q.2.1<=n)&&decide (n<=q.2.2))).map PV.bl)) st Q=((uD (.bl true)=true/\_)/\Q (.bl (vO (.bl true) _)) st):=λ{Q st} =>rfl
   try simp? only[hin,i1,i2,ic]
   have hfl:((L.take k).filter λp=>wH kh n p.2).length<=100:=Nat.le_trans (List.length_filter_le ..) (by rw[List.length_take];omega);have hts:(L.take (k+1)).filter (λp=>wH kh n p.2)=(L.take k).filter (λp=>wH kh n p.2)++if wH kh n p.2 then [p]else []:=by
    rw[sD hp,List.filter_append,List.filter_cons];rfl
   cases hc:wH kh n p.2 with
   | true=>
    rw[hc]at hts
    try simp? only[List.length_map]
    refine⟨by decide,by omega,_,rfl,?_⟩;rw[hts,if_pos rfl,List.map_append,List.map_append];rfl
   | false=>
    rw[hc]at hts
    try simp? only[true_and]
    refine⟨by decide,_,rfl,?_⟩;rw[hts];simp
  ·rintro env s ⟨v,rfl,rfl⟩
   rw[List.length_map,List.take_of_length_le (Nat.le_refl _)];refine⟨rfl,?_⟩
   try simp? only[true_and]
   exact q _ (.inr ⟨o,rfl⟩)
 ·refine zC ?_
  try simp? only[true_and]
  refine zC ?_
  try simp? only[zg7]
  refine⟨0,wJ L,rfl,.inr ⟨o,rfl,?_⟩⟩;rw[hks];refine wZ (λk env s=> ∃v:Option PV,env= [some pg,some (.obj 0),some (.str kh),some (.int (n:Int)),some (.obj 1),v]/\s= [.fd o (wJ L),.lst ((((L.take k).filter λp=>wH kh n p.2).map (·.1)).map PV.str)]) ⟨none,rfl,rfl⟩ ?_ ?_
  ·rintro k y env s hy ⟨v,rfl,rfl⟩
   obtain⟨p,hp,rfl⟩:=wW hy;have hpm:p∈L:=List.mem_iff_getElem?.mpr ⟨k,hp⟩;have hv:=zb7 hn hpm;refine⟨rfl,?_⟩
   try simp? only[zcH,hv]
   refine tS (mF kh n) (λj y e hy he=> ?_) ?_
   ·obtain⟨w,hw,rfl⟩:=wW hy
    obtain⟨y1,y2,y3,rfl⟩:=ze4 he;have hf:=fC (kh:=kh) (n:=n) (p:=w);have d1:decide ((w.2.1:Int)<=(n:Int))=decide (w.2.1<=n):=decide_eq_decide.mpr Int.ofNat_le;have d2:decide ((n:Int)<=(w.2.2:Int))=decide (n<=w.2.2):=decide_eq_decide.mpr Int.ofNat_le;unfold vB at hy hf⊢
    try simp? only[iN]
    cases hb:(kh==w.1.1)with
    | false=>
     rw[hb]at hf
     try simp? only[true_and]
     exact CP.yes (e':= [_,_,_]) hy hf rfl
    | true=>
     rw[hb]at hf
     try simp? only[iN,d1,d2]
     cases hc:decide (w.2.1<=n)with
     | false=>
      rw[hc]at hf
      try simp? only[true_and]
      exact CP.yes (e':= [_,_,_]) hy hf rfl
     | true=>
      rw[hc]at hf
      try simp? only[d2]
      exact CP.yes (e':= [_,_,_]) hy hf rfl
   rw[fD];obtain⟨i1,i2⟩:=zaa (bs:=p.2.map λq=>kh==q.1.1&&(decide (q.2.1<=n)&&decide (n<=q.2.2)));have ic:(p.2.map λq=>kh==q.1.1&&(decide (q.2.1<=n)&&decide (n<=q.2.2))).any id=wH kh n p.2:=by unfold wH;rw[List.any_map];rfl
   have hin: ∀{Q:K3} {st:z4},uI false (.bl true) (.lst ((p.2.map λq=>kh==q.1.1&&(decide (q.2.1<=n)&&decide (n<=q.2.2))).map PV.bl)) st Q=((uD (.bl true)=true/\_)/\Q (.bl (vO (.bl true) _)) st):=λ{Q st} =>rfl
   try simp? only[hin,i1,i2,ic]
   have hfl:((L.take k).filter λp=>wH kh n p.2).length<=100:=Nat.le_trans (List.length_filter_le ..) (by rw[List.length_take];omega);have hts:(L.take (k+1)).filter (λp=>wH kh n p.2)=(L.take k).filter (λp=>wH kh n p.2)++if wH kh n p.2 then [p]else []:=by
    rw[sD hp,List.filter_append,List.filter_cons];rfl
   cases hc:wH kh n p.2 with
   | true=>
    rw[hc]at hts
    try simp? only[List.length_map]
    refine⟨by decide,by omega,_,rfl,?_⟩;rw[hts,if_pos rfl,List.map_append,List.map_append];rfl
   | false=>
    rw[hc]at hts
    try simp? only[true_and]
    refine⟨by decide,_,rfl,?_⟩;rw[hts];simp
  ·rintro env s ⟨v,rfl,rfl⟩
   rw[List.length_map,List.take_of_length_le (Nat.le_refl _)];refine⟨rfl,?_⟩
   try simp? only[true_and]
   exact q _ (.inr ⟨o,rfl⟩)
theorem zls {f:Addr}{fd:FuncData}(M:Mo K mg)(F:yC K "law" "law" rY f fd):zP P w K mg base zQ 23 f fd ["_law_script"] (zN K lH):=by
 obtain⟨zjv,zjo,iX,zcm,zeF⟩:=M.held_at;have zbT:zP P w K mg base zQ 4 zjv zjo ["program","H","n"] (zN K zba):=zlo M iX;obtain⟨ziV,zjh,zbF,zhP,zkx⟩:=M._law_program;have zhj:zP P w K mg base zQ 22 ziV zjh ["_law_script","_law_at","_law_kinds","_law_calm","_law_hands"] (zN K zgb):=zlh M zbF;obtain⟨ziY,zjk,zbH,zhR,zkz⟩:=M._law_way;have zhl:zP P w K mg base zQ 1 ziY zjk ["_law_program_here","_law_kx"] (zN K zbe):=zlk M zbH;obtain⟨ziQ,zjc,zbC,zhM,zku⟩:=M._law_due;have zhf:zP P w K mg base zQ 1 ziQ zjc ["_law_program_here","_law_ways","_law_kh","_law_n"] (zN K zfS):=zld M zbC;refine xV 0 F u7 (λxs st Q h=>by obtain⟨ns,rfl,_⟩:=h;rfl) ⟨_,λcdv A outer s H E hr=>have hr1:y4 1 _:=hr.mono (by decide);have hr4:y4 4 _:=hr.mono (by decide);have hr22:y4 22 _:=hr.mono (by decide);(zD (zW (i:=1) u7.nd rfl (Or.inl rfl) (zK zhj hr22 (by rfl) zkx zbF.kp zhP (z3 (qv 0) (z3 z8 (z3 (u6 (z3 zI (z3 zI z6))) (z3 mV (z3 z8 z6)))))))
   (zD (zW (i:=2) u7.nd rfl (Or.inl rfl) jU)
   (zD (vM PassesOwn.never rfl (vL (uG (zG (zO hr) (qv 1) z8 (λ_ _=>rfl)) (vP z8) uH)) (tM (n:=2) rfl (xE (yF (i:=3) u7.nd rfl (Or.inl rfl)) (xE (yF (i:=4) u7.nd rfl (Or.inl rfl)) uV))) (zM (vQ (zK zhl hr1 (by rfl) zkz zbH.kp zhR (z3 (qv 1) (z3 (qv 3) z6))) (sW hr (qv 2) (qv 3)))))
   (zfz (zW (i:=5) u7.nd rfl (Or.inl rfl) (tL z6)) (vM PassesOwn.never rfl (vL (zG (zO hr) (qv 1) z8 (λ_ _=>rfl))) (tM (n:=2) rfl (xE (yF (i:=6) u7.nd rfl (Or.inl rfl)) (xE (yF (i:=4) u7.nd rfl (Or.inl rfl)) uV))) (zM (vM PassesOwn.never rfl (rS (by rfl) M.range (z3 (zY yS (xO xU (by rfl) M.len PySem.boot_len (z3 (qv 4) z6)) z8) z6)) (yF (i:=7) u7.nd rfl (Or.inl rfl)) (zM (wO (wN PySem.F.plainAttrs_list PySem.F.slot_list_append PySem.F.type_list_append (by decide) uF (qv 5) (z3 (yO (z3 (qv 6) (z3 (qv 7) z6))) z6)))))))
   (zD (vM PassesOwn.never rfl (vL (yO (z3 (qv 5) (z3 (zfx (qv 5) (vP (jV jJ z8))) z6)))) (yF (i:=8) u7.nd rfl (Or.inl rfl)) (zM (vM PassesOwn.never rfl (vL (qv 8)) (tM (n:=2) rfl (xE (yF (i:=6) u7.nd rfl (Or.inl rfl)) (xE (yF (i:=7) u7.nd rfl (Or.inl rfl)) uV))) (zD (zW (i:=9) u7.nd rfl (Or.inl rfl) (zK zbT hr4 (by rfl) zeF iX.kp zcm (z3 (qv 1) (z3 (qv 6) (z3 (qv 7) z6)))))
   (zM (yV (PW.pt (mX (zmR (jX (xO zkR (by rfl) M.isinstance PyProof.Rows.boot_isinstance (z3 (qv 9) (z3 (zmJ (by rfl) M.tuple rF) z6))))) (jY (yE (zaq hr) (qv 9) (zK zhf hr1 (by rfl) zku zbC.kp zhM (z3 (qv 1) (z3 (qv 2) (z3 (qv 6) (z3 (qv 7) z6))))) (yB _))))) (zM (yN mV)) xF))))))
   (zD (vQ (zG (zO hr) (zG (zO hr) (qv 1) z8 (λ_ _=>rfl)) z8 (λ_ _=>rfl)) (tM (n:=2) rfl (xE (yF (i:=10) u7.nd rfl (Or.inl rfl)) (xE (yF (i:=4) u7.nd rfl (Or.inl rfl)) uV))))
   (zM (yN (rR (yY hr) (zK zbT hr4 (by rfl) zeF iX.kp zcm (z3 (qv 1) (z3 (qv 10) (z3 (xO xU (by rfl) M.len PySem.boot_len (z3 (qv 4) z6)) z6)))) (yO z6) (yB _)))))))))),λxs st Q h=> ?_⟩
 obtain⟨ns,rfl,rfl,hl,q⟩:=h;have ek:oT= .lst [.str "last",.str "sum"]:=rfl;refine zC ?_
 try simp? only[true_and]
 refine⟨ns,8,rfl,rfl,hl,by decide,by decide,λsh h0 hs O hG=> ?_⟩;obtain⟨en,rj,G⟩:=hG;have due:= @zi9 h0 hs en rj G O.hn;have nd:=O.hn;obtain⟨all,eall⟩: ∃all,h0::hs=all:=⟨_,rfl⟩;have h0m:h0∈all:=by rw[<- eall];exact List.mem_cons_self ..
 have big:(40000:Nat) < sizeLine:=by rw[sizeLine_eq];decide
 have h8:=O.hl;have hway: ∀{x:Str} {st:z4} {Q:K3},x∈hs.map (·.1)->(∀(W:List (Hd×Nat×Nat)),nK all en (x,W)->Q (.lst (W.map vB)) st)->zbe [w5 sh all,.str x] st Q:=λ{x st Q} hx hq=>⟨sh,h0,hs,en,rj,x,by rw[eall],O,G,hx,λW h f l w _ h1 h2 h3=>hq _ (by rw[<- eall];exact zix G O.hn w h1 h2 h3)⟩;have hat: ∀{h:Hd} {n:Nat} {st:z4} {Q:K3},h∈all->Q (pD all (yR en (h.2.take n))) st->zba [w5 sh all,.str h.1,.int (n:Int)] st Q:=λ{h n st Q} hh hq=>⟨sh,h0,hs,en,rj,h,n,by rw[eall],O,G,by rw[eall];exact hh,by rw[eall];exact hq⟩;have hroot:yR en (h0.2.take h0.2.length)= []:=by rw[List.take_length,(G.hb h0 (List.mem_cons_self ..)).1];exact G.root h0 hs rfl
 rw[eall]at due h8⊢
 have rl: ∀h∈all,h.2.length<=30:=by rw[<- eall];exact O.rl
 try simp? only[true_and]
 refine zC ?_
 try simp? only[true_and]
 refine sY (λenv s=> ∃(L:List Wy) (v3 v4:Option PV),env= [some (.lst (ns.map PV.int)),some (w5 sh all),some (.obj 0),v3,v4,none,none,none,none,none,none]/\s= [.dct (wJ L)]/\L.map (·.1)=hs.map (·.1)/\∀p∈L,nK all en p) (λN hN=> ?_) ?_
 ·unfold w5
  try simp? only[true_and]
  rw[show((1:Int))=((1:Nat):Int)from rfl,fB,<- List.map_drop,show all.drop 1=hs by rw[<- eall];rfl];refine wZ (λk env s=> ∃(L:List Wy) (v3 v4:Option PV),env= [some (.lst (ns.map PV.int)),some (w5 sh all),some (.obj 0),v3,v4,none,none,none,none,none,none]/\s= [.dct (wJ L)]/\L.map (·.1)=(hs.take k).map (·.1)/\∀p∈L,nK all en p) ⟨[],none,none,rfl,rfl,rfl,λp hp=>by simp at hp⟩ ?_ ?_
  ·rintro k y env s hy ⟨L,v3,v4,rfl,rfl,hL,hc⟩
   obtain⟨h,hh,rfl⟩:=wW hy;have hhm:h∈hs:=List.mem_iff_getElem?.mpr ⟨k,hh⟩;have hkl:=(List.getElem?_eq_some_iff.mp hh).1;have hLl:L.length<=8:=by
    have:=congrArg List.length hL;rw[List.length_map,List.length_map,List.length_take]at this;rw[<- eall,List.length_cons]at h8;omega
   have hnew:h.1∉L.map (·.1):=by
    rw[hL];intro z;rw[List.map_cons,List.nodup_cons]at nd;have n2:=nd.2;have hsp:hs=hs.take (k+1)++hs.drop (k+1):=(List.take_append_drop _ _).symm;rw[hsp,sD hh,List.map_append,List.map_append]at n2;exact(List.nodup_append.mp (List.nodup_append.mp n2).1).2.2 _ z _ (List.mem_singleton.mpr rfl) rfl
   unfold yJ yM uO
   try simp? only[true_and]
   refine hway (List.mem_map_of_mem hhm) λW hW=> ?_;have hput:=zoH (W:=W) hnew;have hwl:(wJ L).length<=8:=by unfold wJ;rw[List.length_map];exact hLl
   try simp? only[hput]
   refine⟨by omega,L++ [(h.1,W)],_,_,rfl,rfl,?_,λp hp=> ?_⟩
   ·rw[sD hh,List.map_append,List.map_append,hL];rfl
   ·rcases List.mem_append.mp hp with hp | hp
    ·exact hc p hp
    ·rw[List.mem_singleton.mp hp];exact hW
  ·rintro env s ⟨L,v3,v4,rfl,rfl,hL,hc⟩
   rw[List.length_map,List.take_of_length_le (Nat.le_refl _)]at hL
   try simp? only[true_and]
   exact hN _ _ ⟨L,v3,v4,rfl,rfl,hL,hc⟩
 rintro env s ⟨L,v3,v4,rfl,rfl,hL,hc⟩;have hLn:(L.map (·.1)).Nodup:=by rw[hL];rw[List.map_cons,List.nodup_cons]at nd;exact nd.2
 have hLl:L.length<=100:=by
  have:=congrArg List.length hL;rw[List.length_map,List.length_map]at this;rw[<- eall,List.length_cons]at h8;omega
 refine zC ?_;unfold zby;refine zC ?_;unfold w5
 try simp? only[true_and]
 refine wZ (λk env s=> ∃(sr:List (Hd×Nat)) (v4 v6 v7:Option PV),env= [some (.lst (ns.map PV.int)),some (.tup [.tup (sh.map yM),.tup (all.map yJ)]),some (.obj 0),v3,v4,some (.obj 1),v6,v7,none,none,none]/\s= [.dct (wJ L),.lst (sr.map vA)]/\(∀p∈sr,p.1∈all/\p.2<=p.1.2.length)/\sr.length<=31 * k) ⟨[],_,_,_,rfl,rfl,λp hp=>by simp at hp,Nat.zero_le _⟩ ?_ ?_
 ·rintro k y env s hy ⟨sr,v4,v6,v7,rfl,rfl,hsr,hsl⟩
  obtain⟨h,hh,rfl⟩:=wW hy;have hhm:h∈all:=List.mem_iff_getElem?.mpr ⟨k,hh⟩;have hkl:=(List.getElem?_eq_some_iff.mp hh).1;have hrl:=rl h hhm;unfold yJ yM uO
  try simp? only[List.length_map]
  refine⟨by omega,wZ (λj env s=> ∃(sr:List (Hd×Nat)) (v7:Option PV),env= [some (.lst (ns.map PV.int)),some (.tup [.tup (sh.map yM),.tup (all.map yJ)]),some (.obj 0),v3,some (.tup (h.2.map Rh.pv)),some (.obj 1),some (.str h.1),v7,none,none,none]/\s= [.dct (wJ L),.lst (sr.map vA)]/\(∀p∈sr,p.1∈all/\p.2<=p.1.2.length)/\sr.length<=31 * k+j) ⟨sr,v7,rfl,rfl,hsr,by omega⟩ ?_ ?_⟩
  ·rintro j y env s hy ⟨sr,v7,rfl,rfl,hsr,hsl⟩
   obtain⟨hj,rfl⟩:=tO hy;have hj':j<=h.2.length:=by omega
   try simp? only[List.length_map]
   refine⟨by omega,sr++ [(h,j)],_,rfl,?_,λp hp=> ?_,by rw[List.length_append,List.length_singleton];omega⟩
   ·rw[List.map_append,Int.zero_add];rfl
   ·rcases List.mem_append.mp hp with hp | hp
    ·exact hsr p hp
    ·rw[List.mem_singleton.mp hp];exact⟨hhm,hj'⟩
  ·rintro env s ⟨sr,v7,rfl,rfl,hsr,hsl⟩
   rw[uW]at hsl
   try simp? only[true_and]
   exact⟨sr,_,_,_,rfl,rfl,hsr,by omega⟩
 rintro env s ⟨sr,v4,v6,v7,rfl,rfl,hsr,hsl⟩
 try simp? only[true_and]
 refine⟨[.dct (wJ L)],sr.map vA,rfl,by simp,?_⟩;change uK _ _ _ [some (.lst (ns.map PV.int)),some (.tup [.tup (sh.map yM),.tup (all.map yJ)]),some (.obj 0),vZ 1 (.lst (sr.map vA)) v3,vZ 1 (.lst (sr.map vA)) v4,some (.lst (sr.map vA)),vZ 1 (.lst (sr.map vA)) v6,vZ 1 (.lst (sr.map vA)) v7,none,none,none] [.dct (wJ L)];generalize vZ 1 (.lst (sr.map vA)) v3=v3;generalize vZ 1 (.lst (sr.map vA)) v4=v4;generalize vZ 1 (.lst (sr.map vA)) v6=v6;generalize vZ 1 (.lst (sr.map vA)) v7=v7;refine sY (λenv s=> ∃(v4 v6 v7 v8 v9:Option PV),env= [some (.lst (ns.map PV.int)),some (.tup [.tup (sh.map yM),.tup (all.map yJ)]),some (.obj 0),v3,v4,some (.lst (sr.map vA)),v6,v7,v8,v9,none]/\lT L s) (λN hN=> ?_) ?_
 ·try simp? only[true_and]
  refine wZ (λk env s=> ∃(v6 v7 v8 v9:Option PV),env= [some (.lst (ns.map PV.int)),some (.tup [.tup (sh.map yM),.tup (all.map yJ)]),some (.obj 0),v3,v4,some (.lst (sr.map vA)),v6,v7,v8,v9,none]/\lT L s) ⟨_,_,_,_,rfl,.inl rfl⟩ ?_ ?_
  ·rintro k y env s hy ⟨v6,v7,v8,v9,rfl,hw⟩
   obtain⟨sr',hsr',rfl⟩: ∃sr':List (Hd×Nat),(∀p∈sr',p.1∈all/\p.2<=p.1.2.length)/\y= .lst (sr'.map vA):=by
    match k,hy with
    | 0,hy=>exact⟨sr,hsr,(Option.some.inj hy).symm⟩
    | 1,hy=>exact⟨sr.reverse,λp hp=>hsr p (List.mem_reverse.mp hp),by rw[List.map_reverse];exact(Option.some.inj hy).symm⟩
   try simp? only[true_and]
   refine wZ (λj env s=> ∃(v6 v7 v9:Option PV),env= [some (.lst (ns.map PV.int)),some (.tup [.tup (sh.map yM),.tup (all.map yJ)]),some (.obj 0),v3,v4,some (.lst (sr.map vA)),v6,v7,some (.lst (sr'.map vA)),v9,none]/\lT L s) ⟨_,_,_,rfl,hw⟩ ?_ ?_
   ·rintro j y env s hy ⟨v6,v7,v9,rfl,hw⟩
    obtain⟨p,hp,rfl⟩:=wW hy;obtain⟨hp1,hp2⟩:=hsr' p (List.mem_iff_getElem?.mpr ⟨j,hp⟩);obtain⟨X,eX⟩: ∃X:List Str,pD all (yR en (p.1.2.take p.2))= .tup (X.map PV.str):=⟨_,rfl⟩;have hdu:=due hL hc hp1 hp2;have hX:=zcE X;have heq:zX (.tup (X.map PV.str)) (.tup (X.map PV.str))=true:=kY _ (by simp only[zE];omega);unfold vA
    try simp? only[true_and]
    refine zC ?_
    try simp? only[true_and]
    refine hat hp1 ?_;rw[eX]
    try simp? only[true_and]
    refine⟨_,L,p.1.1,p.2,rfl,hw,hLn,hLl,λs' hs'=> ?_⟩;rw[hdu,eX]
    try simp? only[heq]
    exact⟨⟨by omega,by omega⟩,_,_,_,rfl,hs'⟩
   ·rintro env s ⟨v6,v7,v9,rfl,hw⟩
    try simp? only[true_and]
    exact⟨_,_,_,_,rfl,hw⟩
  ·rintro env s ⟨v6,v7,v8,v9,rfl,hw⟩
   try simp? only[true_and]
   exact hN _ _ ⟨_,_,_,_,_,rfl,hw⟩
 rintro env s ⟨v4,v6,v7,v8,v9,rfl,hw⟩;have ha0:atI (all.map yJ) 0=some (yJ h0):=by rw[<- eall];exact wY (xs:=(h0::hs).map yJ) (j:=0) rfl
 refine zC ?_
 try simp? only[ha0]
 unfold yJ yM uO
 try simp? only[List.length_map]
 refine hat h0m ?_;rw[hroot];have he:pD all []= .tup []:=by unfold pD;congr 1;simp
 rw[he]
 try simp? only[true_and]
 exact q _
end
theorem kP {us:List Value}(h:us.length=1): ∃x0,us= [x0]:=by
 rcases us with _ | ⟨x0,_ | ⟨y,us⟩⟩ <;> first | exact⟨x0,rfl⟩ | (simp at h;done)
theorem sL {us:List Value}(h:us.length=2): ∃x0 x1,us= [x0,x1]:=by
 rcases us with _ | ⟨x0,_ | ⟨x1,_ | ⟨y,us⟩⟩⟩ <;> first | exact⟨x0,x1,rfl⟩ | (simp at h;done)
theorem mB {us:List Value}(h:us.length=3): ∃x0 x1 x2,us= [x0,x1,x2]:=by
 rcases us with _ | ⟨x0,_ | ⟨x1,_ | ⟨x2,_ | ⟨y,us⟩⟩⟩⟩ <;> first | exact⟨x0,x1,x2,rfl⟩ | (simp at h;done)
theorem mC {us:List Value}(h:us.length=4): ∃x0 x1 x2 x3,us= [x0,x1,x2,x3]:=by
 rcases us with _ | ⟨x0,_ | ⟨x1,_ | ⟨x2,_ | ⟨x3,_ | ⟨y,us⟩⟩⟩⟩⟩ <;> first | exact⟨x0,x1,x2,x3,rfl⟩ | (simp at h;done)
theorem zhX {us:List Value}(h:us.length=5): ∃x0 x1 x2 x3 x4,us= [x0,x1,x2,x3,x4]:=by
 rcases us with _ | ⟨x0,_ | ⟨x1,_ | ⟨x2,_ | ⟨x3,_ | ⟨x4,_ | ⟨y,us⟩⟩⟩⟩⟩⟩ <;> first | exact⟨x0,x1,x2,x3,x4,rfl⟩ | (simp at h;done)
theorem all_mk {l:PySem.W.OpenLaw}{w:World}{K:Frag}{h:Heap}{mg:Str->Option Value}{fa f1 f2 f3 f4 f5 f6 f7 f8 f9 f10 f11 f12 f13 f14 f15 f16 f17 f18 f19 f20 f21 f22 f23 f24 f25 f26:Addr}(X:K.In h)(G:h.Ns mainGlobals mg)(hfa:mg "law" =some (.ref fa))
  {od1 an1 od2 an2 od3 an3 od4 an4 od5 an5 od6 an6 od7 an7 od8 an8 od9 an9 od10 an10 od11 an11 od12 an12 od13 an13 od14 an14 od15 an15 od16 an16 od17 an17 od18 an18 od19 an19 od20 an20 od21 an21 od22 an22 od23 an23 od24 an24 od25 an25 od26 an26:Option Addr} {sl1 sl2 sl3 sl4 sl5 sl6 sl7 sl8 sl9 sl10 sl11 sl12 sl13 sl14 sl15 sl16 sl17 sl18 sl19 sl20 sl21 sl22 sl23 sl24 sl25 sl26:Array (Option Value)} {oc1 kV1 dc1 pm1 cd1 ct1 oc2 kV2 dc2 pm2 cd2 ct2 oc3 kV3 dc3 pm3 cd3 ct3 oc4 kV4 dc4 pm4 cd4 ct4 oc5 kV5 dc5 pm5 cd5 ct5 oc6 kV6 dc6 pm6 cd6 ct6 oc7 kV7 dc7 pm7 cd7 ct7 oc8 kV8 dc8 pm8 cd8 ct8 oc9 kV9 dc9 pm9 cd9 ct9 oc10 kV10 dc10 pm10 cd10 ct10 oc11 kV11 dc11 pm11 cd11 ct11 oc12 kV12 dc12 pm12 cd12 ct12 oc13 kV13 dc13 pm13 cd13 ct13 oc14 kV14 dc14 pm14 cd14 ct14 oc15 kV15 dc15 pm15 cd15 ct15 oc16 kV16 dc16 pm16 cd16 ct16 oc17 kV17 dc17 pm17 cd17 ct17 oc18 kV18 dc18 pm18 cd18 ct18 oc19 kV19 dc19 pm19 cd19 ct19 oc20 kV20 dc20 pm20 cd20 ct20 oc21 kV21 dc21 pm21 cd21 ct21 oc22 kV22 dc22 pm22 cd22 ct22 oc23 kV23 dc23 pm23 cd23 ct23 oc24 kV24 dc24 pm24 cd24 ct24 oc25 kV25 dc25 pm25 cd25 ct25 oc26 kV26 dc26 pm26 cd26 ct26:Value}
  (a1:nsIn K mainGlobals "first_called" =some (some (.ref f1))) (l1:K.lookup f1=some ⟨oc1,od1,.func (fnOf "first_called" "first_called" (xC qT) (yX qT) (zS qT) .none kV1 dc1 pm1 an1 cd1 ct1),sl1⟩) (c1:codeIn K cd1 "first_called" =true) (k1:keepIn K (.ref f1)=true)
  (a2:nsIn K mainGlobals "hand_named" =some (some (.ref f2))) (l2:K.lookup f2=some ⟨oc2,od2,.func (fnOf "hand_named" "hand_named" (xC pZ) (yX pZ) (zS pZ) .none kV2 dc2 pm2 an2 cd2 ct2),sl2⟩) (c2:codeIn K cd2 "hand_named" =true) (k2:keepIn K (.ref f2)=true)
  (a3:nsIn K mainGlobals "named_by_hands" =some (some (.ref f3))) (l3:K.lookup f3=some ⟨oc3,od3,.func (fnOf "named_by_hands" "named_by_hands" (xC qX) (yX qX) (zS qX) .none kV3 dc3 pm3 an3 cd3 ct3),sl3⟩) (c3:codeIn K cd3 "named_by_hands" =true) (k3:keepIn K (.ref f3)=true)
  (a4:nsIn K mainGlobals "in_split_order" =some (some (.ref f4))) (l4:K.lookup f4=some ⟨oc4,od4,.func (fnOf "in_split_order" "in_split_order" (xC qW) (yX qW) (zS qW) .none kV4 dc4 pm4 an4 cd4 ct4),sl4⟩) (c4:codeIn K cd4 "in_split_order" =true) (k4:keepIn K (.ref f4)=true)
  (a5:nsIn K mainGlobals "held_at" =some (some (.ref f5))) (l5:K.lookup f5=some ⟨oc5,od5,.func (fnOf "held_at" "held_at" (xC o0) (yX o0) (zS o0) .none kV5 dc5 pm5 an5 cd5 ct5),sl5⟩) (c5:codeIn K cd5 "held_at" =true) (k5:keepIn K (.ref f5)=true)
  (a6:nsIn K mainGlobals "held_at_ends" =some (some (.ref f6))) (l6:K.lookup f6=some ⟨oc6,od6,.func (fnOf "held_at_ends" "held_at_ends" (xC o3) (yX o3) (zS o3) .none kV6 dc6 pm6 an6 cd6 ct6),sl6⟩) (c6:codeIn K cd6 "held_at_ends" =true) (k6:keepIn K (.ref f6)=true)
  (a7:nsIn K mainGlobals "held_behind" =some (some (.ref f7))) (l7:K.lookup f7=some ⟨oc7,od7,.func (fnOf "held_behind" "held_behind" (xC o4) (yX o4) (zS o4) .none kV7 dc7 pm7 an7 cd7 ct7),sl7⟩) (c7:codeIn K cd7 "held_behind" =true) (k7:keepIn K (.ref f7)=true)
  (a8:nsIn K mainGlobals "in_order_of_hands" =some (some (.ref f8))) (l8:K.lookup f8=some ⟨oc8,od8,.func (fnOf "in_order_of_hands" "in_order_of_hands" (xC qV) (yX qV) (zS qV) .none kV8 dc8 pm8 an8 cd8 ct8),sl8⟩) (c8:codeIn K cd8 "in_order_of_hands" =true) (k8:keepIn K (.ref f8)=true)
  (a9:nsIn K mainGlobals "_law_box" =some (some (.ref f9))) (l9:K.lookup f9=some ⟨oc9,od9,.func (fnOf "_law_box" "_law_box" (xC pK) (yX pK) (zS pK) .none kV9 dc9 pm9 an9 cd9 ct9),sl9⟩) (c9:codeIn K cd9 "_law_box" =true) (k9:keepIn K (.ref f9)=true)
  (a10:nsIn K mainGlobals "_law_take" =some (some (.ref f10))) (l10:K.lookup f10=some ⟨oc10,od10,.func (fnOf "_law_take" "_law_take" (xC pS) (yX pS) (zS pS) .none kV10 dc10 pm10 an10 cd10 ct10),sl10⟩) (c10:codeIn K cd10 "_law_take" =true) (k10:keepIn K (.ref f10)=true)
  (a11:nsIn K mainGlobals "_law_words" =some (some (.ref f11))) (l11:K.lookup f11=some ⟨oc11,od11,.func (fnOf "_law_words" "_law_words" (xC qS) (yX qS) (zS qS) .none kV11 dc11 pm11 an11 cd11 ct11),sl11⟩) (c11:codeIn K cd11 "_law_words" =true) (k11:keepIn K (.ref f11)=true)
  (a12:nsIn K mainGlobals "_law_number" =some (some (.ref f12))) (l12:K.lookup f12=some ⟨oc12,od12,.func (fnOf "_law_number" "_law_number" (xC pQ) (yX pQ) (zS pQ) .none kV12 dc12 pm12 an12 cd12 ct12),sl12⟩) (c12:codeIn K cd12 "_law_number" =true) (k12:keepIn K (.ref f12)=true)
  (a13:nsIn K mainGlobals "_law_term" =some (some (.ref f13))) (l13:K.lookup f13=some ⟨oc13,od13,.func (fnOf "_law_term" "_law_term" (xC pT) (yX pT) (zS pT) .none kV13 dc13 pm13 an13 cd13 ct13),sl13⟩) (c13:codeIn K cd13 "_law_term" =true) (k13:keepIn K (.ref f13)=true)
  (a14:nsIn K mainGlobals "_law_any_term" =some (some (.ref f14))) (l14:K.lookup f14=some ⟨oc14,od14,.func (fnOf "_law_any_term" "_law_any_term" (xC pJ) (yX pJ) (zS pJ) .none kV14 dc14 pm14 an14 cd14 ct14),sl14⟩) (c14:codeIn K cd14 "_law_any_term" =true) (k14:keepIn K (.ref f14)=true)
  (a15:nsIn K mainGlobals "_law_manner" =some (some (.ref f15))) (l15:K.lookup f15=some ⟨oc15,od15,.func (fnOf "_law_manner" "_law_manner" (xC pP) (yX pP) (zS pP) .none kV15 dc15 pm15 an15 cd15 ct15),sl15⟩) (c15:codeIn K cd15 "_law_manner" =true) (k15:keepIn K (.ref f15)=true)
  (a16:nsIn K mainGlobals "_law_begin" =some (some (.ref f16))) (l16:K.lookup f16=some ⟨oc16,od16,.func (fnOf "_law_begin" "_law_begin" (xC qQ) (yX qQ) (zS qQ) .none kV16 dc16 pm16 an16 cd16 ct16),sl16⟩) (c16:codeIn K cd16 "_law_begin" =true) (k16:keepIn K (.ref f16)=true)
  (a17:nsIn K mainGlobals "_law_leaves" =some (some (.ref f17))) (l17:K.lookup f17=some ⟨oc17,od17,.func (fnOf "_law_leaves" "_law_leaves" (xC pO) (yX pO) (zS pO) .none kV17 dc17 pm17 an17 cd17 ct17),sl17⟩) (c17:codeIn K cd17 "_law_leaves" =true) (k17:keepIn K (.ref f17)=true)
  (a18:nsIn K mainGlobals "_law_deed" =some (some (.ref f18))) (l18:K.lookup f18=some ⟨oc18,od18,.func (fnOf "_law_deed" "_law_deed" (xC pL) (yX pL) (zS pL) .none kV18 dc18 pm18 an18 cd18 ct18),sl18⟩) (c18:codeIn K cd18 "_law_deed" =true) (k18:keepIn K (.ref f18)=true)
  (a19:nsIn K mainGlobals "_law_row" =some (some (.ref f19))) (l19:K.lookup f19=some ⟨oc19,od19,.func (fnOf "_law_row" "_law_row" (xC pR) (yX pR) (zS pR) .none kV19 dc19 pm19 an19 cd19 ct19),sl19⟩) (c19:codeIn K cd19 "_law_row" =true) (k19:keepIn K (.ref f19)=true)
  (a20:nsIn K mainGlobals "_law_join" =some (some (.ref f20))) (l20:K.lookup f20=some ⟨oc20,od20,.func (fnOf "_law_join" "_law_join" (xC pN) (yX pN) (zS pN) .none kV20 dc20 pm20 an20 cd20 ct20),sl20⟩) (c20:codeIn K cd20 "_law_join" =true) (k20:keepIn K (.ref f20)=true)
  (a21:nsIn K mainGlobals "_law_hand" =some (some (.ref f21))) (l21:K.lookup f21=some ⟨oc21,od21,.func (fnOf "_law_hand" "_law_hand" (xC pM) (yX pM) (zS pM) .none kV21 dc21 pm21 an21 cd21 ct21),sl21⟩) (c21:codeIn K cd21 "_law_hand" =true) (k21:keepIn K (.ref f21)=true)
  (a22:nsIn K mainGlobals "_law_three_words" =some (some (.ref f22))) (l22:K.lookup f22=some ⟨oc22,od22,.func (fnOf "_law_three_words" "_law_three_words" (xC pU) (yX pU) (zS pU) .none kV22 dc22 pm22 an22 cd22 ct22),sl22⟩) (c22:codeIn K cd22 "_law_three_words" =true) (k22:keepIn K (.ref f22)=true)
  (a23:nsIn K mainGlobals "_law_program" =some (some (.ref f23))) (l23:K.lookup f23=some ⟨oc23,od23,.func (fnOf "_law_program" "_law_program" (xC rW) (yX rW) (zS rW) .none kV23 dc23 pm23 an23 cd23 ct23),sl23⟩) (c23:codeIn K cd23 "_law_program" =true) (k23:keepIn K (.ref f23)=true)
  (a24:nsIn K mainGlobals "_law_way" =some (some (.ref f24))) (l24:K.lookup f24=some ⟨oc24,od24,.func (fnOf "_law_way" "_law_way" (xC sX) (yX sX) (zS sX) .none kV24 dc24 pm24 an24 cd24 ct24),sl24⟩) (c24:codeIn K cd24 "_law_way" =true) (k24:keepIn K (.ref f24)=true)
  (a25:nsIn K mainGlobals "_law_due" =some (some (.ref f25))) (l25:K.lookup f25=some ⟨oc25,od25,.func (fnOf "_law_due" "_law_due" (xC qR) (yX qR) (zS qR) .none kV25 dc25 pm25 an25 cd25 ct25),sl25⟩) (c25:codeIn K cd25 "_law_due" =true) (k25:keepIn K (.ref f25)=true)
  (a26:nsIn K mainGlobals "law" =some (some (.ref f26))) (l26:K.lookup f26=some ⟨oc26,od26,.func (fnOf "law" "law" (xC rY) (yX rY) (zS rY) .none kV26 dc26 pm26 an26 cd26 ct26),sl26⟩) (c26:codeIn K cd26 "law" =true) (k26:keepIn K (.ref f26)=true)
  (zn0:nsIn K mainGlobals "len" =some none)
  (zn1:nsIn K mainGlobals "int" =some none)
  (zn2:nsIn K mainGlobals "range" =some none)
  (zn3:nsIn K mainGlobals "tuple" =some none)
  (zn4:nsIn K mainGlobals "isinstance" =some none)
  (zn5:nsIn K mainGlobals "bool" =some none)
  (zn6:nsIn K mainGlobals "str" =some none)
  (zn7:nsIn K mainGlobals "dict" =some none)
  (zn8:nsIn K mainGlobals "list" =some none)
  (zn9:nsIn K mainGlobals "sorted" =some none)
  (zn10:nsIn K mainGlobals "min" =some none)
  (zn11:nsIn K mainGlobals "max" =some none)
  (zn12:nsIn K mainGlobals "all" =some none)
  (zn13:nsIn K mainGlobals "set" =some none)
  (zn14:nsIn K mainGlobals "enumerate" =some none)
  (zn15:nsIn K mainGlobals "reversed" =some none):
  ∃fd:FuncData,(∀(s:Shared) (v:Value),BindsTo s fd ⟨[v],[]⟩ [("_law_script",v)])/\∀base:Heap,K.In base->base.Ns mainGlobals mg->zP l.prog w K mg base zQ 23 fa fd ["_law_script"] (zN K lH):=by
 have e:=hfa.symm.trans (mg_of X G a26);cases e;have F1:=xS (st:=qT) l1 c1 k1;have F2:=xS (st:=pZ) l2 c2 k2;have F3:=xS (st:=qX) l3 c3 k3;have F4:=xS (st:=qW) l4 c4 k4;have F5:=xS (st:=o0) l5 c5 k5;have F6:=xS (st:=o3) l6 c6 k6;have F7:=xS (st:=o4) l7 c7 k7;have F8:=xS (st:=qV) l8 c8 k8;have F9:=xS (st:=pK) l9 c9 k9;have F10:=xS (st:=pS) l10 c10 k10;have F11:=xS (st:=qS) l11 c11 k11;have F12:=xS (st:=pQ) l12 c12 k12;have F13:=xS (st:=pT) l13 c13 k13;have F14:=xS (st:=pJ) l14 c14 k14;have F15:=xS (st:=pP) l15 c15 k15;have F16:=xS (st:=qQ) l16 c16 k16;have F17:=xS (st:=pO) l17 c17 k17;have F18:=xS (st:=pL) l18 c18 k18;have F19:=xS (st:=pR) l19 c19 k19;have F20:=xS (st:=pN) l20 c20 k20;have F21:=xS (st:=pM) l21 c21 k21;have F22:=xS (st:=pU) l22 c22 k22;have F23:=xS (st:=rW) l23 c23 k23;have F24:=xS (st:=sX) l24 c24 k24;have F25:=xS (st:=qR) l25 c25 k25;have F26:=xS (st:=rY) l26 c26 k26;have b1:=F1.binds (ps:= ["tuples","word"]) λ_ _ _ _ _ _ us hl=>by obtain⟨x0,x1,rfl⟩:=sL hl;rfl
 have m1:=mg_of X G a1;have b2:=F2.binds (ps:= ["program","H"]) λ_ _ _ _ _ _ us hl=>by obtain⟨x0,x1,rfl⟩:=sL hl;rfl
 have m2:=mg_of X G a2;have b3:=F3.binds (ps:= ["program","kind"]) λ_ _ _ _ _ _ us hl=>by obtain⟨x0,x1,rfl⟩:=sL hl;rfl
 have m3:=mg_of X G a3;have b4:=F4.binds (ps:= ["program"]) λ_ _ _ _ _ _ us hl=>by obtain⟨x0,rfl⟩:=kP hl;rfl
 have m4:=mg_of X G a4;have b5:=F5.binds (ps:= ["program","H","n"]) λ_ _ _ _ _ _ us hl=>by obtain⟨x0,x1,x2,rfl⟩:=mB hl;rfl
 have m5:=mg_of X G a5;have b6:=F6.binds (ps:= ["program"]) λ_ _ _ _ _ _ us hl=>by obtain⟨x0,rfl⟩:=kP hl;rfl
 have m6:=mg_of X G a6;have b7:=F7.binds (ps:= ["rows","ends"]) λ_ _ _ _ _ _ us hl=>by obtain⟨x0,x1,rfl⟩:=sL hl;rfl
 have m7:=mg_of X G a7;have b8:=F8.binds (ps:= ["program","held"]) λ_ _ _ _ _ _ us hl=>by obtain⟨x0,x1,rfl⟩:=sL hl;rfl
 have m8:=mg_of X G a8;have b9:=F9.binds (ps:= ["_law_script","_law_k"]) λ_ _ _ _ _ _ us hl=>by obtain⟨x0,x1,rfl⟩:=sL hl;rfl
 have m9:=mg_of X G a9;have b10:=F10.binds (ps:= ["_law_box_here","_law_many"]) λ_ _ _ _ _ _ us hl=>by obtain⟨x0,x1,rfl⟩:=sL hl;rfl
 have m10:=mg_of X G a10;have b11:=F11.binds (ps:= ["_law_box_here","_law_many"]) λ_ _ _ _ _ _ us hl=>by obtain⟨x0,x1,rfl⟩:=sL hl;rfl
 have m11:=mg_of X G a11;have b12:=F12.binds (ps:= ["_law_box_here"]) λ_ _ _ _ _ _ us hl=>by obtain⟨x0,rfl⟩:=kP hl;rfl
 have m12:=mg_of X G a12;have b13:=F13.binds (ps:= ["_law_box_here","_law_leaves_here","_law_room","_law_deep"]) λ_ _ _ _ _ _ us hl=>by obtain⟨x0,x1,x2,x3,rfl⟩:=mC hl;rfl
 have m13:=mg_of X G a13;have b14:=F14.binds (ps:= ["_law_box_here","_law_leaves_here"]) λ_ _ _ _ _ _ us hl=>by obtain⟨x0,x1,rfl⟩:=sL hl;rfl
 have m14:=mg_of X G a14;have b15:=F15.binds (ps:= ["_law_box_here","_law_kinds","_law_calm"]) λ_ _ _ _ _ _ us hl=>by obtain⟨x0,x1,x2,rfl⟩:=mB hl;rfl
 have m15:=mg_of X G a15;have b16:=F16.binds (ps:= ["_law_box_here","_law_manner_here","_law_things"]) λ_ _ _ _ _ _ us hl=>by obtain⟨x0,x1,x2,rfl⟩:=mB hl;rfl
 have m16:=mg_of X G a16;have b17:=F17.binds (ps:= ["_law_box_here","_law_shelves","_law_things"]) λ_ _ _ _ _ _ us hl=>by obtain⟨x0,x1,x2,rfl⟩:=mB hl;rfl
 have m17:=mg_of X G a17;have b18:=F18.binds (ps:= ["_law_box_here","_law_shelf","_law_leaves_here","_law_things"]) λ_ _ _ _ _ _ us hl=>by obtain⟨x0,x1,x2,x3,rfl⟩:=mC hl;rfl
 have m18:=mg_of X G a18;have b19:=F19.binds (ps:= ["_law_box_here","_law_uses","_law_things"]) λ_ _ _ _ _ _ us hl=>by obtain⟨x0,x1,x2,rfl⟩:=mB hl;rfl
 have m19:=mg_of X G a19;have b20:=F20.binds (ps:= ["_law_box_here","_law_plan","_law_rows","_law_held"]) λ_ _ _ _ _ _ us hl=>by obtain⟨x0,x1,x2,x3,rfl⟩:=mC hl;rfl
 have m20:=mg_of X G a20;have b21:=F21.binds (ps:= ["_law_script","_law_at","_law_plan","_law_number_here"]) λ_ _ _ _ _ _ us hl=>by obtain⟨x0,x1,x2,x3,rfl⟩:=mC hl;rfl
 have m21:=mg_of X G a21;have b22:=F22.binds (ps:= ["_law_box_here"]) λ_ _ _ _ _ _ us hl=>by obtain⟨x0,rfl⟩:=kP hl;rfl
 have m22:=mg_of X G a22;have b23:=F23.binds (ps:= ["_law_script","_law_at","_law_kinds","_law_calm","_law_hands"]) λ_ _ _ _ _ _ us hl=>by obtain⟨x0,x1,x2,x3,x4,rfl⟩:=zhX hl;rfl
 have m23:=mg_of X G a23;have b24:=F24.binds (ps:= ["_law_program_here","_law_kx"]) λ_ _ _ _ _ _ us hl=>by obtain⟨x0,x1,rfl⟩:=sL hl;rfl
 have m24:=mg_of X G a24;have b25:=F25.binds (ps:= ["_law_program_here","_law_ways","_law_kh","_law_n"]) λ_ _ _ _ _ _ us hl=>by obtain⟨x0,x1,x2,x3,rfl⟩:=mC hl;rfl
 have m25:=mg_of X G a25;have M:Mo K mg:=⟨mg_none_of X G zn0,mg_none_of X G zn1,mg_none_of X G zn2,mg_none_of X G zn3,mg_none_of X G zn4,mg_none_of X G zn5,mg_none_of X G zn6,mg_none_of X G zn7,mg_none_of X G zn8,mg_none_of X G zn9,mg_none_of X G zn10,mg_none_of X G zn11,mg_none_of X G zn12,mg_none_of X G zn13,mg_none_of X G zn14,mg_none_of X G zn15,⟨_,_,F1,b1,m1⟩,⟨_,_,F2,b2,m2⟩,⟨_,_,F3,b3,m3⟩,⟨_,_,F4,b4,m4⟩,⟨_,_,F5,b5,m5⟩,⟨_,_,F6,b6,m6⟩,⟨_,_,F7,b7,m7⟩,⟨_,_,F8,b8,m8⟩,⟨_,_,F9,b9,m9⟩,⟨_,_,F10,b10,m10⟩,⟨_,_,F11,b11,m11⟩,⟨_,_,F12,b12,m12⟩,⟨_,_,F13,b13,m13⟩,⟨_,_,F14,b14,m14⟩,⟨_,_,F15,b15,m15⟩,⟨_,_,F16,b16,m16⟩,⟨_,_,F17,b17,m17⟩,⟨_,_,F18,b18,m18⟩,⟨_,_,F19,b19,m19⟩,⟨_,_,F20,b20,m20⟩,⟨_,_,F21,b21,m21⟩,⟨_,_,F22,b22,m22⟩,⟨_,_,F23,b23,m23⟩,⟨_,_,F24,b24,m24⟩,⟨_,_,F25,b25,m25⟩⟩;exact⟨fnOf "law" "law" (xC rY) (yX rY) (zS rY) .none kV26 dc26 pm26 an26 cd26 ct26,λs v=> .of_eq rfl,λbase _ _=>zls M F26⟩
theorem zkk {K:Frag}{H:Hp}{a:Addr}{ns:List Int}(hl:ns.length<=63)(hS:yW K H a (ns.map V.int)){E:XK} :zN K lH [.ref a] H (λv _=>v= .bl true) E:=by
 refine⟨[],[],[.lst (ns.map PV.int)],λr _=>r= .bl true,⟨by simp,rfl,λi a o h=>by cases h⟩,.cons (.val (.lst (hS.imp (λh=>⟨h,by simp⟩) id) ?_ (zen ns))) .nil,⟨ns,rfl,rfl,hl,λ_=>rfl⟩,λA' H' st' r v g s e q=> ?_⟩
 ·rw[List.length_map];exact Nat.le_trans hl (by decide)
 ·subst q;exact zcr e
theorem walk {l:PySem.W.OpenLaw}{q:Program}{loose:List Str}{XP:(Str->Option Value)->Heap->Prop}{YP:World->Heap->Prop}{d:DefRec}{K:Params->Frag}(hn:l.most=some 63)(hdf:d.params.defaults= [])
  (hY: ∀(w:World) (h:Heap),YP w h->(K w.params).In h)
  (F: ∀(w:World) (mg:Str->Option Value) (fa:Addr) (h:Heap),(K w.params).In h->h.Ns mainGlobals mg->mg d.name=some (.ref fa)->
   ∃fd:FuncData,(∀(s:Shared) (u:Value),BindsTo s fd ⟨[u],[]⟩ [("_law_script",u)])/\∀base:Heap,(K w.params).In base->base.Ns mainGlobals mg->zP l.prog w (K w.params) mg base zQ 23 fa fd ["_law_script"] (zN (K w.params) lH)):
  PySem.W.WalkO q loose XP YP l.row.toRowW d [] (λf vs=>PySem.call f vs):=
 L2.walk_of (n:=63) (k:=23) (x:= "_law_script") (CX:=λ_=>zQ) (sp:=λw=>zN (K w.params) lH) hn (by decide) hdf ⟨rfl,by decide,by decide⟩ hY F (λ_ _ a ns hl _ hS=>zkk hl hS) λ_ _ _ _ _ z=>z
end N19
set_option maxHeartbeats 0
namespace Hd
noncomputable section
open PySem PySem.W L2
abbrev pg:Program:=PySem.Challenge.pw_copiedhouse_k19_what_a_hand_holds
def tp (i:Nat):Stmt:=pg.main.body.getD i (.Pass ⟨0,0,0,0⟩)
def tpC (i j:Nat):Stmt:=zjI (tp i) j
def en (P:Params)(x:Str)(t:Nat)(v:Value):DictEntry:=⟨PyData.keyHash P x,.str x t,v⟩
def tu (l:List Value):Obj:=⟨.type "tuple",none,.seq l.toArray 0,#[]⟩
def fl (l:List Value):Obj:=⟨.none,none,.fields l.toArray,#[]⟩
def co (l:List Value):Obj:=⟨.type "code",none,.fields l.toArray,#[]⟩
def fn (n q:Str)(s:Stmt)(g:Nat)(cl:List (Str×Addr))(d k dc pm:Value)(an:Option Addr)(cd ct:Value)(b:Nat):FuncData:= {name:=n,qualname:=q,params:=xC s,body:= .stmts (yX s),scope:=zS s,globals:=g,closure:=cl,defaults:=d,kwdefaults:=k,doc:=dc,pyModule:=pm,annotations:=an,code:=cd,closureTuple:=ct,builtins:=b}
def fu (f:FuncData):Obj:=⟨.type "function",none,.func f,#[]⟩
def fp (f:FuncData):Obj:=⟨.none,none,.func f,#[]⟩
def li:Life:= {}
abbrev an:Option Value:=some (.ref 6)
def ev:Env:= {scope:=pg.main.scope,locals:=mainNs,globals:=mainNs,cells:= [],code:= .ref 13,frame:=some 14}
abbrev cE:Code:= .body (behindTheImports pg) ev
abbrev B:List Frame:= [topFrame ⟨0,0,0,0⟩]
abbrev gs:Array GenState:=Array.mk []
def f3 (P:Params):Obj:=⟨.type "dict",none,.dict #[en P "__name__" 165 (.str "law_copiedhouse_k19_what_a_hand_holds" 298),en P "__doc__" 166 (.none),en P "__package__" 167 (.none),en P "__loader__" 168 (.builtin "__main__.__loader__#opaque"),en P "__spec__" 169 (.none),en P "__annotations__" 170 (.ref 6),en P "__builtins__" 171 (.ref 4),en P "__file__" 173 (.str "/claim/cut.py" 172),en P "__cached__" 174 (.none),en P "HouseError" 206 (.ref 24),en P "NotHeld" 231 (.ref 44),en P "first_called" 239 (.ref 51),en P "hand_named" 247 (.ref 58),en P "named_by_hands" 253 (.ref 63),en P "in_split_order" 259 (.ref 68),en P "held_at" 271 (.ref 75),en P "held_at_ends" 281 (.ref 82),en P "held_behind" 291 (.ref 89),en P "in_order_of_hands" 297 (.ref 94),en P "_law_box" 309 (.ref 101),en P "_law_take" 319 (.ref 108),en P "_law_words" 325 (.ref 113),en P "_law_number" 333 (.ref 120),en P "_law_term" 348 (.ref 127),en P "_law_any_term" 357 (.ref 134),en P "_law_manner" 369 (.ref 141),en P "_law_begin" 375 (.ref 146),en P "_law_leaves" 388 (.ref 153),en P "_law_deed" 403 (.ref 160),en P "_law_row" 416 (.ref 167),en P "_law_join" 427 (.ref 174),en P "_law_hand" 444 (.ref 181),en P "_law_three_words" 457 (.ref 188),en P "_law_program" 463 (.ref 193),en P "_law_way" 469 (.ref 198),en P "_law_due" 475 (.ref 203),en P "law" 492 (.ref 210)] 37,#[]⟩
def f11 (P:Params):Obj:=tu []
def f12 (P:Params):Obj:=fl [.int 2 0,.int 0 0,.ref 20,.int 4 0,.int 0 0,.ref 33,.int 10 0,.int 0 0,.ref 50,.int 12 0,.int 0 0,.ref 57,.int 14 0,.int 0 0,.ref 62,.int 19 0,.int 0 0,.ref 67,.int 29 0,.int 0 0,.ref 74,.int 32 0,.int 0 0,.ref 81,.int 38 0,.int 0 0,.ref 88,.int 49 0,.int 0 0,.ref 93,.int 52 0,.int 0 0,.ref 100,.int 60 0,.int 0 0,.ref 107,.int 68 0,.int 0 0,.ref 112,.int 85 0,.int 0 0,.ref 119,.int 92 0,.int 0 0,.ref 126,.int 106 0,.int 0 0,.ref 133,.int 109 0,.int 0 0,.ref 140,.int 118 0,.int 0 0,.ref 145,.int 132 0,.int 0 0,.ref 152,.int 140 0,.int 0 0,.ref 159,.int 155 0,.int 0 0,.ref 166,.int 164 0,.int 0 0,.ref 173,.int 168 0,.int 0 0,.ref 180,.int 189 0,.int 0 0,.ref 187,.int 200 0,.int 0 0,.ref 192,.int 215 0,.int 0 0,.ref 197,.int 232 0,.int 0 0,.ref 202,.int 238 0,.int 0 0,.ref 209]
def f13 (P:Params):Obj:=co [.str "<module>" 182,.str "<module>" 183,.str "/claim/cut.py" 184,.int 1 0,.int 0 0,.int 0 0,.int 0 0,.int 0 0,.ref 11,.bool false,.int 181 0,.ref 12,.none,.none,.none,.none,.int 185 0,.int 1 0,.str "/claim/cut.py" 186]
def f14 (P:Params):Obj:=⟨.type "frame",none,.plain,#[some (.ref 13),some (.ref 3),some (.ref 3),none,some (.str "__main__" 164),none,some (.ref 0)]⟩
def f15 (P:Params):Obj:=tu [.type "ValueError"]
def f16 (P:Params):Obj:=⟨.type "builtin_function_or_method",none,.fields #[.builtin "type.__prepare__",.type "type"],#[]⟩
def f17 (P:Params):Obj:=⟨.type "dict",none,.dict #[en P "__module__" 196 (.str "copiedhouse.errors" 187),en P "__qualname__" 198 (.str "HouseError" 197),en P "__firstlineno__" 200 (.int 2 199),en P "__static_attributes__" 201 (.ref 22)] 4,#[]⟩
def f18 (P:Params):Obj:=tu []
def f19 (P:Params):Obj:=fl []
def f20 (P:Params):Obj:=co [.str "HouseError" 191,.str "HouseError" 192,.str "/claim/cut.py" 193,.int 2 0,.int 0 0,.int 0 0,.int 0 0,.int 0 0,.ref 18,.bool false,.int 181 0,.ref 19,.none,.none,.none,.none,.int 194 0,.int 2 0,.str "/claim/cut.py" 195]
def f21 (P:Params):Obj:=⟨.type "frame",none,.plain,#[some (.ref 20),some (.ref 3),some (.ref 17),none,some (.str "copiedhouse.errors" 187),none,some (.ref 0)]⟩
def f22 (P:Params):Obj:=tu []
def f23 (P:Params):Obj:=⟨.type "dict",none,.dict #[en P "__module__" 196 (.str "copiedhouse.errors" 187),en P "__firstlineno__" 200 (.int 2 199),en P "__static_attributes__" 201 (.ref 22),en P "__weakref__" 203 (.ref 25),en P "__doc__" 204 (.none)] 3,#[]⟩
def f24 (P:Params):Obj:=⟨.type "type",none,.cls (⟨"HouseError",[.type "ValueError"],[.ref 24,.type "ValueError",.type "Exception",.type "BaseException",.type "object"],23,"HouseError",true,[],[.ref 44],false,none,false⟩),#[some (.ref 15),none,some (.str "HouseError" 189),some (.str "HouseError" 197),some (.builtin "ValueError.__new__"),some (.bool true)]⟩
def f25 (P:Params):Obj:=⟨.type "getset_descriptor",none,.fields #[.str "__weakref__" 202,.ref 24,.builtin "ExceptionGroup.__weakref__",.none],#[]⟩
def f26 (P:Params):Obj:=⟨.type "super",none,.fields #[.ref 24,.ref 24,.ref 24],#[]⟩
def f27 (P:Params):Obj:=⟨.type "builtin_function_or_method",none,.fields #[.builtin "object.__init_subclass__",.ref 24],#[]⟩
def cR (P:Params):Obj:=tu [.ref 24]
def f29 (P:Params):Obj:=⟨.type "builtin_function_or_method",none,.fields #[.builtin "type.__prepare__",.type "type"],#[]⟩
def f30 (P:Params):Obj:=⟨.type "dict",none,.dict #[en P "__module__" 214 (.str "copiedhouse.errors" 187),en P "__qualname__" 216 (.str "NotHeld" 215),en P "__firstlineno__" 218 (.int 4 217),en P "__init__" 226 (.ref 41),en P "__static_attributes__" 228 (.ref 42)] 5,#[]⟩
def f31 (P:Params):Obj:=tu []
def f32 (P:Params):Obj:=fl [.int 6 0,.int 4 0,.ref 40]
def f33 (P:Params):Obj:=co [.str "NotHeld" 209,.str "NotHeld" 210,.str "/claim/cut.py" 211,.int 4 0,.int 0 0,.int 0 0,.int 0 0,.int 0 0,.ref 31,.bool false,.int 181 0,.ref 32,.none,.none,.none,.none,.int 212 0,.int 4 0,.str "/claim/cut.py" 213]
def f34 (P:Params):Obj:=⟨.type "frame",none,.plain,#[some (.ref 33),some (.ref 3),some (.ref 30),none,some (.str "copiedhouse.errors" 187),none,some (.ref 0)]⟩
def cS (P:Params):Obj:=tu []
def f36 (P:Params):Obj:=fl []
def cT (P:Params):Obj:=tu [.str "self" 222,.str "word" 223]
def cU (P:Params):Obj:=tu []
def f39 (P:Params):Obj:=fp (fn "__init__" "NotHeld.__init__" (tpC 2 0) 0 [] (.none) (.none) (.none) (.none) (none) (.none) (.none) 0)
def cV (P:Params):Obj:=co [.str "__init__" 219,.str "NotHeld.__init__" 220,.str "/claim/cut.py" 221,.int 6 0,.int 2 0,.int 0 0,.int 0 0,.int 3 0,.ref 35,.bool true,.int 181 0,.ref 36,.none,.ref 37,.ref 38,.ref 39,.int 224 0,.int 6 0,.str "/claim/cut.py" 225]
def cW (P:Params):Obj:=fu (fn "__init__" "NotHeld.__init__" (tpC 2 0) 3 [] (.none) (.none) (.none) (.str "copiedhouse.errors" 187) (none) (.ref 40) (.none) 0)
def cX (P:Params):Obj:=tu [.str "word" 227]
def cY (P:Params):Obj:=⟨.type "dict",none,.dict #[en P "__module__" 214 (.str "copiedhouse.errors" 187),en P "__firstlineno__" 218 (.int 4 217),en P "__init__" 226 (.ref 41),en P "__static_attributes__" 228 (.ref 42),en P "__doc__" 229 (.none)] 2,#[]⟩
def cZ (P:Params):Obj:=⟨.type "type",none,.cls (⟨"NotHeld",[.ref 24],[.ref 44,.ref 24,.type "ValueError",.type "Exception",.type "BaseException",.type "object"],43,"NotHeld",true,[],[],false,none,false⟩),#[some (.ref 28),none,some (.str "NotHeld" 207),some (.str "NotHeld" 215),some (.builtin "ValueError.__new__"),some (.bool true)]⟩
def f45 (P:Params):Obj:=⟨.type "super",none,.fields #[.ref 44,.ref 44,.ref 44],#[]⟩
def f46 (P:Params):Obj:=⟨.type "builtin_function_or_method",none,.fields #[.builtin "object.__init_subclass__",.ref 44],#[]⟩
def b0 (P:Params):Obj:=tu []
def f48 (P:Params):Obj:=fl []
def f49 (P:Params):Obj:=fp (fn "first_called" "first_called" (tp 4) 0 [] (.none) (.none) (.none) (.none) (none) (.none) (.none) 0)
def bA (P:Params):Obj:=co [.str "first_called" 234,.str "first_called" 235,.str "/claim/cut.py" 236,.int 10 0,.int 2 0,.int 0 0,.int 0 0,.int 3 0,.ref 47,.bool true,.int 181 0,.ref 48,.none,.none,.none,.ref 49,.int 237 0,.int 10 0,.str "/claim/cut.py" 238]
def bB (P:Params):Obj:=fu (fn "first_called" "first_called" (tp 4) 3 [] (.none) (.none) (.none) (.str "copiedhouse.lists" 232) (none) (.ref 50) (.none) 0)
def bC (P:Params):Obj:=tu []
def f53 (P:Params):Obj:=fl []
def bD (P:Params):Obj:=tu [.str "program" 243,.str "H" 244]
def bE (P:Params):Obj:=tu []
def f56 (P:Params):Obj:=fp (fn "hand_named" "hand_named" (tp 5) 0 [] (.none) (.none) (.none) (.none) (none) (.none) (.none) 0)
def bF (P:Params):Obj:=co [.str "hand_named" 240,.str "hand_named" 241,.str "/claim/cut.py" 242,.int 12 0,.int 2 0,.int 0 0,.int 0 0,.int 3 0,.ref 52,.bool true,.int 181 0,.ref 53,.none,.ref 54,.ref 55,.ref 56,.int 245 0,.int 12 0,.str "/claim/cut.py" 246]
def bG (P:Params):Obj:=fu (fn "hand_named" "hand_named" (tp 5) 3 [] (.none) (.none) (.none) (.str "copiedhouse.lists" 232) (none) (.ref 57) (.none) 0)
def bH (P:Params):Obj:=tu []
def f60 (P:Params):Obj:=fl []
def f61 (P:Params):Obj:=fp (fn "named_by_hands" "named_by_hands" (tp 6) 0 [] (.none) (.none) (.none) (.none) (none) (.none) (.none) 0)
def bI (P:Params):Obj:=co [.str "named_by_hands" 248,.str "named_by_hands" 249,.str "/claim/cut.py" 250,.int 14 0,.int 2 0,.int 0 0,.int 0 0,.int 3 0,.ref 59,.bool true,.int 181 0,.ref 60,.none,.none,.none,.ref 61,.int 251 0,.int 14 0,.str "/claim/cut.py" 252]
def bJ (P:Params):Obj:=fu (fn "named_by_hands" "named_by_hands" (tp 6) 3 [] (.none) (.none) (.none) (.str "copiedhouse.lists" 232) (none) (.ref 62) (.none) 0)
def bK (P:Params):Obj:=tu []
def f65 (P:Params):Obj:=fl []
def f66 (P:Params):Obj:=fp (fn "in_split_order" "in_split_order" (tp 7) 0 [] (.none) (.none) (.none) (.none) (none) (.none) (.none) 0)
def bL (P:Params):Obj:=co [.str "in_split_order" 254,.str "in_split_order" 255,.str "/claim/cut.py" 256,.int 19 0,.int 1 0,.int 0 0,.int 0 0,.int 3 0,.ref 64,.bool true,.int 181 0,.ref 65,.none,.none,.none,.ref 66,.int 257 0,.int 19 0,.str "/claim/cut.py" 258]
def bM (P:Params):Obj:=fu (fn "in_split_order" "in_split_order" (tp 7) 3 [] (.none) (.none) (.none) (.str "copiedhouse.lists" 232) (none) (.ref 67) (.none) 0)
def bN (P:Params):Obj:=tu []
def f70 (P:Params):Obj:=fl []
def bO (P:Params):Obj:=tu [.str "program" 265,.str "H" 266,.str "n" 267,.str "rows" 268]
def bP (P:Params):Obj:=tu []
def f73 (P:Params):Obj:=fp (fn "held_at" "held_at" (tp 9) 0 [] (.none) (.none) (.none) (.none) (none) (.none) (.none) 0)
def bQ (P:Params):Obj:=co [.str "held_at" 262,.str "held_at" 263,.str "/claim/cut.py" 264,.int 29 0,.int 3 0,.int 0 0,.int 0 0,.int 3 0,.ref 69,.bool true,.int 181 0,.ref 70,.none,.ref 71,.ref 72,.ref 73,.int 269 0,.int 29 0,.str "/claim/cut.py" 270]
def bR (P:Params):Obj:=fu (fn "held_at" "held_at" (tp 9) 3 [] (.none) (.none) (.none) (.str "copiedhouse.looker" 260) (none) (.ref 74) (.none) 0)
def bS (P:Params):Obj:=tu []
def f77 (P:Params):Obj:=fl []
def bT (P:Params):Obj:=tu [.str "program" 275,.str "rows_of" 276,.str "ends" 277,.str "word" 278]
def bU (P:Params):Obj:=tu []
def f80 (P:Params):Obj:=fp (fn "held_at_ends" "held_at_ends" (tp 10) 0 [] (.none) (.none) (.none) (.none) (none) (.none) (.none) 0)
def bV (P:Params):Obj:=co [.str "held_at_ends" 272,.str "held_at_ends" 273,.str "/claim/cut.py" 274,.int 32 0,.int 1 0,.int 0 0,.int 0 0,.int 3 0,.ref 76,.bool true,.int 181 0,.ref 77,.none,.ref 78,.ref 79,.ref 80,.int 279 0,.int 32 0,.str "/claim/cut.py" 280]
def bW (P:Params):Obj:=fu (fn "held_at_ends" "held_at_ends" (tp 10) 3 [] (.none) (.none) (.none) (.str "copiedhouse.looker" 260) (none) (.ref 81) (.none) 0)
def bX (P:Params):Obj:=tu []
def f84 (P:Params):Obj:=fl []
def bY (P:Params):Obj:=tu [.str "rows" 285,.str "ends" 286,.str "held" 287,.str "row" 288]
def bZ (P:Params):Obj:=tu []
def f87 (P:Params):Obj:=fp (fn "held_behind" "held_behind" (tp 11) 0 [] (.none) (.none) (.none) (.none) (none) (.none) (.none) 0)
def aA (P:Params):Obj:=co [.str "held_behind" 282,.str "held_behind" 283,.str "/claim/cut.py" 284,.int 38 0,.int 2 0,.int 0 0,.int 0 0,.int 3 0,.ref 83,.bool true,.int 181 0,.ref 84,.none,.ref 85,.ref 86,.ref 87,.int 289 0,.int 38 0,.str "/claim/cut.py" 290]
def aB (P:Params):Obj:=fu (fn "held_behind" "held_behind" (tp 11) 3 [] (.none) (.none) (.none) (.str "copiedhouse.looker" 260) (none) (.ref 88) (.none) 0)
def aC (P:Params):Obj:=tu []
def f91 (P:Params):Obj:=fl []
def f92 (P:Params):Obj:=fp (fn "in_order_of_hands" "in_order_of_hands" (tp 12) 0 [] (.none) (.none) (.none) (.none) (none) (.none) (.none) 0)
def aD (P:Params):Obj:=co [.str "in_order_of_hands" 292,.str "in_order_of_hands" 293,.str "/claim/cut.py" 294,.int 49 0,.int 2 0,.int 0 0,.int 0 0,.int 3 0,.ref 90,.bool true,.int 181 0,.ref 91,.none,.none,.none,.ref 92,.int 295 0,.int 49 0,.str "/claim/cut.py" 296]
def aE (P:Params):Obj:=fu (fn "in_order_of_hands" "in_order_of_hands" (tp 12) 3 [] (.none) (.none) (.none) (.str "copiedhouse.looker" 260) (none) (.ref 93) (.none) 0)
def aF (P:Params):Obj:=tu []
def f96 (P:Params):Obj:=fl []
def aG (P:Params):Obj:=tu [.str "_law_script" 303,.str "_law_k" 304,.str "_law_cell" 305,.str "_law_seed" 306]
def aH (P:Params):Obj:=tu []
def f99 (P:Params):Obj:=fp (fn "_law_box" "_law_box" (tp 14) 0 [] (.none) (.none) (.none) (.none) (none) (.none) (.none) 0)
def fJ (P:Params):Obj:=co [.str "_law_box" 300,.str "_law_box" 301,.str "/claim/cut.py" 302,.int 52 0,.int 2 0,.int 0 0,.int 0 0,.int 3 0,.ref 95,.bool true,.int 181 0,.ref 96,.none,.ref 97,.ref 98,.ref 99,.int 307 0,.int 52 0,.str "/claim/cut.py" 308]
def fK (P:Params):Obj:=fu (fn "_law_box" "_law_box" (tp 14) 3 [] (.none) (.none) (.none) (.str "law_copiedhouse_k19_what_a_hand_holds" 298) (none) (.ref 100) (.none) 0)
def fL (P:Params):Obj:=tu []
def zcT (P:Params):Obj:=fl []
def fM (P:Params):Obj:=tu [.str "_law_box_here" 313,.str "_law_many" 314,.str "_law_digit" 315,.str "_law_one" 316]
def fN (P:Params):Obj:=tu []
def zcU (P:Params):Obj:=fp (fn "_law_take" "_law_take" (tp 15) 0 [] (.none) (.none) (.none) (.none) (none) (.none) (.none) 0)
def fO (P:Params):Obj:=co [.str "_law_take" 310,.str "_law_take" 311,.str "/claim/cut.py" 312,.int 60 0,.int 2 0,.int 0 0,.int 0 0,.int 3 0,.ref 102,.bool true,.int 181 0,.ref 103,.none,.ref 104,.ref 105,.ref 106,.int 317 0,.int 60 0,.str "/claim/cut.py" 318]
def fP (P:Params):Obj:=fu (fn "_law_take" "_law_take" (tp 15) 3 [] (.none) (.none) (.none) (.str "law_copiedhouse_k19_what_a_hand_holds" 298) (none) (.ref 107) (.none) 0)
def fQ (P:Params):Obj:=tu []
def zcV (P:Params):Obj:=fl []
def zcW (P:Params):Obj:=fp (fn "_law_words" "_law_words" (tp 16) 0 [] (.none) (.none) (.none) (.none) (none) (.none) (.none) 0)
def fR (P:Params):Obj:=co [.str "_law_words" 320,.str "_law_words" 321,.str "/claim/cut.py" 322,.int 68 0,.int 2 0,.int 0 0,.int 0 0,.int 3 0,.ref 109,.bool true,.int 181 0,.ref 110,.none,.none,.none,.ref 111,.int 323 0,.int 68 0,.str "/claim/cut.py" 324]
def fS (P:Params):Obj:=fu (fn "_law_words" "_law_words" (tp 16) 3 [] (.none) (.none) (.none) (.str "law_copiedhouse_k19_what_a_hand_holds" 298) (none) (.ref 112) (.none) 0)
def fT (P:Params):Obj:=tu []
def zcX (P:Params):Obj:=fl []
def fU (P:Params):Obj:=tu [.str "_law_box_here" 329,.str "_law_form" 330]
def fV (P:Params):Obj:=tu []
def zcY (P:Params):Obj:=fp (fn "_law_number" "_law_number" (tp 17) 0 [] (.none) (.none) (.none) (.none) (none) (.none) (.none) 0)
def fW (P:Params):Obj:=co [.str "_law_number" 326,.str "_law_number" 327,.str "/claim/cut.py" 328,.int 85 0,.int 1 0,.int 0 0,.int 0 0,.int 3 0,.ref 114,.bool true,.int 181 0,.ref 115,.none,.ref 116,.ref 117,.ref 118,.int 331 0,.int 85 0,.str "/claim/cut.py" 332]
def fX (P:Params):Obj:=fu (fn "_law_number" "_law_number" (tp 17) 3 [] (.none) (.none) (.none) (.str "law_copiedhouse_k19_what_a_hand_holds" 298) (none) (.ref 119) (.none) 0)
def fY (P:Params):Obj:=tu []
def zcZ (P:Params):Obj:=fl []
def fZ (P:Params):Obj:=tu [.str "_law_box_here" 337,.str "_law_leaves_here" 338,.str "_law_room" 339,.str "_law_deep" 340,.str "_law_form" 341,.str "_law_third" 342,.str "_law_one" 343,.str "_law_other" 344,.str "_law_half" 345]
def e7 (P:Params):Obj:=tu []
def zda (P:Params):Obj:=fp (fn "_law_term" "_law_term" (tp 18) 0 [] (.none) (.none) (.none) (.none) (none) (.none) (.none) 0)
def eE (P:Params):Obj:=co [.str "_law_term" 334,.str "_law_term" 335,.str "/claim/cut.py" 336,.int 92 0,.int 4 0,.int 0 0,.int 0 0,.int 3 0,.ref 121,.bool true,.int 181 0,.ref 122,.none,.ref 123,.ref 124,.ref 125,.int 346 0,.int 92 0,.str "/claim/cut.py" 347]
def eF (P:Params):Obj:=fu (fn "_law_term" "_law_term" (tp 18) 3 [] (.none) (.none) (.none) (.str "law_copiedhouse_k19_what_a_hand_holds" 298) (none) (.ref 126) (.none) 0)
def eI (P:Params):Obj:=tu []
def zdb (P:Params):Obj:=fl []
def eJ (P:Params):Obj:=tu [.str "_law_box_here" 352,.str "_law_leaves_here" 353,.str "_law_room" 354]
def eK (P:Params):Obj:=tu []
def zdc (P:Params):Obj:=fp (fn "_law_any_term" "_law_any_term" (tp 19) 0 [] (.none) (.none) (.none) (.none) (none) (.none) (.none) 0)
def eL (P:Params):Obj:=co [.str "_law_any_term" 349,.str "_law_any_term" 350,.str "/claim/cut.py" 351,.int 106 0,.int 2 0,.int 0 0,.int 0 0,.int 3 0,.ref 128,.bool true,.int 181 0,.ref 129,.none,.ref 130,.ref 131,.ref 132,.int 355 0,.int 106 0,.str "/claim/cut.py" 356]
def eM (P:Params):Obj:=fu (fn "_law_any_term" "_law_any_term" (tp 19) 3 [] (.none) (.none) (.none) (.str "law_copiedhouse_k19_what_a_hand_holds" 298) (none) (.ref 133) (.none) 0)
def eN (P:Params):Obj:=tu []
def zdd (P:Params):Obj:=fl []
def eO (P:Params):Obj:=tu [.str "_law_box_here" 361,.str "_law_kinds" 362,.str "_law_calm" 363,.str "_law_word" 364,.str "_law_three" 365,.str "_law_term_here" 366]
def eP (P:Params):Obj:=tu []
def zde (P:Params):Obj:=fp (fn "_law_manner" "_law_manner" (tp 20) 0 [] (.none) (.none) (.none) (.none) (none) (.none) (.none) 0)
def eQ (P:Params):Obj:=co [.str "_law_manner" 358,.str "_law_manner" 359,.str "/claim/cut.py" 360,.int 109 0,.int 3 0,.int 0 0,.int 0 0,.int 3 0,.ref 135,.bool true,.int 181 0,.ref 136,.none,.ref 137,.ref 138,.ref 139,.int 367 0,.int 109 0,.str "/claim/cut.py" 368]
def eR (P:Params):Obj:=fu (fn "_law_manner" "_law_manner" (tp 20) 3 [] (.none) (.none) (.none) (.str "law_copiedhouse_k19_what_a_hand_holds" 298) (none) (.ref 140) (.none) 0)
def eV (P:Params):Obj:=tu []
def zdf (P:Params):Obj:=fl []
def zdg (P:Params):Obj:=fp (fn "_law_begin" "_law_begin" (tp 21) 0 [] (.none) (.none) (.none) (.none) (none) (.none) (.none) 0)
def eW (P:Params):Obj:=co [.str "_law_begin" 370,.str "_law_begin" 371,.str "/claim/cut.py" 372,.int 118 0,.int 3 0,.int 0 0,.int 0 0,.int 3 0,.ref 142,.bool true,.int 181 0,.ref 143,.none,.none,.none,.ref 144,.int 373 0,.int 118 0,.str "/claim/cut.py" 374]
def eZ (P:Params):Obj:=fu (fn "_law_begin" "_law_begin" (tp 21) 3 [] (.none) (.none) (.none) (.str "law_copiedhouse_k19_what_a_hand_holds" 298) (none) (.ref 145) (.none) 0)
def d4 (P:Params):Obj:=tu []
def zdh (P:Params):Obj:=fl []
def d5 (P:Params):Obj:=tu [.str "_law_box_here" 379,.str "_law_shelves" 380,.str "_law_things" 381,.str "_law_found" 382,.str "_law_ks" 383,.str "_law_manner_here" 384,.str "_law_begin_here" 385]
def d6 (P:Params):Obj:=tu []
def zdi (P:Params):Obj:=fp (fn "_law_leaves" "_law_leaves" (tp 22) 0 [] (.none) (.none) (.none) (.none) (none) (.none) (.none) 0)
def d7 (P:Params):Obj:=co [.str "_law_leaves" 376,.str "_law_leaves" 377,.str "/claim/cut.py" 378,.int 132 0,.int 3 0,.int 0 0,.int 0 0,.int 3 0,.ref 147,.bool true,.int 181 0,.ref 148,.none,.ref 149,.ref 150,.ref 151,.int 386 0,.int 132 0,.str "/claim/cut.py" 387]
def d8 (P:Params):Obj:=fu (fn "_law_leaves" "_law_leaves" (tp 22) 3 [] (.none) (.none) (.none) (.str "law_copiedhouse_k19_what_a_hand_holds" 298) (none) (.ref 152) (.none) 0)
def d9 (P:Params):Obj:=tu []
def zdj (P:Params):Obj:=fl []
def dA (P:Params):Obj:=tu [.str "_law_box_here" 392,.str "_law_shelf" 393,.str "_law_leaves_here" 394,.str "_law_things" 395,.str "_law_ks" 396,.str "_law_manner_here" 397,.str "_law_begin_here" 398,.str "_law_word" 399,.str "_law_term_here" 400]
def dB (P:Params):Obj:=tu []
def zdk (P:Params):Obj:=fp (fn "_law_deed" "_law_deed" (tp 23) 0 [] (.none) (.none) (.none) (.none) (none) (.none) (.none) 0)
def dC (P:Params):Obj:=co [.str "_law_deed" 389,.str "_law_deed" 390,.str "/claim/cut.py" 391,.int 140 0,.int 4 0,.int 0 0,.int 0 0,.int 3 0,.ref 154,.bool true,.int 181 0,.ref 155,.none,.ref 156,.ref 157,.ref 158,.int 401 0,.int 140 0,.str "/claim/cut.py" 402]
def dD (P:Params):Obj:=fu (fn "_law_deed" "_law_deed" (tp 23) 3 [] (.none) (.none) (.none) (.str "law_copiedhouse_k19_what_a_hand_holds" 298) (none) (.ref 159) (.none) 0)
def dE (P:Params):Obj:=tu []
def zdl (P:Params):Obj:=fl []
def dF (P:Params):Obj:=tu [.str "_law_box_here" 407,.str "_law_uses" 408,.str "_law_things" 409,.str "_law_own" 410,.str "_law_asked" 411,.str "_law_leaves_here" 412,.str "_law_row_here" 413]
def dG (P:Params):Obj:=tu []
def zdm (P:Params):Obj:=fp (fn "_law_row" "_law_row" (tp 24) 0 [] (.none) (.none) (.none) (.none) (none) (.none) (.none) 0)
def dH (P:Params):Obj:=co [.str "_law_row" 404,.str "_law_row" 405,.str "/claim/cut.py" 406,.int 155 0,.int 3 0,.int 0 0,.int 0 0,.int 3 0,.ref 161,.bool true,.int 181 0,.ref 162,.none,.ref 163,.ref 164,.ref 165,.int 414 0,.int 155 0,.str "/claim/cut.py" 415]
def dI (P:Params):Obj:=fu (fn "_law_row" "_law_row" (tp 24) 3 [] (.none) (.none) (.none) (.str "law_copiedhouse_k19_what_a_hand_holds" 298) (none) (.ref 166) (.none) 0)
def dJ (P:Params):Obj:=tu []
def zdn (P:Params):Obj:=fl []
def dL (P:Params):Obj:=tu [.str "_law_box_here" 420,.str "_law_plan" 421,.str "_law_rows" 422,.str "_law_held" 423,.str "_law_other" 424]
def dM (P:Params):Obj:=tu []
def zdo (P:Params):Obj:=fp (fn "_law_join" "_law_join" (tp 25) 0 [] (.none) (.none) (.none) (.none) (none) (.none) (.none) 0)
def dN (P:Params):Obj:=co [.str "_law_join" 417,.str "_law_join" 418,.str "/claim/cut.py" 419,.int 164 0,.int 4 0,.int 0 0,.int 0 0,.int 3 0,.ref 168,.bool true,.int 181 0,.ref 169,.none,.ref 170,.ref 171,.ref 172,.int 425 0,.int 164 0,.str "/claim/cut.py" 426]
def dO (P:Params):Obj:=fu (fn "_law_join" "_law_join" (tp 25) 3 [] (.none) (.none) (.none) (.str "law_copiedhouse_k19_what_a_hand_holds" 298) (none) (.ref 173) (.none) 0)
def dP (P:Params):Obj:=tu []
def zdp (P:Params):Obj:=fl []
def dQ (P:Params):Obj:=tu [.str "_law_script" 431,.str "_law_at" 432,.str "_law_plan" 433,.str "_law_number_here" 434,.str "_law_box_here" 435,.str "_law_uses" 436,.str "_law_rows" 437,.str "_law_held" 438,.str "_law_k" 439,.str "_law_kind" 440,.str "_law_other" 441]
def dR (P:Params):Obj:=tu []
def zdq (P:Params):Obj:=fp (fn "_law_hand" "_law_hand" (tp 26) 0 [] (.none) (.none) (.none) (.none) (none) (.none) (.none) 0)
def dS (P:Params):Obj:=co [.str "_law_hand" 428,.str "_law_hand" 429,.str "/claim/cut.py" 430,.int 168 0,.int 4 0,.int 0 0,.int 0 0,.int 3 0,.ref 175,.bool true,.int 181 0,.ref 176,.none,.ref 177,.ref 178,.ref 179,.int 442 0,.int 168 0,.str "/claim/cut.py" 443]
def dU (P:Params):Obj:=fu (fn "_law_hand" "_law_hand" (tp 26) 3 [] (.none) (.none) (.none) (.str "law_copiedhouse_k19_what_a_hand_holds" 298) (none) (.ref 180) (.none) 0)
def dW (P:Params):Obj:=tu []
def zdr (P:Params):Obj:=fl []
def dX (P:Params):Obj:=tu [.str "_law_box_here" 448,.str "_law_form" 449,.str "_law_some" 450,.str "_law_x" 451,.str "_law_y" 452,.str "_law_z" 453,.str "_law_at" 454]
def dY (P:Params):Obj:=tu []
def zds (P:Params):Obj:=fp (fn "_law_three_words" "_law_three_words" (tp 27) 0 [] (.none) (.none) (.none) (.none) (none) (.none) (.none) 0)
def dZ (P:Params):Obj:=co [.str "_law_three_words" 445,.str "_law_three_words" 446,.str "/claim/cut.py" 447,.int 189 0,.int 1 0,.int 0 0,.int 0 0,.int 3 0,.ref 182,.bool true,.int 181 0,.ref 183,.none,.ref 184,.ref 185,.ref 186,.int 455 0,.int 189 0,.str "/claim/cut.py" 456]
def c0 (P:Params):Obj:=fu (fn "_law_three_words" "_law_three_words" (tp 27) 3 [] (.none) (.none) (.none) (.str "law_copiedhouse_k19_what_a_hand_holds" 298) (none) (.ref 187) (.none) 0)
def cA (P:Params):Obj:=tu []
def zdt (P:Params):Obj:=fl []
def zdu (P:Params):Obj:=fp (fn "_law_program" "_law_program" (tp 28) 0 [] (.none) (.none) (.none) (.none) (none) (.none) (.none) 0)
def cC (P:Params):Obj:=co [.str "_law_program" 458,.str "_law_program" 459,.str "/claim/cut.py" 460,.int 200 0,.int 5 0,.int 0 0,.int 0 0,.int 3 0,.ref 189,.bool true,.int 181 0,.ref 190,.none,.none,.none,.ref 191,.int 461 0,.int 200 0,.str "/claim/cut.py" 462]
def cF (P:Params):Obj:=fu (fn "_law_program" "_law_program" (tp 28) 3 [] (.none) (.none) (.none) (.str "law_copiedhouse_k19_what_a_hand_holds" 298) (none) (.ref 192) (.none) 0)
def cG (P:Params):Obj:=tu []
def zdv (P:Params):Obj:=fl []
def zdw (P:Params):Obj:=fp (fn "_law_way" "_law_way" (tp 29) 0 [] (.none) (.none) (.none) (.none) (none) (.none) (.none) 0)
def cH (P:Params):Obj:=co [.str "_law_way" 464,.str "_law_way" 465,.str "/claim/cut.py" 466,.int 215 0,.int 2 0,.int 0 0,.int 0 0,.int 3 0,.ref 194,.bool true,.int 181 0,.ref 195,.none,.none,.none,.ref 196,.int 467 0,.int 215 0,.str "/claim/cut.py" 468]
def cI (P:Params):Obj:=fu (fn "_law_way" "_law_way" (tp 29) 3 [] (.none) (.none) (.none) (.str "law_copiedhouse_k19_what_a_hand_holds" 298) (none) (.ref 197) (.none) 0)
def cJ (P:Params):Obj:=tu []
def zdx (P:Params):Obj:=fl []
def zdy (P:Params):Obj:=fp (fn "_law_due" "_law_due" (tp 30) 0 [] (.none) (.none) (.none) (.none) (none) (.none) (.none) 0)
def cK (P:Params):Obj:=co [.str "_law_due" 470,.str "_law_due" 471,.str "/claim/cut.py" 472,.int 232 0,.int 4 0,.int 0 0,.int 0 0,.int 3 0,.ref 199,.bool true,.int 181 0,.ref 200,.none,.none,.none,.ref 201,.int 473 0,.int 232 0,.str "/claim/cut.py" 474]
def cL (P:Params):Obj:=fu (fn "_law_due" "_law_due" (tp 30) 3 [] (.none) (.none) (.none) (.str "law_copiedhouse_k19_what_a_hand_holds" 298) (none) (.ref 202) (.none) 0)
def cM (P:Params):Obj:=tu []
def zdz (P:Params):Obj:=fl []
def cN (P:Params):Obj:=tu [.str "_law_script" 479,.str "_law_program_here" 480,.str "_law_ways" 481,.str "_law_kx" 482,.str "_law_rows" 483,.str "_law_some_rows" 484,.str "_law_kh" 485,.str "_law_n" 486,.str "_law_some" 487,.str "_law_found" 488,.str "_law_first" 489]
def cO (P:Params):Obj:=tu []
def zd0 (P:Params):Obj:=fp (fn "law" "law" (tp 31) 0 [] (.none) (.none) (.none) (.none) (none) (.none) (.none) 0)
def cP (P:Params):Obj:=co [.str "law" 476,.str "law" 477,.str "/claim/cut.py" 478,.int 238 0,.int 1 0,.int 0 0,.int 0 0,.int 3 0,.ref 204,.bool true,.int 181 0,.ref 205,.none,.ref 206,.ref 207,.ref 208,.int 490 0,.int 238 0,.str "/claim/cut.py" 491]
def cQ (P:Params):Obj:=fu (fn "law" "law" (tp 31) 3 [] (.none) (.none) (.none) (.str "law_copiedhouse_k19_what_a_hand_holds" 298) (none) (.ref 209) (.none) 0)
def a12 (P:Params):Obj:=fl []
def Ta (P:Params):BT:=(.node (boot_o_0 P) (.node (boot_o_1 P) (.node (boot_o_3 P) (.node (boot_o_7 P) .nil .nil) (.node (f11 P) .nil .nil)) (.node (boot_o_5 P) (.node (boot_o_9 P) .nil .nil) (.node (f13 P) .nil .nil))) (.node (boot_o_2 P) (.node (boot_o_4 P) (.node (boot_o_8 P) .nil .nil) (.node (a12 P) .nil .nil)) (.node (boot_o_6 P) (.node (boot_o_10 P) .nil .nil) (.node (f14 P) .nil .nil))))
def Tz (P:Params):BT:=(.node (boot_o_0 P) (.node (boot_o_1 P) (.node (f3 P) (.node (boot_o_7 P) (.node (f15 P) (.node (f31 P) (.node (bJ P) (.node (eF P) .nil .nil) (.node (zdu P) .nil .nil)) (.node (aF P) (.node (dC P) .nil .nil) .nil)) (.node (b0 P) (.node (bU P) (.node (zdf P) .nil .nil) (.node (cO P) .nil .nil)) (.node (zcW P) (.node (dP P) .nil .nil) .nil))) (.node (f23 P) (.node (f39 P) (.node (bO P) (.node (eN P) .nil .nil) (.node (cJ P) .nil .nil)) (.node (zcT P) (.node (dI P) .nil .nil) .nil)) (.node (bE P) (.node (f87 P) (.node (zdi P) .nil .nil) .nil) (.node (fW P) (.node (zdr P) .nil .nil) .nil)))) (.node (f11 P) (.node (f19 P) (.node (cS P) (.node (bL P) (.node (eK P) .nil .nil) (.node (zdv P) .nil .nil)) (.node (f99 P) (.node (dF P) .nil .nil) .nil)) (.node (bB P) (.node (bX P) (.node (d4 P) .nil .nil) .nil) (.node (zcX P) (.node (zdq P) .nil .nil) .nil))) (.node (f27 P) (.node (cY P) (.node (bR P) (.node (zde P) .nil .nil) (.node (cL P) .nil .nil)) (.node (fO P) (.node (dM P) .nil .nil) .nil)) (.node (bH P) (.node (f91 P) (.node (zdj P) .nil .nil) .nil) (.node (fZ P) (.node (dZ P) .nil .nil) .nil))))) (.node (boot_o_5 P) (.node (boot_o_9 P) (.node (f17 P) (.node (f33 P) (.node (f65 P) (.node (zdb P) .nil .nil) (.node (cF P) .nil .nil)) (.node (aG P) (.node (dE P) .nil .nil) .nil)) (.node (f49 P) (.node (bV P) (.node (eW P) .nil .nil) (.node (cP P) .nil .nil)) (.node (fS P) (.node (dQ P) .nil .nil) .nil))) (.node (f25 P) (.node (cW P) (.node (f73 P) (.node (eO P) .nil .nil) (.node (zdy P) .nil .nil)) (.node (fN P) (.node (zdn P) .nil .nil) .nil)) (.node (bF P) (.node (aB P) (.node (d8 P) .nil .nil) .nil) (.node (fY P) (.node (dY P) .nil .nil) .nil)))) (.node (f13 P) (.node (f21 P) (.node (cT P) (.node (bN P) (.node (eL P) .nil .nil) (.node (cH P) .nil .nil)) (.node (fK P) (.node (zdm P) .nil .nil) .nil)) (.node (f53 P) (.node (bY P) (.node (d5 P) .nil .nil) .nil) (.node (fV P) (.node (dU P) .nil .nil) .nil))) (.node (f29 P) (.node (f45 P) (.node (f77 P) (.node (eR P) .nil .nil) (.node (zdz P) .nil .nil)) (.node (fQ P) (.node (dN P) .nil .nil) .nil)) (.node (f61 P) (.node (aD P) (.node (dB P) .nil .nil) .nil) (.node (zda P) (.node (cA P) .nil .nil) .nil)))))) (.node (boot_o_2 P) (.node (boot_o_4 P) (.node (boot_o_8 P) (.node (f16 P) (.node (f32 P) (.node (bK P) (.node (eI P) .nil .nil) (.node (cC P) .nil .nil)) (.node (f96 P) (.node (dD P) .nil .nil) .nil)) (.node (f48 P) (.node (f80 P) (.node (zdg P) .nil .nil) (.node (zd0 P) .nil .nil)) (.node (fR P) (.node (zdp P) .nil .nil) .nil))) (.node (f24 P) (.node (cV P) (.node (bP P) (.node (zdd P) .nil .nil) (.node (zdx P) .nil .nil)) (.node (fM P) (.node (dJ P) .nil .nil) .nil)) (.node (f56 P) (.node (aA P) (.node (d7 P) .nil .nil) .nil) (.node (fX P) (.node (dX P) .nil .nil) .nil)))) (.node (f12 P) (.node (f20 P) (.node (f36 P) (.node (bM P) (.node (zdc P) .nil .nil) (.node (zdw P) .nil .nil)) (.node (fJ P) (.node (dG P) .nil .nil) .nil)) (.node (bC P) (.node (f84 P) (.node (zdh P) .nil .nil) .nil) (.node (fU P) (.node (dS P) .nil .nil) .nil))) (.node (cR P) (.node (cZ P) (.node (bS P) (.node (eQ P) .nil .nil) (.node (cM P) .nil .nil)) (.node (fP P) (.node (zdo P) .nil .nil) .nil)) (.node (f60 P) (.node (f92 P) (.node (dA P) .nil .nil) .nil) (.node (e7 P) (.node (c0 P) .nil .nil) .nil))))) (.node (boot_o_6 P) (.node (boot_o_10 P) (.node (f18 P) (.node (f34 P) (.node (f66 P) (.node (eJ P) .nil .nil) (.node (cG P) .nil .nil)) (.node (aH P) (.node (zdl P) .nil .nil) .nil)) (.node (bA P) (.node (bW P) (.node (eZ P) .nil .nil) (.node (cQ P) .nil .nil)) (.node (fT P) (.node (dR P) .nil .nil) .nil))) (.node (f26 P) (.node (cX P) (.node (bQ P) (.node (eP P) .nil .nil) (.node (cK P) .nil .nil)) (.node (zcU P) (.node (dL P) .nil .nil) .nil)) (.node (bG P) (.node (aC P) (.node (d9 P) .nil .nil) .nil) (.node (zcZ P) (.node (zds P) .nil .nil) .nil)))) (.node (f14 P) (.node (f22 P) (.node (cU P) (.node (f70 P) (.node (eM P) .nil .nil) (.node (cI P) .nil .nil)) (.node (fL P) (.node (dH P) .nil .nil) .nil)) (.node (bD P) (.node (bZ P) (.node (d6 P) .nil .nil) .nil) (.node (zcY P) (.node (dW P) .nil .nil) .nil))) (.node (f30 P) (.node (f46 P) (.node (bT P) (.node (eV P) .nil .nil) (.node (cN P) .nil .nil)) (.node (zcV P) (.node (dO P) .nil .nil) .nil)) (.node (bI P) (.node (aE P) (.node (zdk P) .nil .nil) .nil) (.node (eE P) (.node (zdt P) .nil .nil) .nil)))))))
def Ha (P:Params):Heap:=⟨⟨[boot_o_0 P,boot_o_1 P,boot_o_2 P,boot_o_3 P,boot_o_4 P,boot_o_5 P,boot_o_6 P,boot_o_7 P,boot_o_8 P,boot_o_9 P,boot_o_10 P,f11 P,a12 P,f13 P,f14 P]⟩,li⟩
def Hf (P:Params):Heap:=⟨⟨[boot_o_0 P,boot_o_1 P,boot_o_2 P,f3 P,boot_o_4 P,boot_o_5 P,boot_o_6 P,boot_o_7 P,boot_o_8 P,boot_o_9 P,boot_o_10 P,f11 P,f12 P,f13 P,f14 P,f15 P,f16 P,f17 P,f18 P,f19 P,f20 P,f21 P,f22 P,f23 P,f24 P,f25 P,f26 P,f27 P,cR P,f29 P,f30 P,f31 P,f32 P,f33 P,f34 P,cS P,f36 P,cT P,cU P,f39 P,cV P,cW P,cX P,cY P,cZ P,f45 P,f46 P,b0 P,f48 P,f49 P,bA P,bB P,bC P,f53 P,bD P,bE P,f56 P,bF P,bG P,bH P,f60 P,f61 P,bI P,bJ P,bK P,f65 P,f66 P,bL P,bM P,bN P,f70 P,bO P,bP P,f73 P,bQ P,bR P,bS P,f77 P,bT P,bU P,f80 P,bV P,bW P,bX P,f84 P,bY P,bZ P,f87 P,aA P,aB P,aC P,f91 P,f92 P,aD P,aE P,aF P,f96 P,aG P,aH P,f99 P,fJ P,fK P,fL P,zcT P,fM P,fN P,zcU P,fO P,fP P,fQ P,zcV P,zcW P,fR P,fS P,fT P,zcX P,fU P,fV P,zcY P,fW P,fX P,fY P,zcZ P,fZ P,e7 P,zda P,eE P,eF P,eI P,zdb P,eJ P,eK P,zdc P,eL P,eM P,eN P,zdd P,eO P,eP P,zde P,eQ P,eR P,eV P,zdf P,zdg P,eW P,eZ P,d4 P,zdh P,d5 P,d6 P,zdi P,d7 P,d8 P,d9 P,zdj P,dA P,dB P,zdk P,dC P,dD P,dE P,zdl P,dF P,dG P,zdm P,dH P,dI P,dJ P,zdn P,dL P,dM P,zdo P,dN P,dO P,dP P,zdp P,dQ P,dR P,zdq P,dS P,dU P,dW P,zdr P,dX P,dY P,zds P,dZ P,c0 P,cA P,zdt P,zdu P,cC P,cF P,cG P,zdv P,zdw P,cH P,cI P,cJ P,zdx P,zdy P,cK P,cL P,cM P,zdz P,cN P,cO P,zd0 P,cP P,cQ P]⟩,li⟩
theorem pre (w:World)(os:OsState):topGo treeTable pg w 11 an 12 ⟨boot_heap w.params,gs,boot_drawn,boot_toks,os⟩ (topStub pg)=some (⟨Ha w.params,gs,boot_drawn,187,os⟩,⟨denote treeTable cE,cE,⟨0,0,0,0⟩,B⟩):=by
 rw[PySem.W.Fast.te15667345088766844465,PySem.W.Fast.te14364793385576792824,PySem.W.Fast.te11892475500146522536];kernel_rfl
theorem block (w:World)(os:OsState):segRun treeTable pg w 11 an 1 1 ⟨Ha w.params,gs,boot_drawn,187,os⟩ (blockOf (behindTheImports pg) ev cE ⟨0,0,0,0⟩ B)=some (.next,(SharedT.abs ⟨Ta w.params,15,li,gs,boot_drawn,187,os⟩),cE,⟨0,0,0,0⟩):=by
 rw[PySem.W.Fast.te14374325043358763698,PySem.W.Fast.te14364793385576792824];kernel_rfl
def zgj:List Stmt:= [tp 0,tp 1,tp 2,tp 3,tp 4,tp 5,tp 6,tp 7,tp 8,tp 9,tp 10,tp 11,tp 12,tp 13,tp 14,tp 15,tp 16,tp 17,tp 18,tp 19,tp 20,tp 21,tp 22,tp 23,tp 24,tp 25,tp 26,tp 27,tp 28,tp 29,tp 30,tp 31]
theorem zlH (w:World)(os:OsState):segRunT treeTable pg w 11 an 1 1277 ⟨Ta w.params,15,li,gs,boot_drawn,187,os⟩ (piecesOf zgj ev cE ⟨0,0,0,0⟩ B)=some (.next,⟨Tz w.params,211,li,gs,boot_drawn,493,os⟩,cE,⟨238,0,253,71⟩):=by
 rw[PySem.W.Fast.te10110043849684766642,PySem.W.Fast.te14364793385576792824];kernel_rfl
theorem fin (w:World)(os:OsState):topRun treeTable pg w 11 an 2 (SharedT.abs ⟨Tz w.params,211,li,gs,boot_drawn,493,os⟩) ⟨doneF .next,cE,⟨238,0,253,71⟩,B⟩=some ⟨Hf w.params,gs,boot_drawn,493,os⟩:=by
 rw[PySem.W.Fast.te14082659384304107361,PySem.W.Fast.te14364793385576792824];kernel_rfl
theorem run (w:World)(os:OsState):topRun treeTable pg w 11 an (12+(1+(1277+(2)))) ⟨boot_heap w.params,gs,boot_drawn,boot_toks,os⟩ (topStub pg)=some ⟨Hf w.params,gs,boot_drawn,493,os⟩:=
 go_top (pre w os) (piece_block (env:=ev) (b:=behindTheImports pg) (block w os) (piece_app (env:=ev) (l:=zgj) (segRun_of (zlH w os)) (piece_nil (env:=ev) (fin w os))))
def K (P:Params):Frag:=(nat_lit 2,boot_o_2 P)::(nat_lit 3,f3 P)::(nat_lit 15,f15 P)::(nat_lit 22,f22 P)::(nat_lit 23,f23 P)::(nat_lit 24,f24 P)::(nat_lit 25,f25 P)::(nat_lit 28,cR P)::(nat_lit 35,cS P)::(nat_lit 37,cT P)::(nat_lit 38,cU P)::(nat_lit 40,cV P)::(nat_lit 41,cW P)::(nat_lit 42,cX P)::(nat_lit 43,cY P)::(nat_lit 44,cZ P)::(nat_lit 47,b0 P)::(nat_lit 50,bA P)::(nat_lit 51,bB P)::(nat_lit 52,bC P)::(nat_lit 54,bD P)::(nat_lit 55,bE P)::(nat_lit 57,bF P)::(nat_lit 58,bG P)::(nat_lit 59,bH P)::(nat_lit 62,bI P)::(nat_lit 63,bJ P)::(nat_lit 64,bK P)::(nat_lit 67,bL P)::(nat_lit 68,bM P)::(nat_lit 69,bN P)::(nat_lit 71,bO P)::(nat_lit 72,bP P)::(nat_lit 74,bQ P)::(nat_lit 75,bR P)::(nat_lit 76,bS P)::(nat_lit 78,bT P)::(nat_lit 79,bU P)::(nat_lit 81,bV P)::(nat_lit 82,bW P)::(nat_lit 83,bX P)::(nat_lit 85,bY P)::(nat_lit 86,bZ P)::(nat_lit 88,aA P)::(nat_lit 89,aB P)::(nat_lit 90,aC P)::(nat_lit 93,aD P)::(nat_lit 94,aE P)::(nat_lit 95,aF P)::(nat_lit 97,aG P)::(nat_lit 98,aH P)::(nat_lit 100,fJ P)::(nat_lit 101,fK P)::(nat_lit 102,fL P)::(nat_lit 104,fM P)::(nat_lit 105,fN P)::(nat_lit 107,fO P)::(nat_lit 108,fP P)::(nat_lit 109,fQ P)::(nat_lit 112,fR P)::(nat_lit 113,fS P)::(nat_lit 114,fT P)::(nat_lit 116,fU P)::(nat_lit 117,fV P)::(nat_lit 119,fW P)::(nat_lit 120,fX P)::(nat_lit 121,fY P)::(nat_lit 123,fZ P)::(nat_lit 124,e7 P)::(nat_lit 126,eE P)::(nat_lit 127,eF P)::(nat_lit 128,eI P)::(nat_lit 130,eJ P)::(nat_lit 131,eK P)::(nat_lit 133,eL P)::(nat_lit 134,eM P)::(nat_lit 135,eN P)::(nat_lit 137,eO P)::(nat_lit 138,eP P)::(nat_lit 140,eQ P)::(nat_lit 141,eR P)::(nat_lit 142,eV P)::(nat_lit 145,eW P)::(nat_lit 146,eZ P)::(nat_lit 147,d4 P)::(nat_lit 149,d5 P)::(nat_lit 150,d6 P)::(nat_lit 152,d7 P)::(nat_lit 153,d8 P)::(nat_lit 154,d9 P)::(nat_lit 156,dA P)::(nat_lit 157,dB P)::(nat_lit 159,dC P)::(nat_lit 160,dD P)::(nat_lit 161,dE P)::(nat_lit 163,dF P)::(nat_lit 164,dG P)::(nat_lit 166,dH P)::(nat_lit 167,dI P)::(nat_lit 168,dJ P)::(nat_lit 170,dL P)::(nat_lit 171,dM P)::(nat_lit 173,dN P)::(nat_lit 174,dO P)::(nat_lit 175,dP P)::(nat_lit 177,dQ P)::(nat_lit 178,dR P)::(nat_lit 180,dS P)::(nat_lit 181,dU P)::(nat_lit 182,dW P)::(nat_lit 184,dX P)::(nat_lit 185,dY P)::(nat_lit 187,dZ P)::(nat_lit 188,c0 P)::(nat_lit 189,cA P)::(nat_lit 192,cC P)::(nat_lit 193,cF P)::(nat_lit 194,cG P)::(nat_lit 197,cH P)::(nat_lit 198,cI P)::(nat_lit 199,cJ P)::(nat_lit 202,cK P)::(nat_lit 203,cL P)::(nat_lit 204,cM P)::(nat_lit 206,cN P)::(nat_lit 207,cO P)::(nat_lit 209,cP P)::(nat_lit 210,cQ P):: []
abbrev hk:Hook:=kmHook K [2,3,15,22,23,24,25,28,35,37,38,40,41,42,43,44,47,50,51,52,54,55,57,58,59,62,63,64,67,68,69,71,72,74,75,76,78,79,81,82,83,85,86,88,89,90,93,94,95,97,98,100,101,102,104,105,107,108,109,112,113,114,116,117,119,120,121,123,124,126,127,128,130,131,133,134,135,137,138,140,141,142,145,146,147,149,150,152,153,154,156,157,159,160,161,163,164,166,167,168,170,171,173,174,175,177,178,180,181,182,184,185,187,188,189,192,193,194,197,198,199,202,203,204,206,207,209,210] (λ_=>by kernel_rfl) []
def q:Program:= {pg with main:= {pg.main with body:= [tp 1,tp 2,tp 4,tp 5,tp 6,tp 7,tp 9,tp 10,tp 11,tp 12,tp 14,tp 15,tp 16,tp 17,tp 18,tp 19,tp 20,tp 21,tp 22,tp 23,tp 24,tp 25,tp 26,tp 27,tp 28,tp 29,tp 30,tp 31]}}
abbrev Xt (s:Shared):Bool:=xlAt q [] s&&recOk (RowW.records (OpenRow.toRowW (PySem.Challenge.rw_copiedhouse_k19_what_a_hand_holds).row)) s
theorem sz (w:World):((boot_heap w.params).isNs mainGlobals&&gs.size==0,(boot_heap w.params).objs.size,(boot_heap w.params).nsMap mainGlobals "__annotations__")=(true,11,an):=by
 rw[PySem.W.Fast.te8920871248978507458];kernel_rfl
theorem lk1 (w:World)(os:OsState):(staticsOk (importedModules pg.main.body) (boot_heap w.params) (Hf w.params)&&namesBound pg (Hf w.params)&&gensDone ⟨Hf w.params,gs,boot_drawn,493,os⟩&&laidKept (boot_heap w.params) (Hf w.params))=true:=by
 rw[PySem.W.Fast.te5923862056798008813];kernel_rfl
theorem lk2 (w:World)(os:OsState):openSeen q [] (importedModules pg.main.body) Xt true ⟨Hf w.params,gs,boot_drawn,493,os⟩=openGood q []:=by
 rw[PySem.W.Fast.te4187177175401517315,PySem.W.Fast.te5923862056798008813];kernel_rfl
theorem lk3 (w:World)(os:OsState):Hook.obs hk ⟨Hf w.params,gs,boot_drawn,493,os⟩=Hook.val hk w:=by kernel_rfl
theorem left:LeftO pg q [] Xt (Hook.obs hk) (Hook.val hk) 2678:=LeftO.of_pieces (H₀:=boot_heap) (H₁:=Hf) (M:=12+(1+(1277+(2)))) (boot_open rfl rfl λ_=>rfl) sz run (by decide) λw=>funext λos=>looks_pair (lk1 w os) (looks_pair (lk2 w os) (lk3 w os))
theorem ws:(PySem.Challenge.rw_copiedhouse_k19_what_a_hand_holds).wellSaid=true:=by kernel_rfl
end
end Hd
open PySem PySem.W PyProof.Rows
set_option maxRecDepth 100000 in
set_option maxHeartbeats 0 in
theorem PySem.Challenge.cw_copiedhouse_k19_what_a_hand_holds_holds : PySem.Challenge.rw_copiedhouse_k19_what_a_hand_holds.Holds := by
 w_on
 refine holds_law Hd.ws λsaid=> ?_;refine holds_open (q:=Hd.q) (loose:= []) (Xt:=Hd.Xt) (XP:=XL Hd.q []) (Yf:=Hook.obs Hd.hk) (Ya:=Hook.val Hd.hk) (YP:=Hook.says Hd.hk) (N:=2678) Hd.left (Hook.of Hd.hk) (Hook.keeps Hd.hk) (λs e=>xl_of s (Bool.and_eq_true_iff.mp e).1) XL.keeps (by rfl) (by rfl) (by rfl) (λs e=>recFacts_of (Bool.and_eq_true_iff.mp e).2) (by rfl) said (by decide+kernel) ⟨rfl,rfl,rfl,rfl,rfl,by decide+kernel⟩ ?hw ?hc
 (case hw=>w_witness2)
 unfold Hd.hk
 k_fill
 refine N19.walk (l:=PySem.Challenge.rw_copiedhouse_k19_what_a_hand_holds) rfl rfl (λw h Y=>PySem.W.km_in_of Y) ?F
 case F=>
  intro w mg fa h KX G hmg
  refine' N19.all_mk KX G hmg ?a1_ ?l1_ ?c1_ ?k1_ ?a2_ ?l2_ ?c2_ ?k2_ ?a3_ ?l3_ ?c3_ ?k3_ ?a4_ ?l4_ ?c4_ ?k4_ ?a5_ ?l5_ ?c5_ ?k5_ ?a6_ ?l6_ ?c6_ ?k6_ ?a7_ ?l7_ ?c7_ ?k7_ ?a8_ ?l8_ ?c8_ ?k8_ ?a9_ ?l9_ ?c9_ ?k9_ ?a10_ ?l10_ ?c10_ ?k10_ ?a11_ ?l11_ ?c11_ ?k11_ ?a12_ ?l12_ ?c12_ ?k12_ ?a13_ ?l13_ ?c13_ ?k13_ ?a14_ ?l14_ ?c14_ ?k14_ ?a15_ ?l15_ ?c15_ ?k15_ ?a16_ ?l16_ ?c16_ ?k16_ ?a17_ ?l17_ ?c17_ ?k17_ ?a18_ ?l18_ ?c18_ ?k18_ ?a19_ ?l19_ ?c19_ ?k19_ ?a20_ ?l20_ ?c20_ ?k20_ ?a21_ ?l21_ ?c21_ ?k21_ ?a22_ ?l22_ ?c22_ ?k22_ ?a23_ ?l23_ ?c23_ ?k23_ ?a24_ ?l24_ ?c24_ ?k24_ ?a25_ ?l25_ ?c25_ ?k25_ ?a26_ ?l26_ ?c26_ ?k26_ ?zn0_ ?zn1_ ?zn2_ ?zn3_ ?zn4_ ?zn5_ ?zn6_ ?zn7_ ?zn8_ ?zn9_ ?zn10_ ?zn11_ ?zn12_ ?zn13_ ?zn14_ ?zn15_
  (case a1_=>k_is)
  (case l1_=>k_is)
  (case c1_=>k_is)
  (case k1_=>k_is)
  (case a2_=>k_is)
  (case l2_=>k_is)
  (case c2_=>k_is)
  (case k2_=>k_is)
  (case a3_=>k_is)
  (case l3_=>k_is)
  (case c3_=>k_is)
  (case k3_=>k_is)
  (case a4_=>k_is)
  (case l4_=>k_is)
  (case c4_=>k_is)
  (case k4_=>k_is)
  (case a5_=>k_is)
  (case l5_=>k_is)
  (case c5_=>k_is)
  (case k5_=>k_is)
  (case a6_=>k_is)
  (case l6_=>k_is)
  (case c6_=>k_is)
  (case k6_=>k_is)
  (case a7_=>k_is)
  (case l7_=>k_is)
  (case c7_=>k_is)
  (case k7_=>k_is)
  (case a8_=>k_is)
  (case l8_=>k_is)
  (case c8_=>k_is)
  (case k8_=>k_is)
  (case a9_=>k_is)
  (case l9_=>k_is)
  (case c9_=>k_is)
  (case k9_=>k_is)
  (case a10_=>k_is)
  (case l10_=>k_is)
  (case c10_=>k_is)
  (case k10_=>k_is)
  (case a11_=>k_is)
  (case l11_=>k_is)
  (case c11_=>k_is)
  (case k11_=>k_is)
  (case a12_=>k_is)
  (case l12_=>k_is)
  (case c12_=>k_is)
  (case k12_=>k_is)
  (case a13_=>k_is)
  (case l13_=>k_is)
  (case c13_=>k_is)
  (case k13_=>k_is)
  (case a14_=>k_is)
  (case l14_=>k_is)
  (case c14_=>k_is)
  (case k14_=>k_is)
  (case a15_=>k_is)
  (case l15_=>k_is)
  (case c15_=>k_is)
  (case k15_=>k_is)
  (case a16_=>k_is)
  (case l16_=>k_is)
  (case c16_=>k_is)
  (case k16_=>k_is)
  (case a17_=>k_is)
  (case l17_=>k_is)
  (case c17_=>k_is)
  (case k17_=>k_is)
  (case a18_=>k_is)
  (case l18_=>k_is)
  (case c18_=>k_is)
  (case k18_=>k_is)
  (case a19_=>k_is)
  (case l19_=>k_is)
  (case c19_=>k_is)
  (case k19_=>k_is)
  (case a20_=>k_is)
  (case l20_=>k_is)
  (case c20_=>k_is)
  (case k20_=>k_is)
  (case a21_=>k_is)
  (case l21_=>k_is)
  (case c21_=>k_is)
  (case k21_=>k_is)
  (case a22_=>k_is)
  (case l22_=>k_is)
  (case c22_=>k_is)
  (case k22_=>k_is)
  (case a23_=>k_is)
  (case l23_=>k_is)
  (case c23_=>k_is)
  (case k23_=>k_is)
  (case a24_=>k_is)
  (case l24_=>k_is)
  (case c24_=>k_is)
  (case k24_=>k_is)
  (case a25_=>k_is)
  (case l25_=>k_is)
  (case c25_=>k_is)
  (case k25_=>k_is)
  (case a26_=>k_is)
  (case l26_=>k_is)
  (case c26_=>k_is)
  (case k26_=>k_is)
  (case zn0_=>k_is)
  (case zn1_=>k_is)
  (case zn2_=>k_is)
  (case zn3_=>k_is)
  (case zn4_=>k_is)
  (case zn5_=>k_is)
  (case zn6_=>k_is)
  (case zn7_=>k_is)
  (case zn8_=>k_is)
  (case zn9_=>k_is)
  (case zn10_=>k_is)
  (case zn11_=>k_is)
  (case zn12_=>k_is)
  (case zn13_=>k_is)
  (case zn14_=>k_is)
  (case zn15_=>k_is)
