import PyProof.Rows.All
import Wide.All
import OpenK.AllK
import Wide.FinOn
import Lean
import PyProof.EqAt
import PyProof.EqKinds
import PyProof.TupleCall
import KE.KSortTup
import KE.KItemsList
import KE.KDictList
import PyProof.AttrMissHeap
import KE.KDictOf
import PyProof.NeKinds
import PyProof.IsiHeapPairs
import PyProof.IsiSeqPairs
import PyProof.SetKind
import PyProof.Rows.SetFrom
import PyProof.DictIter
import PyProof.CollectWalk
import PyProof.DictWalks
import PyProof.FactsAll.subtypes_5
import PyProof.IsiTupleOf
import PyProof.IsiPairs
import PyProof.Draws
import PyProof.EnumMake
import PyProof.WalksMore
import PySem.Challenge.RW_copiedhouse_k32_deeds
open PySem.W (Frag callWith_K codeIn fnOf keepIn kla_fn methodObj mg_none_of mg_of nsIn)
open PyProof.Rows (boot_all boot_isinstance boot_max boot_min boot_sorted callWith_type1)
set_option Elab.async false
set_option linter.all false
set_option maxRecDepth 100000
namespace L2
open PySem PySem.Spec PyProof.Rows
abbrev zA:=Sum Int Str
def sP:zA->Value->Bool
 | .inl k,v=>Value.isInt k v
 | .inr x,v=>Value.isStrOf x v
def zl_ (w:World):zA->Int
 | .inl k=>hashInt k
 | .inr x=>hashStr w x
theorem vO: ∀{k:zA} {v:Value},sP k v=true->(∃i t,k=Sum.inl i/\v=Value.int i t)∨(∃x t,k=Sum.inr x/\v=Value.str x t)
 | .inl i,v,h=>by
  obtain⟨t,e⟩:=Value.isInt_shape (k:=i) (v:=v) h;exact .inl ⟨i,t,rfl,e⟩
 | .inr x,v,h=>by
  obtain⟨t,e⟩:=Value.isStrOf_shape (x:=x) (v:=v) h;exact .inr ⟨x,t,rfl,e⟩
theorem zlA (i:Int)(t:Tok):sP (.inl i) (.int i t)=true:=by simp[sP,Value.isInt]
theorem zlB (x:Str)(t:Tok):sP (.inr x) (.str x t)=true:=by simp[sP,Value.isStrOf]
theorem zlE (a b:Int):decide ((Sum.inl a:zA)=Sum.inl b)=(a==b):=by
 by_cases e:a=b
 ·subst e;simp
 ·have h: ¬ (Sum.inl a:zA)=Sum.inl b:=λq=>e (Sum.inl.inj q)
  rw[decide_eq_false h];exact(beq_eq_false_iff_ne.mpr e).symm
theorem zlH (a b:Str):decide ((Sum.inr a:zA)=Sum.inr b)=decide (a=b):=by
 by_cases e:a=b
 ·subst e;simp
 ·have h: ¬ (Sum.inr a:zA)=Sum.inr b:=λq=>e (Sum.inr.inj q)
  rw[decide_eq_false h,decide_eq_false e]
theorem zlF (a:Int)(b:Str):decide ((Sum.inl a:zA)=Sum.inr b)=false:=decide_eq_false (λq=>nomatch q)
theorem zlG (a:Str)(b:Int):decide ((Sum.inr a:zA)=Sum.inl b)=false:=decide_eq_false (λq=>nomatch q)
def yW (prog:Program)(w:World):PySem.KeyKind prog w zA where
 is:=sP
 hash:=zl_ w
 inj:=λv a b ha hb=>by
  rcases vO ha with⟨i,t,rfl,rfl⟩ | ⟨x,t,rfl,rfl⟩
  ·rcases vO hb with⟨j,u,rfl,e⟩ | ⟨y,u,rfl,e⟩
   ·injection e with e1 _;rw[e1]
   ·exact nomatch e
  ·rcases vO hb with⟨j,u,rfl,e⟩ | ⟨y,u,rfl,e⟩
   ·exact nomatch e
   ·injection e with e1 _;rw[e1]
 byValue:=λk v h=>by
  rcases vO h with⟨i,t,rfl,rfl⟩ | ⟨x,t,rfl,rfl⟩ <;> rfl
 pyHash:=λhv h=>by
  rcases vO hv with⟨i,t,rfl,rfl⟩ | ⟨x,t,rfl,rfl⟩
  ·exact wpAny_pyHash_int h
  ·exact wpAny_pyHash_str h
 eqBool:=λhu hv h=>by
  rcases vO hu with⟨i,t,rfl,rfl⟩ | ⟨x,t,rfl,rfl⟩
  ·rcases vO hv with⟨j,u,rfl,rfl⟩ | ⟨y,u,rfl,rfl⟩
   ·rw[zlE]at h;exact wpAny_eqBool_int h
   ·rw[zlF]at h;exact SeqAt.EqAt.int_str i t y u _ _ _ _ h
  ·rcases vO hv with⟨j,u,rfl,rfl⟩ | ⟨y,u,rfl,rfl⟩
   ·rw[zlG]at h;exact SeqAt.EqAt.str_int x t j u _ _ _ _ h
   ·rw[zlH]at h;exact wpAny_eqBool_str h
 «strs»:=λk x t v h=>by
  rcases vO h with⟨i,u,rfl,e⟩ | ⟨y,u,rfl,e⟩
  ·exact nomatch e
  ·injection e with e1 _
   subst e1;cases v <;> rfl
theorem zmt (prog:Program)(w:World)(i:Int)(t:Tok):(yW prog w).is (.inl i) (.int i t)=true:=zlA i t
theorem zmu (prog:Program)(w:World)(x:Str)(t:Tok):(yW prog w).is (.inr x) (.str x t)=true:=zlB x t
end L2
namespace L2
open PySem PySem.Spec PyProof.Rows
inductive V where
 | non | bl (b:Bool) | int (i:Int) | str (x:Str) | byt (b:Array UInt8) | flt (b:UInt64) | ref (a:Addr) | ty (n:String)
 deriving DecidableEq
def zU:V->Value->Prop
 | .non,u=>u=Value.none
 | .bl b,u=>u=Value.bool b
 | .int i,u=> ∃t,u=Value.int i t
 | .str x,u=> ∃t,u=Value.str x t
 | .byt b,u=> ∃t,u=Value.bytes b t
 | .flt b,u=> ∃t,u=Value.float b t
 | .ref a,u=>u=Value.ref a
 | .ty n,u=>u=Value.type n
abbrev zR:List V->List Value->Prop:=Paired zU
theorem zR.length {xs:List V}{us:List Value}(r:zR xs us):xs.length=us.length:=Paired.length r
theorem zR.get: ∀{xs:List V} {us:List Value} {i:Nat} {x:V},zR xs us->xs[i]?=some x->∃u,us[i]?=some u/\zU x u
 | _,_,_,_,.nil,e=>by simp at e
 | _,_,0,_,.cons r _,e=>by simp at e;subst e;exact⟨_,rfl,r⟩
 | _,_,i+1,x,.cons _ t,e=>by
  obtain⟨u,h1,h2⟩:=zR.get (i:=i) (x:=x) t (by simpa using e);exact⟨u,by simpa using h1,h2⟩
theorem zR.set {x:V}{u:Value}(r:zU x u): ∀{xs:List V} {us:List Value} (i:Nat),zR xs us->zR (xs.set i x) (us.set i u)
 | _,_,_,.nil=> .nil
 | _,_,0,.cons _ t=> .cons r t
 | _,_,i+1,.cons q t=> .cons q (zR.set r i t)
theorem zR.append: ∀{xs ys:List V} {us ws:List Value},zR xs us->zR ys ws->zR (xs++ys) (us++ws)
 | _,_,_,_,.nil,s=>s
 | _,_,_,_,.cons r t,s=> .cons r (zR.append t s)
theorem zR.take: ∀{xs:List V} {us:List Value} (n:Nat),zR xs us->zR (xs.take n) (us.take n)
 | _,_,0,_=> .nil
 | _,_,_+1,.nil=> .nil
 | _,_,n+1,.cons r t=> .cons r (zR.take n t)
theorem zR.drop: ∀{xs:List V} {us:List Value} (n:Nat),zR xs us->zR (xs.drop n) (us.drop n)
 | _,_,0,r=>r
 | _,_,_+1,.nil=> .nil
 | _,_,n+1,.cons _ t=>zR.drop n t
def uM:Option V->Option Value->Prop
 | some v,some u=>zU v u
 | none,none=>True
 | _,_=>False
def KV {κ:Type} :List (κ×V)->List (κ×Value)->Prop:=Paired λ(p:κ×V) (q:κ×Value)=>p.1=q.1/\zU p.2 q.2
def kV:zA->V
 | .inl i=> .int i
 | .inr x=> .str x
inductive HO where
 | lst (xs:List V)
 | tup (xs:List V)
 | dK (kvs:List (zA×V)) | dT (kvs:List (List zA×V))
 | set (S:Int->Bool) (n:Nat)
 | ins (C dx:Addr) (fs:List (Str×V))
 | own (x:Addr)
 | xd (fs:List (Str×V))
 | met (f x:Addr)
 | rng (lo hi:Int)
 | frz (o:Obj) (u:HO)
 | tbl (ps:Array Value)
 | ext (φ:Heap->Prop)
abbrev Hp:=Addr->Option HO
def zQ (H:Hp)(a:Addr)(o:HO):Hp:=λb=>if b=a then some o else H b
theorem xM {H:Hp}{a:Addr}{o:HO} :zQ H a o a=some o:=by unfold zQ;rw[if_pos rfl]
theorem yP {H:Hp}{a b:Addr}{o:HO}(h:b≠a):zQ H a o b=H b:=by unfold zQ;rw[if_neg h]
theorem zmF {H:Hp}{a b:Addr}{o u:HO}(h:H a=some o)(h':H b=some u)(d:o≠u):a≠b:=by
 intro e;subst e;rw[h]at h';exact d (Option.some.inj h')
theorem uA {H:Hp}{a b:Addr}{o:HO}(h:H a=some o)(h':H b=none):a≠b:=by
 intro e;subst e;rw[h]at h';cases h'
def uI (h:Heap)(a:Addr)(items:Array Value):Prop:= ∃o,h.get? a=some o/\o.cls= .type "tuple" /\∃n,o.data= .seq items n/\o.dict=none
theorem uI.tup {h:Heap}{a:Addr}{items:Array Value}(x:uI h a items):IsTup h a items:=let⟨o,e,c,n,d,_⟩:=x;⟨o,e,c,n,d⟩
theorem uI.lt {h:Heap}{a:Addr}{items:Array Value}(x:uI h a items):a < h.objs.size:=let⟨_,e,_⟩:=x;Heap.lt_size e
theorem uI.new (h:Heap)(items:Array Value):uI (h.push {cls:= .type "tuple",data:= .seq items}) h.objs.size items:=⟨_,Heap.get?_push_size _ rfl,rfl,_,rfl,rfl⟩
section
variable (P:Program) (w:World)
def xX (H:Hp)(h:Heap)(a:Addr):HO->Prop
 | .lst xs=>xs.length<=sizeLine/\∃(its:List Value) (n:Nat),zR xs its/\h.get? a=some {cls:= .type "list",data:= .seq its.toArray n}
 | .tup xs=>xs.length<=sizeLine/\∃its:List Value,zR xs its/\uI h a its.toArray
 | .dK kvs=>kvs.length<=sizeLine/\(a==sysModules)=false/\∃vs,KV kvs vs/\h.DictOf (yW P w) a vs
 | .dT kvs=>kvs.length<=sizeLine/\(a==sysModules)=false/\∃xs:List (List zA×Addr×Value),
   Paired (λ(p:List zA×V) (q:List zA×Addr×Value)=>p.1=q.1/\H q.2.1=some (.tup (p.1.map kV))/\zU p.2 q.2.2) kvs xs/\
   ∃o es ep,h.get? a=some o/\o.ExactDict/\o.data= .dict es ep/\es.toList=xs.map (entryOfKey (tupleKind (yW P w)))/\(xs.map (·.1)).Nodup
 | .set S n=>h.SetOf (intKind P w) a S n
 | .ins C dx fs=>H dx=some (.own a)/\fs.length<=1000/\dx≠a/\h.get? a=some (PySem.W.instObj C dx)/\
   ∃mA,h.Ns1 dx mA/\(∀f,uM (fs.lookup f) (mA f))/\PySem.Within mA (fs.map (·.1))
 | .own _=> ∃o,h.get? a=some o
 | .xd fs=> ∃mA,h.Ns1 a mA/\∀f,uM (fs.lookup f) (mA f)
 | .rng lo hi=> ∃t u v,h.get? a=some {cls:= .type "range",data:= .fields #[.int lo t,.int hi u,.int 1 v]}
 | .frz o u=>h.get? a=some o/\xX H h a u
 | .tbl ps=>h.get? a=some {cls:= .none,data:= .fields ps}
 | .met f x=>h.get? a=some (methodObj (.ref f) (.ref x))
 | .ext φ=>φ h/\(∃o,h.get? a=some o)/\∀h1 h2:Heap,φ h1->(∀o,h1.get? a=some o->h2.get? a=some o)->φ h2
def xC (H:Hp)(h:Heap):Prop:= ∀a o,H a=some o->xX P w H h a o
end
section
variable {P:Program} {w:World} {H H':Hp} {h h':Heap} {a:Addr} {o:HO}
theorem xX.lt (x:xX P w H h a o):a < h.objs.size:=by
 cases o with
 | lst xs=>obtain⟨_,_,_,_,e⟩:=x;exact Heap.lt_size e
 | tup xs=>obtain⟨_,_,_,p⟩:=x;exact p.lt
 | dK kvs=>obtain⟨_,_,_,_,o,_,_,e,_⟩:=x;exact Heap.lt_size e
 | dT kvs=>obtain⟨_,_,_,_,o,_,_,e,_⟩:=x;exact Heap.lt_size e
 | set S n=>obtain⟨o,_,_,_,e,_⟩:=x;exact Heap.lt_size e
 | ins C dx fs=>obtain⟨_,_,_,e,_⟩:=x;exact Heap.lt_size e
 | own y=>obtain⟨_,e⟩:=x;exact Heap.lt_size e
 | xd fs=>obtain⟨_,⟨_,_,_,e,_⟩,_⟩:=x;exact Heap.lt_size e
 | rng lo hi=>obtain⟨_,_,_,e⟩:=x;exact Heap.lt_size e
 | frz ob u=>obtain⟨e,_⟩:=x;exact Heap.lt_size e
 | tbl ps=>exact Heap.lt_size (show h.get? a=some _ from x)
 | met f y=>exact Heap.lt_size (show h.get? a=some _ from x)
 | ext φ=>obtain⟨_,⟨_,e⟩,_⟩:=x;exact Heap.lt_size e
theorem Paired.mapP {α β:Type}{F G:α->β->Prop} : ∀{l₁:List α} {l₂:List β},Paired F l₁ l₂->(∀a b,F a b->G a b)->Paired G l₁ l₂
 | _,_,.nil,_=> .nil
 | _,_,.cons r t,f=> .cons (f _ _ r) (Paired.mapP t f)
theorem xX.stay (x:xX P w H h a o)(k: ∀b u,(b=a∨H b=some (.own a))->h.get? b=some u->h'.get? b=some u)
  (ho: ∀b,H b=some (.own a)->H' b=some (.own a)) (ht: ∀b xs,H b=some (.tup xs)->H' b=some (.tup xs)):xX P w H' h' a o:=by
 induction o with
 | lst xs=>obtain⟨z,its,n,r,e⟩:=x;exact⟨z,its,n,r,k _ _ (.inl rfl) e⟩
 | tup xs=>obtain⟨z,its,r,ob,e,c⟩:=x;exact⟨z,its,r,ob,k _ _ (.inl rfl) e,c⟩
 | dK kvs=>obtain⟨z,y,vs,r,ob,es,ep,e,c⟩:=x;exact⟨z,y,vs,r,ob,es,ep,k _ _ (.inl rfl) e,c⟩
 | dT kvs=>
  obtain⟨z,y,xs,r,ob,es,ep,e,c⟩:=x;exact⟨z,y,xs,Paired.mapP r λp q z=>⟨z.1,ht _ _ z.2.1,z.2.2⟩,ob,es,ep,k _ _ (.inl rfl) e,c⟩
 | set S n=>obtain⟨ob,es,ep,t,e,c⟩:=x;exact⟨ob,es,ep,t,k _ _ (.inl rfl) e,c⟩
 | ins C dx fs=>
  obtain⟨d,z,ne,e,mA,⟨od,es,ep,e2,c⟩,r⟩:=x;exact⟨ho _ d,z,ne,k _ _ (.inl rfl) e,mA,⟨od,es,ep,k _ _ (.inr d) e2,c⟩,r⟩
 | own y=>obtain⟨ob,e⟩:=x;exact⟨ob,k _ _ (.inl rfl) e⟩
 | xd fs=>obtain⟨mA,⟨od,es,ep,e,c⟩,r⟩:=x;exact⟨mA,⟨od,es,ep,k _ _ (.inl rfl) e,c⟩,r⟩
 | rng lo hi=>obtain⟨t,u,v,e⟩:=x;exact⟨t,u,v,k _ _ (.inl rfl) e⟩
 | frz ob u ih=>obtain⟨e,q⟩:=x;exact⟨k _ _ (.inl rfl) e,ih q⟩
 | tbl ps=>
  have e:h.get? a=some {cls:= .none,data:= .fields ps} :=x;show h'.get? a=some {cls:= .none,data:= .fields ps};exact k a _ (.inl rfl) e
 | met f y=>
  have e:h.get? a=some (methodObj (.ref f) (.ref y)):=x;show h'.get? a=some (methodObj (.ref f) (.ref y));exact k a _ (.inl rfl) e
 | ext φ=>obtain⟨p,⟨o,e⟩,st⟩:=x;exact⟨st _ _ p λo q=>k _ _ (.inl rfl) q,⟨o,k _ _ (.inl rfl) e⟩,st⟩
theorem xC.lt (x:xC P w H h)(e:H a=some o):a < h.objs.size:=(x a o e).lt
theorem xC.fresh (x:xC P w H h)(e:h.objs.size<=a):H a=none:=by
 cases q:H a with
 | none=>rfl
 | some u=>exact absurd (Nat.lt_of_lt_of_le (x.lt q) e) (Nat.lt_irrefl _)
theorem xC.kept (x:xC P w H h)(k: ∀b u,h.get? b=some u->h'.get? b=some u):xC P w H h':=λa o e=>
 (x a o e).stay (λb u _ q=>k b u q) (λ_ q=>q) λ_ _ q=>q
theorem xC.laid (x:xC P w H h)(k: ∀b u,h.get? b=some u->h'.get? b=some u)(hp:h.objs.size<=a)(new:xX P w (zQ H a o) h' a o):xC P w (zQ H a o) h':=λb u e=>by
 have hn:=x.fresh hp;by_cases hb:b=a
 ·subst hb;rw[xM]at e;cases e;exact new
 ·rw[yP hb]at e
  exact(x b u e).stay (λc v _ q=>k c v q) (λc q=>by rw[yP (uA q hn)];exact q) λc xs q=>by rw[yP (uA q hn)];exact q
end
def Rd (H:Hp)(a:Addr)(u:HO):Prop:=H a=some u∨∃o,H a=some (.frz o u)
theorem Rd.ok {P:Program}{w:World}{H:Hp}{h:Heap}{a:Addr}{u:HO}(r:Rd H a u)(x:xC P w H h):xX P w H h a u:=by
 rcases r with r | ⟨o,r⟩
 ·exact x a u r
 ·obtain⟨_,q⟩:=x a _ r
  exact q
def lO:Option HO->Prop
 | some (.lst _)=>True
 | some (.dK _)=>True
 | some (.dT _)=>True
 | some (.set _ _)=>True
 | some (.ins _ _ _)=>True
 | some (.ext _)=>True
 | _=>False
section
variable {P:Program} {w:World} {H:Hp} {h h':Heap} {x e:Addr} {o':HO}
theorem xC.write (ok:xC P w H h)(mu:lO (H x))(he:e=x∨H e=some (.own x))(k: ∀b u,b≠e->h.get? b=some u->h'.get? b=some u)(heo: ∃u,h'.get? e=some u)
  (new:xX P w (zQ H x o') h' x o'):xC P w (zQ H x o') h':=λb u q=>by
 have nown: ∀c y,H c=some (.own y)->c≠x:=λc y r z=>by subst z;rw[r]at mu;exact mu
 have ntup: ∀c xs,H c=some (.tup xs)->c≠x:=λc xs r z=>by subst z;rw[r]at mu;exact mu
 by_cases hb:b=x
 ·subst hb;rw[xM]at q;cases q;exact new
 ·rw[yP hb]at q
  by_cases hbe:b=e
  ·have q':H b=some (.own x):=by
    rcases he with z | z
    ·exact absurd (hbe.trans z) hb
    ·rw[hbe];exact z
   rw[q]at q';cases q';obtain⟨v,hv⟩:=heo;exact⟨v,by rw[hbe];exact hv⟩
  ·refine(ok b u q).stay (λc v hc r=>k c v ?_ r) (λc r=>by rw[yP (nown c b r)];exact r) λc xs r=>by rw[yP (ntup c xs r)];exact r
   rcases hc with rfl | hc
   ·exact hbe
   ·rintro rfl
    rcases he with z | z
    ·exact nown c b hc z
    ·rw[hc]at z;cases z;exact hb rfl
end
structure Un (fs ex:List Addr)(H H':Hp)(h h':Heap):Prop where
 keep: ∀b o,h.get? b=some o->H b=none->b∉fs->b∉ex->h'.get? b=some o
 slot: ∀b o,h.get? b=some o->H b=none->b∈fs->b∉ex->∃sl,h'.get? b=some {o with slots:=sl}
 free: ∀b o,h.get? b=some o->H b=none->b∉ex->H' b=none
 there: ∀b o,h.get? b=some o->b∉ex->∃o',h'.get? b=some o'
 tups: ∀b xs,H b=some (.tup xs)->H' b=some (.tup xs)
 frzs: ∀b o u,H b=some (.frz o u)->H' b=some (.frz o u)
 tbls: ∀b ps,H b=some (.tbl ps)->∃more,H' b=some (.tbl (ps++more))
section
variable {fs fs' ex ex':List Addr} {H H1 H2:Hp} {h h1 h2 h':Heap} {a x e:Addr} {o:HO}
theorem Un.any (u:Un fs ex H H1 h h1){b:Addr}{ob:Obj}(q:h.get? b=some ob)(n:H b=none)(hx:b∉ex): ∃sl,h1.get? b=some {ob with slots:=sl} :=by
 by_cases hb:b∈fs
 ·exact u.slot b ob q n hb hx
 ·exact⟨ob.slots,u.keep b ob q n hb hx⟩
theorem Un.kept (k: ∀b u,h.get? b=some u->h'.get? b=some u):Un fs ex H H h h':=
 ⟨λb ob q _ _ _=>k b ob q,λb ob q _ _ _=>⟨ob.slots,k b ob q⟩,λ_ _ _ n _=>n,λb ob q _=>⟨ob,k b ob q⟩,λ_ _ q=>q,λ_ _ _ q=>q,λ_ ps q=>⟨#[],by rw[q];simp⟩⟩
theorem Un.refl:Un fs ex H H h h:=Un.kept λ_ _ q=>q
theorem Un.laid (k: ∀b u,h.get? b=some u->h'.get? b=some u)(hp:h.objs.size<=a)(hn:H a=none):Un fs ex H (zQ H a o) h h' where
 keep:=λb u q _ _ _=>k b u q
 slot:=λb u q _ _ _=>⟨u.slots,k b u q⟩
 free:=λb u q n _=>by rw[yP (Nat.ne_of_lt (Nat.lt_of_lt_of_le (Heap.lt_size q) hp))];exact n
 there:=λb u q _=>⟨u,k b u q⟩
 tups:=λb xs q=>by rw[yP (uA q hn)];exact q
 frzs:=λb u xs q=>by rw[yP (uA q hn)];exact q
 tbls:=λb ps q=>⟨#[],by rw[yP (uA q hn),q];simp⟩
theorem Un.write (mu:lO (H x))(he:e=x∨H e=some (.own x))(k: ∀b u,b≠e->h.get? b=some u->h'.get? b=some u)(heo: ∃u,h'.get? e=some u):Un fs ex H (zQ H x o) h h':=by
 have hx: ∀b,H b=none->b≠x:=λb n z=>by subst z;rw[n]at mu;exact mu
 have hb: ∀b,H b=none->b≠e:=λb n z=>by
  subst z;rcases he with r | r
  ·exact hx b n r
  ·rw[n]at r;cases r
 have hm: ∀b u,H b=some u->¬ lO (some u)->b≠x:=λb u q nm z=>by subst z;rw[q]at mu;exact nm mu
 refine⟨λb u q n _ _=>k b u (hb b n) q,λb u q n _ _=>⟨u.slots,k b u (hb b n) q⟩,λb u q n _=>by rw[yP (hx b n)];exact n,λb u q _=> ?_,
  λb xs q=>by rw[yP (hm b _ q λz=>z)];exact q,λb u xs q=>by rw[yP (hm b _ q λz=>z)];exact q,λb ps q=>⟨#[],by rw[yP (hm b _ q λz=>z),q];simp⟩⟩
 by_cases hbe:b=e
 ·subst hbe;exact heo
 ·exact⟨u,k b u hbe q⟩
end
def vJ (h:Heap)(H:Hp):List Addr:=(List.range h.objs.size).filter λa=>(H a).isSome
def sN (h:Heap)(H:Hp):Heap:=PySem.W.hideAll h (vJ h H)
theorem zlg (h:Heap)(H:Hp):(sN h H).objs.size=h.objs.size:=PySem.W.hideAll_size _ _
theorem zlf {h:Heap}{H:Hp}{b:Addr}{o:Obj}(e:h.get? b=some o)(n:H b=none):(sN h H).get? b=some o:=
 PySem.W.hideAll_get _ e λhm=>by
  have q:(H b).isSome=true:=(List.mem_filter.mp hm).2;rw[n]at q;simp at q
theorem zmV {h:Heap}{H:Hp}{b:Addr}{o:Obj}(e:(sN h H).get? b=some o):h.get? b=some o/\H b=none:=by
 have e':h.get? b=some o:=PySem.W.of_hideAll (vJ h H) e;refine⟨e',?_⟩;cases q:H b with
 | none=>rfl
 | some x=>
  have hm:b∈vJ h H:=List.mem_filter.mpr ⟨List.mem_range.mpr (Heap.lt_size e'),by simp[q]⟩;have z:(sN h H).get? b=none:=PySem.W.hideAll_none (vJ h H) hm;rw[z]at e;cases e
def ziT (g h:Heap)(L:Addr):List (Addr×Obj):=(List.range h.objs.size).filterMap λa=>if a=L∨(g.get? a).isSome=true then none else(h.get? a).map λo=>(a,o)
def zB (g h:Heap)(L d:Addr):List (Addr×Obj):=(ziT g h L).filter λp=>decide (p.1≠d)
end L2
namespace L2
open PySem PySem.Spec PyProof.Rows
structure Mod (K:Frag)(mg:Str->Option Value)(base:Heap):Prop where
 kin:K.In base
 glob:base.Ns mainGlobals mg
 blt: ∃mb,base.Ns builtinsNs mb/\∀x:Str,x≠ "__name__" ->mb x=bootBuiltins x
 nolimit:base.NoLimit
structure Cx where
 prog:Program
 w:World
 K:Frag
 mg:Str->Option Value
 base:Heap
 A:Around
 N:List Str
 s₀:Shared
 H₀:Hp
 env:Env
 outer:List Env
 stack:List Env
 ex:List Addr
 fn:Str->Bool
 calm:Bool
 pn:List (Addr×Obj)
 xe:Value->Shared->Prop
def wM (l:List Env):List Addr:=l.filterMap (·.frame)
abbrev Cx.fs (X:Cx):List Addr:=wM X.outer
def lW (sc:Scope)(x:Str):Prop:=sc.names.lookup x=some .local∨sc.names.lookup x=some .cell∨sc.names.lookup x=some .free
def rR (sc:Scope)(x:Str):Prop:=sc.names.lookup x=some .local∨sc.names.lookup x=some .cell
def ziK (env:Env)(h:Heap)(m:Str->Option Value)(x:Str)(u:Value):Prop:=
 (env.kindOf x=some .local/\m x=some u)∨((env.kindOf x=some .cell∨env.kindOf x=some .free)/\∃c,env.cells.lookup x=some c/\h.IsCell c (some u))
structure Cx.Ok (X:Cx):Prop where
 mod:Mod X.K X.mg X.base
 kind:X.env.scope.kind= .function
 glob:X.env.globals=mainGlobals
 blt:X.env.builtins=builtinsNs
 above:X.s₀.heap.objs.size<=X.env.locals
 inj: ∀x y c,X.env.cells.lookup x=some c->X.env.cells.lookup y=some c->x=y
 has: ∀x,(X.env.kindOf x=some .cell∨X.env.kindOf x=some .free)->∃c,X.env.cells.lookup x=some c
 cab: ∀x c,X.fn x=true->X.env.cells.lookup x=some c->X.s₀.heap.objs.size<=c
 hd:X.calm=true->X.A.handled=none
 frames:X.A.frames=some X.stack
 stk:X.stack=X.outer∨(X.stack=X.env::X.outer/\X.env.frame=some X.env.locals)
 exf: ∀b∈X.ex,b≠X.env.locals/\∀x c,X.env.cells.lookup x=some c->c≠b
 bs: ∀b o,X.base.get? b=some o->X.s₀.heap.get? b=some o/\X.H₀ b=none
 bsz:X.base.objs.size<=X.s₀.heap.objs.size
 noex: ∀b o,X.base.get? b=some o->b∉X.ex
 exfs: ∀b∈X.ex,b∉X.fs
 funs:X.s₀.heap.FunFrames X.base X.outer
 frf: ∀b∈X.fs,X.H₀ b=none
structure z5 (X:Cx)(pins:List (Addr×Obj))(σ:List (Option V))(H:Hp)(s:Shared):Prop where
 ok:X.Ok
 os:s.os=X.s₀.os
 bare:AllBare s.gens
 base:Un X.fs X.ex X.H₀ H X.s₀.heap s.heap
 loc: ∃m,s.heap.Ns X.env.locals m/\∀(i:Nat) (x:Str) (v:V),X.N[i]?=some x->σ[i]?=some (some v)->lW X.env.scope x->∃u,zU v u/\ziK X.env s.heap m x u
 cell: ∀x c,X.env.cells.lookup x=some c->∃v,s.heap.IsCell c v
 free:H X.env.locals=none
 freeC: ∀x c,X.env.cells.lookup x=some c->H c=none
 pin: ∀p∈X.pn++pins,s.heap.get? p.1=some p.2/\H p.1=none/\p.1≠X.env.locals/\p.1∉X.fs/\∀v,p.2.data≠ .cell v
 hok:xC X.prog X.w H s.heap
 len:σ.length=X.N.length
section
variable {X:Cx} {pins:List (Addr×Obj)} {σ:List (Option V)} {H H':Hp} {s:Shared} {h':Heap}
theorem Cx.Ok.nofr (ok:X.Ok){b:Addr}{o:Obj}(e:X.base.get? b=some o):b∉X.fs:=λhb=>by
 have:=(ok.funs.mem hb).1;rw[e]at this;cases this
theorem z5.bs (I:z5 X pins σ H s): ∀b o,X.base.get? b=some o->s.heap.get? b=some o/\H b=none:=λb o e=>
 ⟨I.base.keep b o (I.ok.bs b o e).1 (I.ok.bs b o e).2 (I.ok.nofr e) (I.ok.noex b o e),I.base.free b o (I.ok.bs b o e).1 (I.ok.bs b o e).2 (I.ok.noex b o e)⟩
theorem z5.bk (I:z5 X pins σ H s): ∀b o,X.base.get? b=some o->s.heap.get? b=some o:=λb o e=>(I.bs b o e).1
theorem z5.mod (I:z5 X pins σ H s):Mod X.K X.mg X.base:=I.ok.mod
theorem z5.kIn (I:z5 X pins σ H s):X.K.In s.heap:=I.ok.mod.kin.keeps I.bk
theorem z5.lt (I:z5 X pins σ H s):X.env.locals < s.heap.objs.size:=let⟨_,hn,_⟩:=I.loc;hn.lt
theorem z5.sz (I:z5 X pins σ H s):X.s₀.heap.objs.size<=s.heap.objs.size:=Nat.le_trans I.ok.above (Nat.le_of_lt I.lt)
theorem z5.nofs (I:z5 X pins σ H s){a:Addr}(h:s.heap.objs.size<=a):a∉X.fs:=λhb=>by
 obtain⟨_,o,ho,_⟩:=I.ok.funs.mem hb;exact absurd (Nat.lt_of_lt_of_le (Heap.lt_size ho) (Nat.le_trans I.sz h)) (Nat.lt_irrefl _)
theorem z5.cne (I:z5 X pins σ H s): ∀x c,X.env.cells.lookup x=some c->c≠X.env.locals:=λx c e z=>by
 obtain⟨v,o,ho,hd⟩:=I.cell x c e;obtain⟨m,⟨o',es,ep,ho',hd',_⟩,_⟩:=I.loc;rw[z,ho']at ho;cases ho;rw[hd']at hd;cases hd
theorem z5.funs (I:z5 X pins σ H s):s.heap.FunFrames X.base X.outer:=by
 have all: ∀(l:List Env),(∀b∈wM l,b∈X.fs)->X.s₀.heap.FunFrames X.base l->s.heap.FunFrames X.base l:=by
  intro l
  induction l with
  | nil=>intro _ _;trivial
  | cons env r ih=>
   intro hs hl;obtain⟨hk,⟨L,o,hf,hn,ho,hd⟩,hr⟩:=hl;have hL:L∈X.fs:=hs L (by unfold wM;rw[List.filterMap_cons,hf];exact List.mem_cons_self);obtain⟨sl,e⟩:=I.base.slot L o ho (I.ok.frf L hL) hL λz=>I.ok.exfs L z hL;exact⟨hk,⟨L,_,hf,hn,e,hd⟩,ih (λb hb=>hs b (by unfold wM;rw[List.filterMap_cons,hf];exact List.mem_cons_of_mem _ hb)) hr⟩
 exact all X.outer (λ_ hb=>hb) I.ok.funs
theorem z5.stack (I:z5 X pins σ H s):s.heap.FunFrames X.base X.stack:=by
 rcases I.ok.stk with e | ⟨e,hf⟩
 ·rw[e];exact I.funs
 ·rw[e]
  obtain⟨m,hn,_⟩:=I.loc;refine .cons (by rw[I.ok.kind];decide) hf hn ?_ I.funs;exact Heap.get?_none_of_le (Nat.le_trans I.ok.bsz I.ok.above)
theorem z5.stkSub (I:z5 X pins σ H s): ∀b∈wM X.stack,b∈X.env.locals::X.fs:=λb hb=>by
 rcases I.ok.stk with e | ⟨e,hf⟩
 ·rw[e]at hb;exact List.mem_cons_of_mem _ hb
 ·rw[e]at hb
  unfold wM at hb;rw[List.filterMap_cons,hf]at hb;exact hb
theorem z5.stkFree (I:z5 X pins σ H s): ∀b∈wM X.stack,H b=none:=λb hb=>by
 rcases List.mem_cons.mp (I.stkSub b hb)with e | hb
 ·rw[e];exact I.free
 ·obtain⟨_,o,ho,_⟩:=I.ok.funs.mem hb
  exact I.base.free b o ho (I.ok.frf b hb) λz=>I.ok.exfs b z hb
theorem z5.step {g':Array GenState}{t':Nat}{d':Drawn}{ch:List Addr}(I:z5 X pins σ H s)
  (hch: ∀b∈ch,(b∈X.ex∨X.s₀.heap.objs.size<=b)/\b≠X.env.locals/\(∀x c,X.env.cells.lookup x=some c->c≠b)/\∀p∈X.pn++pins,p.1≠b)
  (keep: ∀b o,b≠X.env.locals->b∉X.fs->b∉ch->s.heap.get? b=some o->H b=none->h'.get? b=some o)
  (slot: ∀b o,b≠X.env.locals->b∈X.fs->b∉ch->s.heap.get? b=some o->H b=none->∃sl,h'.get? b=some {o with slots:=sl}) (free: ∀b o,b∉ch->s.heap.get? b=some o->H b=none->H' b=none)
  (there: ∀b o,b∉ch->s.heap.get? b=some o->∃o',h'.get? b=some o')
  (tups: ∀b xs,H b=some (.tup xs)->H' b=some (.tup xs)) (frzs: ∀b o u,H b=some (.frz o u)->H' b=some (.frz o u)) (tbls: ∀b ps,H b=some (.tbl ps)->∃more,H' b=some (.tbl (ps++more)))
  (ns: ∀m,s.heap.Ns X.env.locals m->h'.Ns X.env.locals m) (hok:xC X.prog X.w H' h') (hg:AllBare g'):
  z5 X pins σ H' {s with heap:=h',gens:=g',drawn:=d',toks:=t'} :=by
 have neL: ∀b o,X.s₀.heap.get? b=some o->b≠X.env.locals:=λb o e=>Nat.ne_of_lt (Nat.lt_of_lt_of_le (Heap.lt_size e) I.ok.above);have neC: ∀b o,X.s₀.heap.get? b=some o->b∉X.ex->b∉ch:=λb o e hx hb=>by
  rcases(hch b hb).1 with z | z
  ·exact hx z
  ·exact absurd (Nat.lt_of_lt_of_le (Heap.lt_size e) z) (Nat.lt_irrefl _)
 have cellK: ∀x c,X.env.cells.lookup x=some c->∀v,s.heap.IsCell c v->h'.IsCell c v:=λx c e v ⟨o,ho,hd⟩=>by
  have nch:c∉ch:=λz=>(hch c z).2.2.1 x c e rfl;by_cases hc:c∈X.fs
  ·obtain⟨sl,q⟩:=slot c o (I.cne x c e) hc nch ho (I.freeC x c e)
   exact⟨_,q,hd⟩
  ·exact⟨o,keep c o (I.cne x c e) hc nch ho (I.freeC x c e),hd⟩
 refine⟨I.ok,I.os,hg,⟨λb o e n hb hx=> ?_,λb o e n hb hx=> ?_,λb o e n hx=> ?_,λb o e hx=> ?_,λb xs e=>tups b xs (I.base.tups b xs e),λb o xs e=>frzs b o xs (I.base.frzs b o xs e),λb ps e=> ?_⟩,?_,λx c e=> ?_,?_,λx c e=> ?_,λp hp=> ?_,hok,I.len⟩
 ·exact keep b o (neL b o e) hb (neC b o e hx) (I.base.keep b o e n hb hx) (I.base.free b o e n hx)
 ·obtain⟨sl,e1⟩:=I.base.slot b o e n hb hx
  obtain⟨sl',e2⟩:=slot b _ (neL b o e) hb (neC b o e hx) e1 (I.base.free b o e n hx);exact⟨sl',e2⟩
 ·obtain⟨o',e1⟩:=I.base.there b o e hx
  exact free b o' (neC b o e hx) e1 (I.base.free b o e n hx)
 ·obtain⟨o',e1⟩:=I.base.there b o e hx
  exact there b o' (neC b o e hx) e1
 ·obtain⟨m1,e1⟩:=I.base.tbls b ps e
  obtain⟨m2,e2⟩:=tbls b _ e1;exact⟨m1++m2,by rw[e2,Array.append_assoc]⟩
 ·obtain⟨m,hn,hl⟩:=I.loc
  refine⟨m,ns m hn,λi x v e1 e2 e3=> ?_⟩;obtain⟨u,r,l⟩:=hl i x v e1 e2 e3;refine⟨u,r,?_⟩;rcases l with l | ⟨k,c,e,z⟩
  ·exact .inl l
  ·exact .inr ⟨k,c,e,cellK x c e _ z⟩
 ·obtain⟨v,z⟩:=I.cell x c e
  exact⟨v,cellK x c e v z⟩
 ·obtain⟨m,⟨o,_,_,ho,_⟩,_⟩:=I.loc
  exact free _ o (λz=>(hch _ z).2.1 rfl) ho I.free
 ·obtain⟨v,o,ho,hd⟩:=I.cell x c e
  exact free c o (λz=>(hch c z).2.2.1 x c e rfl) ho (I.freeC x c e)
 ·obtain⟨e,n,ne,nf,d⟩:=I.pin p hp
  have nch:p.1∉ch:=λz=>(hch p.1 z).2.2.2 p hp rfl;exact⟨keep p.1 p.2 ne nf nch e n,free p.1 p.2 nch e n,ne,nf,d⟩
theorem z5.un {t':Nat}(I:z5 X pins σ H s)(u:Un X.fs [] H H' s.heap h')(hok:xC X.prog X.w H' h'):z5 X pins σ H' {s with heap:=h',toks:=t'} :=by
 obtain⟨m,⟨o,es,ep,ho,r⟩,_⟩:=id I.loc;obtain⟨sl,hL⟩:=u.any ho I.free (by simp);exact I.step (g':=s.gens) (d':=s.drawn) (ch:= []) (λ_ z=>nomatch z) (λb o _ hb _ e n=>u.keep b o e n hb (by simp)) (λb o _ hb _ e n=>u.slot b o e n hb (by simp)) (λb o _ e n=>u.free b o e n (by simp)) (λb o _ e=>u.there b o e (by simp)) u.tups u.frzs u.tbls (λm' hm=>by
  obtain⟨o',es',ep',ho',r'⟩:=hm;rw[ho]at ho';cases ho';exact⟨_,es',ep',hL,r'⟩) hok I.bare
theorem z5.call {g':Array GenState}{t':Nat}{d':Drawn}{ch:List Addr}(I:z5 X pins σ H s)(u:Un (wM X.stack) ch H H' s.heap h')(hok:xC X.prog X.w H' h')(hg:AllBare g')
  (hch: ∀b∈ch,(b∈X.ex∨X.s₀.heap.objs.size<=b)/\b≠X.env.locals/\(∀x c,X.env.cells.lookup x=some c->c≠b)/\∀p∈X.pn++pins,p.1≠b):
  z5 X pins σ H' {s with heap:=h',gens:=g',drawn:=d',toks:=t'} :=by
 obtain⟨m,⟨o,es,ep,ho,r⟩,_⟩:=id I.loc;obtain⟨sl,hL⟩:=u.any ho I.free λz=>(hch _ z).2.1 rfl;exact I.step (ch:=ch) hch (λb o hL hb hc e n=>u.keep b o e n (λz=>(List.mem_cons.mp (I.stkSub b z)).elim hL hb) hc) (λb o _ _ hc e n=>u.any e n hc) (λb o hc e n=>u.free b o e n hc) (λb o hc e=>u.there b o e hc) u.tups u.frzs u.tbls (λm' hm=>by
  obtain⟨o',es',ep',ho',r'⟩:=hm;rw[ho]at ho';cases ho';exact⟨_,es',ep',hL,r'⟩) hok hg
theorem z5.turned {t':Nat}{it:Addr}(I:z5 X pins σ H s)(k: ∀b o,b≠it->s.heap.get? b=some o->h'.get? b=some o)(hn:H it=none)(hL:it≠X.env.locals)
  (h1:it∈X.ex∨X.s₀.heap.objs.size<=it) (h2: ∀x c,X.env.cells.lookup x=some c->c≠it) (h3: ∀p∈X.pn++pins,p.1≠it):z5 X pins σ H {s with heap:=h',toks:=t'} :=by
 have nit: ∀b u,H b=some u->b≠it:=λb u e z=>by rw[z,hn]at e;cases e
 refine I.step (g':=s.gens) (d':=s.drawn) (ch:= [it]) (λb hb=> ?_) (λb o _ _ hc e _=>k b o (λz=>hc (by simp[z])) e) (λb o _ _ hc e _=>⟨o.slots,k b o (λz=>hc (by simp[z])) e⟩) (λ_ _ _ _ n=>n)
  (λb o hc e=>⟨o,k b o (λz=>hc (by simp[z])) e⟩) (λ_ _ e=>e) (λ_ _ _ e=>e) (λb ps e=>⟨#[],by rw[e];simp⟩) (λm hm=> ?_) (λb u e=> ?_) I.bare
 ·have e:b=it:=by simpa using hb
  subst e;exact⟨h1,hL,h2,h3⟩
 ·obtain⟨o,es,ep,ho,r⟩:=hm
  exact⟨o,es,ep,k _ o (Ne.symm hL) ho,r⟩
 ·refine(I.hok b u e).stay (λc v hc q=>k c v ?_ q) (λ_ q=>q) λ_ _ q=>q
  rcases hc with z | z
  ·rw[z];exact nit b u e
  ·exact nit c _ z
theorem z5.tok (I:z5 X pins σ H s)(t:Nat):z5 X pins σ H {s with toks:=t} :=I.un (h':=s.heap) (t':=t) Un.refl I.hok
theorem z5.kept {t':Nat}(I:z5 X pins σ H s)(k: ∀b u,s.heap.get? b=some u->h'.get? b=some u):z5 X pins σ H {s with heap:=h',toks:=t'} :=I.un (Un.kept k) (I.hok.kept k)
theorem z5.laid {a:Addr}{o:HO}{t':Nat}(I:z5 X pins σ H s)(k: ∀b u,s.heap.get? b=some u->h'.get? b=some u)(hp:s.heap.objs.size<=a)(new:xX X.prog X.w (zQ H a o) h' a o):
  z5 X pins σ (zQ H a o) {s with heap:=h',toks:=t'} :=I.un (Un.laid k hp (I.hok.fresh hp)) (I.hok.laid k hp new)
theorem z5.write {x e:Addr}{o:HO}{t':Nat}(I:z5 X pins σ H s)(mu:lO (H x))(he:e=x∨H e=some (.own x))(k: ∀b u,b≠e->s.heap.get? b=some u->h'.get? b=some u)(heo: ∃u,h'.get? e=some u)
  (new:xX X.prog X.w (zQ H x o) h' x o):z5 X pins σ (zQ H x o) {s with heap:=h',toks:=t'} :=I.un (Un.write mu he k heo) (I.hok.write mu he k heo new)
theorem z5.pins_of {pins':List (Addr×Obj)}(I:z5 X pins σ H s)(h: ∀p∈pins',s.heap.get? p.1=some p.2/\H p.1=none/\p.1≠X.env.locals/\p.1∉X.fs/\∀v,p.2.data≠ .cell v):z5 X pins' σ H s:=
 ⟨I.ok,I.os,I.bare,I.base,I.loc,I.cell,I.free,I.freeC,λp hp=>(List.mem_append.mp hp).elim (λz=>I.pin p (List.mem_append_left _ z)) (h p),I.hok,I.len⟩
theorem zfD {N:List Str}(hN:N.Nodup){i j:Nat}{x:Str}(a:N[i]?=some x)(b:N[j]?=some x):i=j:=by
 obtain⟨h1,e1⟩:=List.getElem?_eq_some_iff.mp a;obtain⟨h2,e2⟩:=List.getElem?_eq_some_iff.mp b;exact(List.getElem_inj hN).mp (e1.trans e2.symm)
theorem zh3 {M:Model}{A:Around}{E:Value->Shared->Prop}{i:Nat}{x:Str}{v:V}{u:Value}{Q:Unit->Shared->Prop}(I:z5 X pins σ H s)(hN:X.N.Nodup)(hi:X.N[i]?=some x)(hx:rR X.env.scope x)(r:zU v u)
  (h: ∀s',z5 X pins (σ.set i (some v)) H s'->(∃a,Heap.SameBut a s.heap s'.heap/\(a=X.env.locals∨X.env.cells.lookup x=some a))->Q () s') (hf:X.fn x=true∨X.env.scope.names.lookup x=some .local:=by first | exact .inl rfl | exact .inr rfl | assumption):wpAny M A (storeName X.env x u) Q E s:=by
 obtain⟨m,hn,hl⟩:=id I.loc;have hcls:(X.env.scope.kind== .class||(X.env.scope.kind== .module&&X.env.locals !=X.env.globals))=false:=by rw[I.ok.kind];rfl
 have hiσ:i < σ.length:=by rw[I.len];exact(List.getElem?_eq_some_iff.mp hi).1
 have cne:=I.cne;have tracked: ∀{a:Addr} {h':Heap},(∃o,s.heap.get? a=some o/\H a=none)->Heap.SameBut a s.heap h'->xC X.prog X.w H h':=λ{a h'} ha hs b ob e=>by
  obtain⟨_,_,hfree⟩:=ha;refine(I.hok b ob e).stay (λc w' hc q=>(hs.2 c ?_).trans q) (λ_ q=>q) λ_ _ q=>q;rintro rfl;rcases hc with rfl | hc
  ·rw[hfree]at e;cases e
  ·rw[hfree]at hc;cases hc
 rcases hx with hk | hk
 ·refine wpAny_storeName_local hk hn (λh' hn' hs=> ?_) hcls
  obtain⟨oL,_,_,hoL,_⟩:=id hn;refine h _ ⟨I.ok,I.os,I.bare,⟨λb o e n hb hx=> ?_,λb o e n hb hx=> ?_,I.base.free,λb o e hx=> ?_,I.base.tups,I.base.frzs,I.base.tbls⟩,⟨_,hn',λj y v' e1 e2 e3=> ?_⟩,λy c e=> ?_,I.free,I.freeC,λp hp=> ?_,tracked ⟨oL,hoL,I.free⟩ hs,by simpa using I.len⟩ ⟨_,hs,.inl rfl⟩
  ·exact(hs.2 b (Nat.ne_of_lt (Nat.lt_of_lt_of_le (Heap.lt_size e) I.ok.above))).trans (I.base.keep b o e n hb hx)
  ·obtain⟨sl,e1⟩:=I.base.slot b o e n hb hx
   exact⟨sl,(hs.2 b (Nat.ne_of_lt (Nat.lt_of_lt_of_le (Heap.lt_size e) I.ok.above))).trans e1⟩
  ·obtain⟨o',e1⟩:=I.base.there b o e hx
   exact⟨o',(hs.2 b (Nat.ne_of_lt (Nat.lt_of_lt_of_le (Heap.lt_size e) I.ok.above))).trans e1⟩
  ·by_cases hj:j=i
   ·subst hj
    rw[hi]at e1;cases e1;rw[List.getElem?_set_self hiσ]at e2;cases e2;exact⟨u,r,.inl ⟨hk,by simp⟩⟩
   ·rw[List.getElem?_set_ne (Ne.symm hj)]at e2
    obtain⟨u',r',q⟩:=hl j y v' e1 e2 e3;refine⟨u',r',?_⟩;rcases q with⟨k,e⟩ | ⟨k,c,e,z⟩
    ·refine .inl ⟨k,?_⟩
     have:y≠x:=λe=>hj (zfD hN e1 (e▸hi));simp[this,e]
    ·exact .inr ⟨k,c,e,z.sameBut hs (cne y c e)⟩
  ·obtain⟨w',z⟩:=I.cell y c e
   exact⟨w',z.sameBut hs (cne y c e)⟩
  ·obtain⟨e,n,ne,nf,d⟩:=I.pin p hp
   exact⟨(hs.2 p.1 ne).trans e,n,ne,nf,d⟩
 ·have hfn:X.fn x=true:=by
   rcases hf with z | z
   ·exact z
   ·rw[z]at hk;cases hk
  obtain⟨c,hc⟩:=I.ok.has x (.inl hk);obtain⟨w',z⟩:=I.cell x c hc;refine wpAny_storeName_cell I.ok.kind hk hc z (λh' hc' hs=> ?_);obtain⟨oc,hoc,hocd⟩:=id z;refine h {s with heap:=h'} ⟨I.ok,I.os,I.bare,⟨λb o e n hb hx=> ?_,λb o e n hb hx=> ?_,I.base.free,λb o e hx=> ?_,I.base.tups,I.base.frzs,I.base.tbls⟩,⟨m,hn.sameBut hs (Ne.symm (cne x c hc)),λj y v' e1 e2 e3=> ?_⟩,λy c' e=> ?_,I.free,I.freeC,λp hp=> ?_,tracked ⟨oc,hoc,I.freeC x c hc⟩ hs,by simpa using I.len⟩ ⟨c,hs,.inr hc⟩
  ·exact(hs.2 b (Nat.ne_of_lt (Nat.lt_of_lt_of_le (Heap.lt_size e) (I.ok.cab x c hfn hc)))).trans (I.base.keep b o e n hb hx)
  ·obtain⟨sl,e1⟩:=I.base.slot b o e n hb hx
   exact⟨sl,(hs.2 b (Nat.ne_of_lt (Nat.lt_of_lt_of_le (Heap.lt_size e) (I.ok.cab x c hfn hc)))).trans e1⟩
  ·obtain⟨o',e1⟩:=I.base.there b o e hx
   exact⟨o',(hs.2 b (Nat.ne_of_lt (Nat.lt_of_lt_of_le (Heap.lt_size e) (I.ok.cab x c hfn hc)))).trans e1⟩
  ·by_cases hj:j=i
   ·subst hj
    rw[hi]at e1;cases e1;rw[List.getElem?_set_self hiσ]at e2;cases e2;exact⟨u,r,.inr ⟨.inl hk,c,hc,hc'⟩⟩
   ·rw[List.getElem?_set_ne (Ne.symm hj)]at e2
    obtain⟨u',r',q⟩:=hl j y v' e1 e2 e3;refine⟨u',r',?_⟩;rcases q with q | ⟨k,c',e,z'⟩
    ·exact .inl q
    ·refine .inr ⟨k,c',e,z'.sameBut hs ?_⟩
     rintro rfl;exact hj (zfD hN e1 (I.ok.inj _ _ _ e hc▸hi))
  ·by_cases hcc:c'=c
   ·subst hcc;exact⟨_,hc'⟩
   ·obtain⟨w2,z2⟩:=I.cell y c' e
    exact⟨w2,z2.sameBut hs hcc⟩
  ·obtain⟨e,n,ne,nf,d⟩:=I.pin p hp
   refine⟨(hs.2 p.1 ?_).trans e,n,ne,nf,d⟩;intro q;rw[q,hoc]at e;have q':oc=p.2:=Option.some.inj e;exact d w' (by rw[<- q'];exact hocd)
theorem fF {M:Model}{A:Around}{E:Value->Shared->Prop}{i:Nat}{x:Str}{v:V}{u:Value}{Q:Unit->Shared->Prop}(I:z5 X pins σ H s)(hN:X.N.Nodup)(hi:X.N[i]?=some x)(hx:rR X.env.scope x)(r:zU v u)
  (h: ∀s',z5 X pins (σ.set i (some v)) H s'->Q () s') (hf:X.fn x=true∨X.env.scope.names.lookup x=some .local:=by first | exact .inl rfl | exact .inr rfl | assumption):wpAny M A (storeName X.env x u) Q E s:=
 zh3 I hN hi hx r (λs' I' _=>h s' I') hf
theorem z5.call' {s':Shared}{ch:List Addr}(I:z5 X pins σ H s)(ho:s'.os=s.os)(u:Un (wM X.stack) ch H H' s.heap s'.heap)(hok:xC X.prog X.w H' s'.heap)(hg:AllBare s'.gens)
  (hch: ∀b∈ch,(b∈X.ex∨X.s₀.heap.objs.size<=b)/\b≠X.env.locals/\(∀x c,X.env.cells.lookup x=some c->c≠b)/\∀p∈X.pn++pins,p.1≠b):z5 X pins σ H' s':=by
 obtain⟨h',g',d',t',o'⟩:=s';have e:o'=s.os:=ho;subst e;exact I.call (g':=g') (t':=t') (d':=d') u hok hg hch
end
abbrev XK:=Value->Option Addr->Hp->Prop
abbrev St:=List (Option V)
abbrev VK:=V->Hp->Prop
abbrev TE:=St->Hp->VK->Prop
abbrev TT:=St->Hp->(Bool->Hp->Prop)->Prop
abbrev TA:=St->Hp->(List V->Hp->Prop)->Prop
structure sD where
 nx:St->Hp->Prop
 rt:VK
 bk:St->Hp->Prop:=λ_ _=>False
 ct:St->Hp->Prop:=λ_ _=>False
abbrev TS:=sD->St->Hp->Prop
def EP (X:Cx)(pins:List (Addr×Obj))(σ:St)(Q:VK)(u:Value)(s':Shared):Prop:= ∃v H',z5 X pins σ H' s'/\zU v u/\Q v H'
def TP (X:Cx)(pins:List (Addr×Obj))(σ:St)(Q:Bool->Hp->Prop)(b:Bool)(s':Shared):Prop:= ∃H',z5 X pins σ H' s'/\Q b H'
def AP (X:Cx)(pins:List (Addr×Obj))(σ:St)(Q:List V->Hp->Prop)(us:List Value)(s':Shared):Prop:= ∃vs H',z5 X pins σ H' s'/\zR vs us/\Q vs H'
def SP (X:Cx)(pins:List (Addr×Obj))(D:sD)(f:Flow)(s':Shared):Prop:=
 match f with
 | .next=> ∃σ' H',z5 X pins σ' H' s'/\D.nx σ' H'
 | .brk=> ∃σ' H',z5 X pins σ' H' s'/\D.bk σ' H'
 | .cont=> ∃σ' H',z5 X pins σ' H' s'/\D.ct σ' H'
 | .ret u=> ∃v σ' H',z5 X pins σ' H' s'/\zU v u/\D.rt v H'
structure PE (X:Cx)(e:Expr)(t:TE):Prop where
 run:
  ∀(pins:List (Addr×Obj)) (s:Shared) (σ:St) (H:Hp) (Q:VK),z5 X pins σ H s->t σ H Q->wpAny (model X.prog X.w) X.A (eval e X.env) (EP X pins σ Q) X.xe s
instance {X:Cx} {e:Expr} {t:TE} :CoeFun (PE X e t) λ_=>
 ∀(pins:List (Addr×Obj)) (s:Shared) (σ:St) (H:Hp) (Q:VK),z5 X pins σ H s->t σ H Q->wpAny (model X.prog X.w) X.A (eval e X.env) (EP X pins σ Q) X.xe s
  :=⟨PE.run⟩
structure PT (X:Cx)(e:Expr)(t:TT):Prop where
 run:
  ∀(pins:List (Addr×Obj)) (s:Shared) (σ:St) (H:Hp) (Q:Bool->Hp->Prop),z5 X pins σ H s->t σ H Q->wpAny (model X.prog X.w) X.A (isTrue e X.env (eval e X.env)) (TP X pins σ Q) X.xe s
instance {X:Cx} {e:Expr} {t:TT} :CoeFun (PT X e t) λ_=>
 ∀(pins:List (Addr×Obj)) (s:Shared) (σ:St) (H:Hp) (Q:Bool->Hp->Prop),z5 X pins σ H s->t σ H Q->wpAny (model X.prog X.w) X.A (isTrue e X.env (eval e X.env)) (TP X pins σ Q) X.xe s
  :=⟨PT.run⟩
structure PW (X:Cx)(e:Expr)(t:TT):Prop where
 run:
  ∀(whole:Sem Value) (pins:List (Addr×Obj)) (s:Shared) (σ:St) (H:Hp) (Q:Bool->Hp->Prop),z5 X pins σ H s->t σ H Q->wpAny (model X.prog X.w) X.A (isTrue e X.env whole) (TP X pins σ Q) X.xe s
instance {X:Cx} {e:Expr} {t:TT} :CoeFun (PW X e t) λ_=>
 ∀(whole:Sem Value) (pins:List (Addr×Obj)) (s:Shared) (σ:St) (H:Hp) (Q:Bool->Hp->Prop),z5 X pins σ H s->t σ H Q->wpAny (model X.prog X.w) X.A (isTrue e X.env whole) (TP X pins σ Q) X.xe s
  :=⟨PW.run⟩
theorem PW.pt {X:Cx}{e:Expr}{t:TT}(h:PW X e t):PT X e t:=⟨h.run _⟩
structure PA (X:Cx)(es:List Expr)(t:TA):Prop where
 run:
  ∀(pos:Pos) (pins:List (Addr×Obj)) (s:Shared) (σ:St) (H:Hp) (Q:List V->Hp->Prop),z5 X pins σ H s->t σ H Q->wpAny (model X.prog X.w) X.A (spliced (backTo pos (starEach es X.env))) (AP X pins σ Q) X.xe s
instance {X:Cx} {es:List Expr} {t:TA} :CoeFun (PA X es t) λ_=>
 ∀(pos:Pos) (pins:List (Addr×Obj)) (s:Shared) (σ:St) (H:Hp) (Q:List V->Hp->Prop),z5 X pins σ H s->t σ H Q->wpAny (model X.prog X.w) X.A (spliced (backTo pos (starEach es X.env))) (AP X pins σ Q) X.xe s
  :=⟨PA.run⟩
structure PS (X:Cx)(st:Stmt)(t:TS):Prop where
 run:
  ∀(pins:List (Addr×Obj)) (s:Shared) (σ:St) (H:Hp) (D:sD),z5 X pins σ H s->t D σ H->wpAny (model X.prog X.w) X.A (exec st X.env) (SP X pins D) X.xe s
instance {X:Cx} {st:Stmt} {t:TS} :CoeFun (PS X st t) λ_=>
 ∀(pins:List (Addr×Obj)) (s:Shared) (σ:St) (H:Hp) (D:sD),z5 X pins σ H s->t D σ H->wpAny (model X.prog X.w) X.A (exec st X.env) (SP X pins D) X.xe s
  :=⟨PS.run⟩
structure xQ (X:Cx)(st:List Stmt)(t:TS):Prop where
 run:
  ∀(pins:List (Addr×Obj)) (s:Shared) (σ:St) (H:Hp) (D:sD),z5 X pins σ H s->t D σ H->wpAny (model X.prog X.w) X.A (execs st X.env) (SP X pins D) X.xe s
instance {X:Cx} {st:List Stmt} {t:TS} :CoeFun (xQ X st t) λ_=>
 ∀(pins:List (Addr×Obj)) (s:Shared) (σ:St) (H:Hp) (D:sD),z5 X pins σ H s->t D σ H->wpAny (model X.prog X.w) X.A (execs st X.env) (SP X pins D) X.xe s
  :=⟨xQ.run⟩
theorem y8 {α:Type}{t:Sem α}{Q Q':α->Shared->Prop}{M:Model}{A:Around}{E:Value->Shared->Prop}{s:Shared}(h:wpAny M A t Q E s)(hQ: ∀a s,Q a s->Q' a s):wpAny M A t Q' E s:=wpAny_mono h hQ λ_ _ x=>x
end L2
namespace L2
open PySem PySem.Spec PyProof.Rows
section
variable {X:Cx}
def fI (i:Nat):TE:=λσ H Q=> ∃v,σ[i]?=some (some v)/\Q v H
def tC (v:V):TE:=λ_ H Q=>Q v H
theorem zbz {i:Nat}{x:Str}{pos:Pos}(hN:X.N[i]?=some x)(hv:lW X.env.scope x)(hd:(x==("__debug__" :Str))=false:=by decide)(hcd:(x==("__classdict__" :Str))=false:=by decide):PE X (.Name x pos) (fI i):=by
 (first | refine⟨?_⟩ | skip)
 intro pins s σ H Q I h;obtain⟨v,e,h⟩:=h;obtain⟨m,hn,hl⟩:=I.loc;obtain⟨u,r,l⟩:=hl i x v hN e hv;have fin:EP X pins σ Q u s:=⟨v,H,I,r,h⟩;rcases l with⟨hk,hm⟩ | ⟨hk,c,hc,hcell⟩
 ·exact wpAny_Name (wpAny_loadName_local I.ok.kind hk hn hm fin) hd
 ·rcases hk with hk | hk
  ·exact wpAny_Name (wpAny_loadName_cell I.ok.kind hk hc hcell fin) hd
  ·exact wpAny_Name (wpAny_loadName_free I.ok.kind hk hc hcell fin hcd) hd
theorem vE {i j pos} :PE X (.Constant (.int i) j pos) (tC (.int i)):=⟨λ_ _ _ H _ I h=>wpAny_Constant_int ⟨.int i,H,I.tok _,⟨_,rfl⟩,h⟩⟩
theorem znR {b j pos} :PE X (.Constant (.bool b) j pos) (tC (.bl b)):=⟨λ_ _ _ H _ I h=>Constant_bool ⟨.bl b,H,I,rfl,h⟩⟩
theorem zoa {j pos} :PE X (.Constant .none j pos) (tC .non):=⟨λ_ _ _ H _ I h=>Constant_none ⟨.non,H,I,rfl,h⟩⟩
theorem qF {x j pos} :PE X (.Constant (.str x) j pos) (tC (.str x)):=⟨λ_ _ _ H _ I h=>Calls.Constant_str ⟨.str x,H,I.tok _,⟨_,rfl⟩,h⟩⟩
def Gl (X:Cx)(x:Str):Prop:=X.env.kindOf x=some .globalImplicit
theorem zbd {E:Value->Shared->Prop}{pins:List (Addr×Obj)}{s:Shared}{σ:St}{H:Hp}{x:Str}{u:Value}{pos:Pos}{Q:Value->Shared->Prop}(I:z5 X pins σ H s)(hg:Gl X x)(hm:X.mg x=some u)(h:Q u s)
  (hd:(x==("__debug__" :Str))=false:=by decide):wpAny (model X.prog X.w) X.A (eval (.Name x pos) X.env) Q E s:=
 Calls.Name_function_global I.ok.kind hg (Calls.loadGlobal_global (by rw[I.ok.glob];exact I.mod.glob.keeps I.bk) hm h) hd
theorem mE {E:Value->Shared->Prop}{pins:List (Addr×Obj)}{s:Shared}{σ:St}{H:Hp}{x:Str}{u:Value}{pos:Pos}{Q:Value->Shared->Prop}(I:z5 X pins σ H s)(hg:Gl X x)(hm:X.mg x=none)(hv:bootBuiltins x=some u)(h:Q u s)
  (hn:x≠ "__name__" :=by decide) (hd:(x==("__debug__" :Str))=false:=by decide):wpAny (model X.prog X.w) X.A (eval (.Name x pos) X.env) Q E s:=by
 obtain⟨mb,h1,h2⟩:=I.mod.blt;exact Calls.Name_function_global I.ok.kind hg (Calls.loadGlobal_builtin (by rw[I.ok.glob];exact I.mod.glob.keeps I.bk) hm (by rw[I.ok.blt];exact h1.keeps I.bk) ((h2 x hn).trans hv) h) hd
theorem gD {x:Str}{v:V}{u:Value}{pos:Pos}(hg:Gl X x)(hm:X.mg x=some u)(r:zU v u)(hd:(x==("__debug__" :Str))=false:=by decide):PE X (.Name x pos) (tC v):=
 ⟨λ_ _ _ H _ I h=>zbd I hg hm ⟨v,H,I,r,h⟩ hd⟩
theorem zbx {x:Str}{v:V}{u:Value}{pos:Pos}(hg:Gl X x)(hm:X.mg x=none)(hv:bootBuiltins x=some u)(r:zU v u)(hn:x≠ "__name__" :=by decide)(hd:(x==("__debug__" :Str))=false:=by decide):PE X (.Name x pos) (tC v):=
 ⟨λ_ _ _ H _ I h=>mE I hg hm hv ⟨v,H,I,r,h⟩ hn hd⟩
variable {a b:Expr} {ta tb:TE} {pos:Pos}
structure PC (X:Cx)(op:CmpOp)(a b:Expr)(t:TE):Prop where
 run:
  ∀(pins:List (Addr×Obj)) (s:Shared) (σ:St) (H:Hp) (Q:VK),z5 X pins σ H s->t σ H Q->
   wpAny (model X.prog X.w) X.A (eval a X.env) (λv s₁=>wpAny (model X.prog X.w) X.A (eval b X.env) (λu s₂=>wpAny (model X.prog X.w) X.A (compareOp op v u) (EP X pins σ Q) X.xe s₂) X.xe s₁) X.xe s
instance {X:Cx} {op:CmpOp} {a b:Expr} {t:TE} :CoeFun (PC X op a b t) λ_=>
 ∀(pins:List (Addr×Obj)) (s:Shared) (σ:St) (H:Hp) (Q:VK),z5 X pins σ H s->t σ H Q->
  wpAny (model X.prog X.w) X.A (eval a X.env) (λv s₁=>wpAny (model X.prog X.w) X.A (eval b X.env) (λu s₂=>wpAny (model X.prog X.w) X.A (compareOp op v u) (EP X pins σ Q) X.xe s₂) X.xe s₁) X.xe s
  :=⟨PC.run⟩
variable {tA tB':TT} {zB:List Expr}
def zh7 (t u:TT):TT:=λσ H Q=>t σ H λc H1=>if c=true then u σ H1 Q else Q false H1
def tOr (t u:TT):TT:=λσ H Q=>t σ H λc H1=>if c=true then Q true H1 else u σ H1 Q
def zqq (t:TT):TT:=λσ H Q=>t σ H λc H1=>Q (!c) H1
theorem zoF (ha:PT X a tA):PW X (.BoolOp .And [a] pos) tA:=by
 (first | refine⟨?_⟩ | skip)
 intro wh pins s σ H Q I h;refine isTrue_and (y8 (ha pins s σ H Q I h) λc s1 e=> ?_);cases c with
 | true=>exact isTrue_and_nil e
 | false=>exact e
theorem zoH (ha:PT X a tA):PW X (.BoolOp .Or [a] pos) tA:=by
 (first | refine⟨?_⟩ | skip)
 intro wh pins s σ H Q I h;refine isTrue_or (y8 (ha pins s σ H Q I h) λc s1 e=> ?_);cases c with
 | false=>exact isTrue_or_nil e
 | true=>exact e
theorem zoE (ha:PT X a tA)(hb:PW X (.BoolOp .And (b::zB) pos) tB'):PW X (.BoolOp .And (a::b::zB) pos) (zh7 tA tB'):=by
 (first | refine⟨?_⟩ | skip)
 intro wh pins s σ H Q I h;refine isTrue_and (y8 (ha pins s σ H _ I h) λc s1 ⟨H1,I1,q1⟩=> ?_);cases c with
 | true=>exact hb wh pins s1 σ H1 Q I1 q1
 | false=>exact⟨H1,I1,q1⟩
theorem zoG (ha:PT X a tA)(hb:PW X (.BoolOp .Or (b::zB) pos) tB'):PW X (.BoolOp .Or (a::b::zB) pos) (tOr tA tB'):=by
 (first | refine⟨?_⟩ | skip)
 intro wh pins s σ H Q I h;refine isTrue_or (y8 (ha pins s σ H _ I h) λc s1 ⟨H1,I1,q1⟩=> ?_);cases c with
 | true=>exact⟨H1,I1,q1⟩
 | false=>exact hb wh pins s1 σ H1 Q I1 q1
theorem zoA (ha:PT X a tA):PT X (.UnaryOp .Not a pos) (zqq tA):=by
 (first | refine⟨?_⟩ | skip)
 intro pins s σ H Q I h;exact isTrue_not (ha pins s σ H (λc H1=>Q (!c) H1) I h)
def zpZ (ta tb:TE):TE:=λσ H Q=>ta σ H λx H1=> ∃c,x= .bl c/\if c=true then tb σ H1 Q else Q (.bl false) H1
def zqs (ta tb:TE):TE:=λσ H Q=>ta σ H λx H1=> ∃c,x= .bl c/\if c=true then Q (.bl true) H1 else tb σ H1 Q
def zqr (ta:TE):TE:=λσ H Q=>ta σ H λx H1=> ∃c,x= .bl c/\Q (.bl (!c)) H1
theorem zoc {op}{t:TE}(h:PE X a t):PE X (.BoolOp op [a] pos) t:=⟨λpins s σ H Q I hw=>BoolOp_one (h pins s σ H Q I hw)⟩
theorem znQ (ha:PE X a ta)(hb:PE X (.BoolOp .And (b::zB) pos) tb):PE X (.BoolOp .And (a::b::zB) pos) (zpZ ta tb):=by
 (first | refine⟨?_⟩ | skip)
 intro pins s σ H Q I h;refine BoolOp_and (y8 (ha pins s σ H _ I h) λv s1 ⟨x,H1,I1,r1,q1⟩=> ?_);obtain⟨c,rfl,q1⟩:=q1;cases r1;refine wpAny_truthy_bool ?_;cases c with
 | true=>exact hb pins s1 σ H1 Q I1 q1
 | false=>exact⟨.bl false,H1,I1,rfl,q1⟩
theorem zod (ha:PE X a ta)(hb:PE X (.BoolOp .Or (b::zB) pos) tb):PE X (.BoolOp .Or (a::b::zB) pos) (zqs ta tb):=by
 (first | refine⟨?_⟩ | skip)
 intro pins s σ H Q I h;refine BoolOp_or (y8 (ha pins s σ H _ I h) λv s1 ⟨x,H1,I1,r1,q1⟩=> ?_);obtain⟨c,rfl,q1⟩:=q1;cases r1;refine wpAny_truthy_bool ?_;cases c with
 | false=>exact hb pins s1 σ H1 Q I1 q1
 | true=>exact⟨.bl true,H1,I1,rfl,q1⟩
theorem zob (ha:PE X a ta):PE X (.UnaryOp .Not a pos) (zqr ta):=by
 (first | refine⟨?_⟩ | skip)
 intro pins s σ H Q I h;refine UnaryOp_ (y8 (ha pins s σ H _ I h) λv s1 ⟨x,H1,I1,r1,q1⟩=> ?_);obtain⟨c,rfl,q1⟩:=q1;cases r1;exact not_of (wpAny_truthy_bool ⟨.bl (!c),H1,I1,rfl,q1⟩)
def tIf (t:TT)(ta tb:TE):TE:=λσ H Q=>t σ H λc H1=>if c=true then ta σ H1 Q else tb σ H1 Q
theorem zby {c:Expr}(hc:PT X c tA)(ha:PE X a ta)(hb:PE X b tb):PE X (.IfExp c a b pos) (tIf tA ta tb):=by
 (first | refine⟨?_⟩ | skip)
 intro pins s σ H Q I h;refine wpAny_IfExp (y8 (hc pins s σ H _ I h) λd s1 ⟨H1,I1,q1⟩=> ?_);cases d with
 | true=>exact ha pins s1 σ H1 Q I1 q1
 | false=>exact hb pins s1 σ H1 Q I1 q1
end
end L2
namespace L2
open PySem PySem.Spec PyProof.Rows
def x5 (K:Frag)(H:Hp)(a:Addr)(xs:List V):Prop:=
 Rd H a (.lst xs)∨
  ∃(o:Obj) (its:Array Value) (n:Nat),K.lookup a=some o/\o.cls= .type "list" /\o.dict=none/\o.data= .seq its n/\its.size<=sizeLine/\zR xs its.toList/\o.slots= #[]
def x4 (K:Frag)(H:Hp)(a:Addr)(xs:List V):Prop:=
 Rd H a (.tup xs)∨
  ∃(o:Obj) (its:Array Value) (n:Nat),K.lookup a=some o/\o.cls= .type "tuple" /\o.dict=none/\o.data= .seq its n/\its.size<=sizeLine/\zR xs its.toList
def ziO:Value->Option V
 | .none=>some .non
 | .bool b=>some (.bl b)
 | .int i _=>some (.int i)
 | .str x _=>some (.str x)
 | .bytes b _=>some (.byt b)
 | .float b _=>some (.flt b)
 | .ref a=>some (.ref a)
 | .type n=>some (.ty n)
 | _=>none
theorem zU.abs {x:V}{u:Value}(r:zU x u):ziO u=some x:=by
 cases x with
 | non=>cases r;rfl
 | bl _=>cases r;rfl
 | int _=>obtain⟨t,rfl⟩:=r;rfl
 | str _=>obtain⟨t,rfl⟩:=r;rfl
 | byt _=>obtain⟨t,rfl⟩:=r;rfl
 | flt _=>obtain⟨t,rfl⟩:=r;rfl
 | ref _=>cases r;rfl
 | ty _=>cases r;rfl
theorem zU.inj {x y:V}{u:Value}(r:zU x u)(q:zU y u):x=y:=Option.some.inj (r.abs.symm.trans q.abs)
theorem zR.inj: ∀{xs ys:List V} {us:List Value},zR xs us->zR ys us->xs=ys
 | _,_,_,.nil,.nil=>rfl
 | _,_,_,.cons r t,.cons r' t'=>by rw[r.inj r',zR.inj t t']
section
variable {X:Cx} {pins:List (Addr×Obj)} {σ:St} {H:Hp} {s:Shared} {a:Addr} {xs ys:List V}
theorem x5.of {K:Frag}(h:H a=some (.lst xs)):x5 K H a xs:= .inl (.inl h)
theorem z5.list (I:z5 X pins σ H s)(h:x5 X.K H a xs): ∃its:List Value,zR xs its/\PlainL s.heap a its.toArray/\xs.length<=sizeLine:=by
 rcases h with h | ⟨o,its,n,hk,hc,hd,hs,hz,r,_⟩
 ·obtain⟨z,its,n,r,e⟩:=h.ok I.hok
  exact⟨its,r,⟨_,n,e,rfl,rfl,rfl⟩,z⟩
 ·refine⟨its.toList,r,⟨o,n,I.kIn a o hk,hc,hd,by simpa using hs⟩,?_⟩
  have e:=r.length;simp only[Array.length_toList]at e;omega
theorem z5.tuple (I:z5 X pins σ H s)(h:x4 X.K H a xs): ∃its:List Value,zR xs its/\IsTup s.heap a its.toArray/\xs.length<=sizeLine:=by
 rcases h with h | ⟨o,its,n,hk,hc,_,hs,hz,r⟩
 ·obtain⟨z,its,r,p⟩:=h.ok I.hok
  exact⟨its,r,p.tup,z⟩
 ·refine⟨its.toList,r,⟨o,I.kIn a o hk,hc,n,by simpa using hs⟩,?_⟩
  have e:=r.length;simp only[Array.length_toList]at e;omega
theorem z5.listX (I:z5 X pins σ H s)(h:x5 X.K H a xs): ∃(its:List Value) (n:Nat),zR xs its/\s.heap.get? a=some {cls:= .type "list",data:= .seq its.toArray n} /\xs.length<=sizeLine:=by
 rcases h with h | ⟨o,its,n,hk,hc,hd,hs,hz,r,hsl⟩
 ·obtain⟨z,its,n,r,e⟩:=h.ok I.hok
  exact⟨its,n,r,e,z⟩
 ·obtain⟨cls,dict,data,slots⟩:=o
  dsimp only at hc hd hs hsl;subst hc hd hs hsl;refine⟨its.toList,n,r,by simpa using I.kIn a _ hk,?_⟩;have e:=r.length;simp only[Array.length_toList]at e;omega
theorem z5.tupleD (I:z5 X pins σ H s)(h:x4 X.K H a xs): ∃its:List Value,zR xs its/\uI s.heap a its.toArray/\xs.length<=sizeLine:=by
 rcases h with h | ⟨o,its,n,hk,hc,hd,hs,hz,r⟩
 ·obtain⟨z,its,r,p⟩:=h.ok I.hok
  exact⟨its,r,p,z⟩
 ·refine⟨its.toList,r,⟨o,I.kIn a o hk,hc,n,by simpa using hs,hd⟩,?_⟩
  have e:=r.length;simp only[Array.length_toList]at e;omega
theorem z5.list_inj (I:z5 X pins σ H s)(h:x5 X.K H a xs)(h':x5 X.K H a ys):xs=ys:=by
 obtain⟨its,r,⟨o,n,e,_,_,d⟩,_⟩:=I.list h;obtain⟨its',r',⟨o',n',e',_,_,d'⟩,_⟩:=I.list h';rw[e]at e';cases e';rw[d]at d';injection d' with d1 _
 have:its=its':=by simpa using congrArg Array.toList d1
 subst this;exact r.inj r'
theorem z5.tuple_inj (I:z5 X pins σ H s)(h:x4 X.K H a xs)(h':x4 X.K H a ys):xs=ys:=by
 obtain⟨its,r,⟨o,e,_,n,d⟩,_⟩:=I.tuple h;obtain⟨its',r',⟨o',e',_,n',d'⟩,_⟩:=I.tuple h';rw[e]at e';cases e';rw[d]at d';injection d' with d1 _
 have:its=its':=by simpa using congrArg Array.toList d1
 subst this;exact r.inj r'
end
abbrev Cx.wish (X:Cx)(E:Value->Shared->Prop):Cx:= {X with xe:=E}
abbrev Cx.nox (X:Cx):Cx:=X.wish λ_ _=>False
theorem Cx.Ok.wish {X:Cx}(ok:X.Ok)(E:Value->Shared->Prop):(X.wish E).Ok:=
 ⟨ok.mod,ok.kind,ok.glob,ok.blt,ok.above,ok.inj,ok.has,ok.cab,ok.hd,ok.frames,ok.stk,ok.exf,ok.bs,ok.bsz,ok.noex,ok.exfs,ok.funs,ok.frf⟩
theorem Cx.Ok.unwish {X:Cx}{E:Value->Shared->Prop}(ok:(X.wish E).Ok):X.Ok:=
 ⟨ok.mod,ok.kind,ok.glob,ok.blt,ok.above,ok.inj,ok.has,ok.cab,ok.hd,ok.frames,ok.stk,ok.exf,ok.bs,ok.bsz,ok.noex,ok.exfs,ok.funs,ok.frf⟩
section
variable {X:Cx} {pins:List (Addr×Obj)} {σ:St} {H:Hp} {s:Shared} {E:Value->Shared->Prop}
theorem z5.wish (I:z5 X pins σ H s)(E:Value->Shared->Prop):z5 (X.wish E) pins σ H s:=⟨I.ok.wish E,I.os,I.bare,I.base,I.loc,I.cell,I.free,I.freeC,I.pin,I.hok,I.len⟩
theorem z5.unwish (I:z5 (X.wish E) pins σ H s):z5 X pins σ H s:=⟨I.ok.unwish,I.os,I.bare,I.base,I.loc,I.cell,I.free,I.freeC,I.pin,I.hok,I.len⟩
theorem SP.unwish {D:sD}{f:Flow}{s':Shared}(h:SP (X.wish E) pins D f s'):SP X pins D f s':=by
 cases f with
 | next=>obtain⟨σ',H',I,q⟩:=h;exact⟨σ',H',I.unwish,q⟩
 | brk=>obtain⟨σ',H',I,q⟩:=h;exact⟨σ',H',I.unwish,q⟩
 | cont=>obtain⟨σ',H',I,q⟩:=h;exact⟨σ',H',I.unwish,q⟩
 | ret u=>obtain⟨v,σ',H',I,r,q⟩:=h;exact⟨v,σ',H',I.unwish,r,q⟩
theorem xQ.nox {st:List Stmt}{t:TS}(h:xQ X.nox st t):xQ X st t:=⟨λpins s σ H D I hw=>
 wpAny_mono (h pins s σ H D (I.wish _) hw) (λ_ _ q=>q.unwish) λ_ _ z=>False.elim z⟩
end
section
variable {X:Cx} {st:Stmt} {zB:List Stmt} {t u:TS} {e:Expr} {te:TE} {pos:Pos}
def zqn:TS:=λD σ H=>D.nx σ H
def zqw (t u:TS):TS:=λD σ H=>t {D with nx:=u D} σ H
theorem qI:xQ X [] zqn:=⟨λ_ _ σ H _ I h=>wpAny_execs_nil ⟨σ,H,I,h⟩⟩
theorem tT (h1:PS X st t)(h2:xQ X zB u):xQ X (st::zB) (zqw t u):=by
 (first | refine⟨?_⟩ | skip)
 intro pins s σ H D I h;refine wpAny_execs_cons (y8 (h1 pins s σ H {D with nx:=u D} I h) λf s1 q=> ?_);cases f with
 | next=>
  obtain⟨σ',H',I',q⟩:=q;exact h2 pins s1 σ' H' D I' q
 | ret v=>exact q
 | brk=>exact q
 | cont=>exact q
theorem tU (h1:PS X st t):xQ X [st] t:=by
 (first | refine⟨?_⟩ | skip)
 intro pins s σ H D I h;refine wpAny_execs_cons (y8 (h1 pins s σ H D I h) λf s1 q=> ?_);cases f with
 | next=>exact wpAny_execs_nil q
 | ret v=>exact q
 | brk=>exact q
 | cont=>exact q
theorem z5.quiet {pins:List (Addr×Obj)}{σ:St}{H:Hp}{s:Shared}(I:z5 X pins σ H s):interactive X.env=false:=by simp[interactive,I.ok.kind]
def zqh (te:TE):TS:=λD σ H=>te σ H λ_ H1=>D.nx σ H1
theorem zo7 (he:PE X e te)(hs:swapsWith e none pos.line X.env=pure false:=by rfl):PS X (.Expr e pos) (zqh te):=by
 (first | refine⟨?_⟩ | skip)
 intro pins s σ H D I h;exact wpAny_Expr_any (y8 (he pins s σ H _ I h) λv s1 ⟨x,H1,I1,r1,q1⟩=>⟨σ,H1,I1,q1⟩) I.quiet hs
def zqv (te:TE):TS:=λD σ H=>te σ H D.rt
theorem tS (he:PE X e te):PS X (.Return (some e) pos) (zqv te):=by
 (first | refine⟨?_⟩ | skip)
 intro pins s σ H D I h;exact wpAny_Return_some (y8 (he pins s σ H _ I h) λv s1 ⟨x,H1,I1,r1,q1⟩=>⟨x,σ,H1,I1,r1,q1⟩)
def zqk (c:TT)(t u:TS):TS:=λD σ H=>c σ H λb H1=>if b=true then t D σ H1 else u D σ H1
theorem qG {c:Expr}{a b:List Stmt}{tc:TT}(hc:PT X c tc)(ha:xQ X a t)(hb:xQ X b u):PS X (.If c a b pos) (zqk tc t u):=by
 (first | refine⟨?_⟩ | skip)
 intro pins s σ H D I h;refine wpAny_If (y8 (hc pins s σ H _ I h) λd s1 ⟨H1,I1,q1⟩=> ?_);cases d with
 | true=>exact ha pins s1 σ H1 D I1 q1
 | false=>exact hb pins s1 σ H1 D I1 q1
end
abbrev TG:=V->St->Hp->(St->Hp->Prop)->Prop
abbrev uN:=List V->St->Hp->(St->Hp->Prop)->Prop
structure PG (X:Cx)(target:Expr)(t:TG):Prop where
 run:
  ∀(pins:List (Addr×Obj)) (s:Shared) (σ:St) (H:Hp) (v:V) (u:Value) (Q:St->Hp->Prop),z5 X pins σ H s->zU v u->t v σ H Q->
   wpAny (model X.prog X.w) X.A (assign target X.env u) (λ_ s'=> ∃σ' H',z5 X pins σ' H' s'/\Q σ' H') X.xe s
instance {X:Cx} {target:Expr} {t:TG} :CoeFun (PG X target t) λ_=>
 ∀(pins:List (Addr×Obj)) (s:Shared) (σ:St) (H:Hp) (v:V) (u:Value) (Q:St->Hp->Prop),z5 X pins σ H s->zU v u->t v σ H Q->
  wpAny (model X.prog X.w) X.A (assign target X.env u) (λ_ s'=> ∃σ' H',z5 X pins σ' H' s'/\Q σ' H') X.xe s
  :=⟨PG.run⟩
structure vU (X:Cx)(ts:List Expr)(t:uN):Prop where
 run:
  ∀(pins:List (Addr×Obj)) (s:Shared) (σ:St) (H:Hp) (vs:List V) (us:List Value) (Q:St->Hp->Prop),z5 X pins σ H s->zR vs us->t vs σ H Q->
   wpAny (model X.prog X.w) X.A (assignInOrder ((assignEach ts X.env).map (·.2)) us) (λ_ s'=> ∃σ' H',z5 X pins σ' H' s'/\Q σ' H') X.xe s
instance {X:Cx} {ts:List Expr} {t:uN} :CoeFun (vU X ts t) λ_=>
 ∀(pins:List (Addr×Obj)) (s:Shared) (σ:St) (H:Hp) (vs:List V) (us:List Value) (Q:St->Hp->Prop),z5 X pins σ H s->zR vs us->t vs σ H Q->
  wpAny (model X.prog X.w) X.A (assignInOrder ((assignEach ts X.env).map (·.2)) us) (λ_ s'=> ∃σ' H',z5 X pins σ' H' s'/\Q σ' H') X.xe s
  :=⟨vU.run⟩
abbrev eM:=V->V->V->Hp->(Hp->Prop)->Prop
def eJ (X:Cx)(t:eM):Prop:=
 ∀(pins:List (Addr×Obj)) (s:Shared) (σ:St) (H:Hp) (o i v:V) (ov iv u:Value) (Q:Hp->Prop),z5 X pins σ H s->zU o ov->zU i iv->zU v u->t o i v H Q->
  wpAny (model X.prog X.w) X.A (setItem ov iv u) (λ_ s'=> ∃H',z5 X pins σ H' s'/\Q H') X.xe s
section
variable {X:Cx} {pos:Pos}
def iY (i:Nat):TG:=λv σ H Q=>Q (σ.set i (some v)) H
theorem zoo {i:Nat}{x:Str}(hN:X.N.Nodup)(hi:X.N[i]?=some x)(hx:rR X.env.scope x)(hf:X.fn x=true∨X.env.scope.names.lookup x=some .local:=by first | exact .inl rfl | exact .inr rfl | assumption):PG X (.Name x pos) (iY i):=by
 (first | refine⟨?_⟩ | skip)
 intro pins s σ H v u Q I r h;exact wpAny_assign_Name (fF I hN hi hx r (λs' I'=>⟨_,H,I',h⟩) hf)
def zkY:uN:=λvs σ H Q=>vs= []/\Q σ H
def zkW (t:TG)(u:uN):uN:=λvs σ H Q=> ∃v r,vs=v::r/\t v σ H λσ' H'=>u r σ' H' Q
theorem zos:vU X [] zkY:=by
 (first | refine⟨?_⟩ | skip)
 intro pins s σ H vs us Q I r h;obtain⟨e,h⟩:=h;subst e;cases r;exact assignInOrder_nil ⟨σ,H,I,h⟩
theorem zor {e:Expr}{es:List Expr}{t:TG}{u:uN}(h1:PG X e t)(h2:vU X es u)
  (hs:(assignEach (e::es) X.env).map (·.2)=assign e X.env::(assignEach es X.env).map (·.2):=by rfl):vU X (e::es) (zkW t u):=by
 (first | refine⟨?_⟩ | skip)
 intro pins s σ H vs us Q I r h;obtain⟨v,vr,e1,h⟩:=h;subst e1;cases r with
 | cons r rr=>
  rw[hs];refine assignInOrder_cons (y8 (h1 pins s σ H _ _ _ I r h) λ_ s1 ⟨σ1,H1,I1,q1⟩=> ?_);exact h2 pins s1 σ1 H1 _ _ Q I1 rr q1
def zla (K:Frag)(n:Nat)(t:uN):TG:=λv σ H Q=> ∃a xs,v= .ref a/\x4 K H a xs/\xs.length=n/\t xs σ H Q
theorem zoq {es:List Expr}{k:Nat}{t:uN}{n:Nat}(hc:X.calm=true)(h:vU X es t)
  (hn:(assignEach es X.env).length=n:=by rfl) (hst:(assignEach es X.env).findIdx? (·.1)=none:=by rfl):PG X (.Tuple es k pos) (zla X.K n t):=by
 (first | refine⟨?_⟩ | skip)
 intro pins s σ H v u Q I r hw;obtain⟨a,xs,e1,hq,hl,hw⟩:=hw;subst e1;cases r;obtain⟨its,rv,ht,hz⟩:=I.tuple hq;refine assign_Tuple_tuple (I.ok.hd hc) ht (by simp[hn,<- hl,rv.length]) hst λh' hx=> ?_;have I1:z5 X pins σ H {s with heap:=h'} :=I.kept (t':=s.toks) λb o e=>hx b o (Nat.ne_of_lt (Heap.lt_size e)) e;exact h pins _ σ H xs _ Q I1 (by simpa using rv) hw
def zkZ (to ti:TE)(t:eM):TG:=λv σ H Q=>to σ H λo H1=>ti σ H1 λi H2=>t o i v H2 λH3=>Q σ H3
theorem zop {o i:Expr}{to ti:TE}{t:eM}(ho:PE X o to)(hi:PE X i ti)(hs:eJ X t)
  (ha: ∀v,assign (.Subscript o i pos) X.env v=(do
   let ov <- holding [v] (eval o X.env)
   let iv <- holding [v,ov] (eval i X.env)
   standAt pos
   holding [v,ov,iv] (setItem ov iv v)
   release [v,ov,iv] []):=by intro _;rfl):PG X (.Subscript o i pos) (zkZ to ti t):=by
 (first | refine⟨?_⟩ | skip)
 intro pins s σ H v u Q I r h;rw[ha];refine wpAny_bind (wpAny_holding (y8 (ho pins s σ H _ I h) λov s1 ⟨x,H1,I1,r1,q1⟩=> ?_));refine wpAny_bind (wpAny_holding (y8 (hi pins s1 σ H1 _ I1 q1) λiv s2 ⟨y,H2,I2,r2,q2⟩=> ?_));refine wpAny_bind (wpAny_standAt (wpAny_bind (wpAny_holding (y8 (hs pins s2 σ H2 x y v ov iv u _ I2 r1 r2 r q2) λ_ s3 ⟨H3,I3,q3⟩=> ?_))));exact wpAny_release ⟨σ,H3,I3,q3⟩
def fG (te:TE)(g:TG):TS:=λD σ H=>te σ H λx H1=>g x σ H1 D.nx
theorem zo6 {tg e:Expr}{te:TE}{g:TG}(he:PE X e te)(hg:PG X tg g)(hs:swapsWithSole [tg] e pos.line X.env=pure false:=by rfl)(hw:swappedStores [tg] e X.env=pure none:=by rfl)
  (h1:(assignEach [tg] X.env).map (·.2)= [assign tg X.env]:=by rfl):PS X (.Assign [tg] e pos) (fG te g):=by
 (first | refine⟨?_⟩ | skip)
 intro pins s σ H D I h;refine wpAny_Assign_stores (y8 (he pins s σ H _ I h) λv s1 ⟨x,H1,I1,r1,q1⟩=> ?_) hs hw;rw[h1];exact y8 (hg pins s1 σ H1 x v _ I1 r1 q1) λ_ s2 q=>q
theorem zg0 {i:Nat}{x:Str}{e:Expr}{te:TE}{pos':Pos}(hN:X.N.Nodup)(hi:X.N[i]?=some x)(hx:rR X.env.scope x)(he:PE X e te)(hs:swapsWith e (some (.Name x pos')) pos.line X.env=pure false:=by rfl)(hf:X.fn x=true∨X.env.scope.names.lookup x=some .local:=by first | exact .inl rfl | exact .inr rfl | assumption):
  PS X (.Assign [.Name x pos'] e pos) (fG te (iY i)):=by
 (first | refine⟨?_⟩ | skip)
 intro pins s σ H D I h;refine wpAny_Assign_Name (y8 (he pins s σ H _ I h) λv s1 ⟨y,H1,I1,r1,q1⟩=> ?_) hs;exact fF I1 hN hi hx r1 (λs2 I2=>⟨_,H1,I2,q1⟩) hf
def zqt (i j:Nat)(ta:TA):TS:=λD σ H=>ta σ H λvs H1=> ∃v w,vs= [v,w]/\D.nx ((σ.set i (some v)).set j (some w)) H1
theorem zo9 {i j:Nat}{x y:Str}{a b:Expr}{ta:TA}{px py pt:Pos}{kt k2 pt2}(hc:X.calm=true)(hN:X.N.Nodup)(hi:X.N[i]?=some x)(hj:X.N[j]?=some y)(hij:i≠j)
  (hx:X.env.scope.names.lookup x=some .local) (hy:X.env.scope.names.lookup y=some .local) (ha:PA X [a,b] ta)
  (hw:swappedStores [.Tuple [.Name x px,.Name y py] kt pt] (.Tuple [a,b] k2 pt2) X.env=pure (some [x,y]))
  (hs:swapsWithSole [.Tuple [.Name x px,.Name y py] kt pt] (.Tuple [a,b] k2 pt2) pos.line X.env=pure false:=by rfl):
  PS X (.Assign [.Tuple [.Name x px,.Name y py] kt pt] (.Tuple [a,b] k2 pt2) pos) (zqt i j ta):=by
 (first | refine⟨?_⟩ | skip)
 intro pins s σ H D I h;rw[exec_Assign_arm];refine wpAny_bind (wpAny_standAt ?_);rw[hs];refine wpAny_bind (wpAny_pure ?_);rw[if_neg (by decide)];refine wpAny_bind (Tuple_ (y8 (ha _ pins s σ H _ I h) λus s1 ⟨vs,H1,I1,r1,q1⟩=> ?_));obtain⟨v,w,e1,q1⟩:=q1;subst e1;obtain⟨u1,u2,rfl,rv,rw'⟩: ∃u1 u2,us= [u1,u2]/\zU v u1/\zU w u2:=by
  cases r1 with
  | cons p q=>
   cases q with
   | cons p' q'=>
    cases q';exact⟨_,_,rfl,p,p'⟩
 refine wpAny_newObj_type ?_ (by show 2<=sizeLine;decide);have I2:z5 X pins σ H1 {s1 with heap:=s1.heap.push {cls:= .type "tuple",data:= .seq [u1,u2].toArray}} :=I1.kept (t':=s1.toks) λb o e=>Heap.get?_push_of_some _ e;rw[hw];refine wpAny_bind (wpAny_pure ?_);show wpAny (model X.prog X.w) X.A (do rule "assign.swapped-stores";let items <- unpackItems (.ref s1.heap.objs.size) 2 none;assignInOrder [λv=>bindName X.env y v,λv=>bindName X.env x v] items.reverse;pure Flow.next) _ _ _;refine wpAny_bind (wpAny_rule (wpAny_bind (unpackItems_tuple (items:= #[u1,u2]) (I.ok.hd hc) (IsTup.new s1.heap _) λh' hx'=> ?_)));have I3:=I2.kept (h':=h') (t':=s1.toks) λb o e=>hx' b o (Nat.ne_of_lt (Heap.lt_size e)) e;show wpAny _ _ (assignInOrder [λv=>bindName X.env y v,λv=>bindName X.env x v] [u2,u1] >>= λ_=>pure Flow.next) _ _ _;refine wpAny_bind (assignInOrder_cons (wpAny_bindName (fF I3 hN hj (.inl hy) rw' (λs2 I4=> ?_) (.inr hy))));refine assignInOrder_cons (wpAny_bindName (fF I4 hN hi (.inl hx) rv (λs3 I5=>assignInOrder_nil (wpAny_pure ?_)) (.inr hx)));rw[List.set_comm _ _ (Ne.symm hij)]at I5;exact⟨_,H1,I5,q1⟩
end
section
variable {X:Cx} {pos:Pos}
end
structure It where
 go:Nat->Hp->Prop
 yld:Nat->Hp->V->Hp->Prop
 stop:Nat->Hp->Prop
def sE (X:Cx)(pins:List (Addr×Obj))(H:Hp)(b:Addr):Prop:=
 H b=none/\b≠X.env.locals/\b∉X.fs/\(b∈X.ex∨X.s₀.heap.objs.size<=b)/\(∀x c,X.env.cells.lookup x=some c->c≠b)/\∀p∈X.pn++pins,p.1≠b
theorem z5.fpOk {X:Cx}{pins:List (Addr×Obj)}{σ:St}{H H':Hp}{s:Shared}{b:Addr}(I:z5 X pins σ H s)(hb:s.heap.objs.size<=b)(hn:H' b=none):sE X pins H' b:=by
 refine⟨hn,Nat.ne_of_gt (Nat.lt_of_lt_of_le I.lt hb),I.nofs hb,.inr (Nat.le_trans I.sz hb),λx c e z=> ?_,λp hp z=> ?_⟩
 ·obtain⟨v,q⟩:=I.cell x c e
  exact absurd (Nat.lt_of_lt_of_le q.lt (by rw[z];exact hb)) (Nat.lt_irrefl _)
 ·exact absurd (Nat.lt_of_lt_of_le (Heap.lt_size (I.pin p hp).1) (by rw[z];exact hb)) (Nat.lt_irrefl _)
structure pF (P:Program)(w:World)(K:Frag)(tg:Expr)(J:It)(fp:List Addr)(it:Addr)(tn:Nat->Heap->Prop):Prop where
 mem:it∈fp
 obj: ∀i h,tn i h->∀b∈fp,∃o,h.get? b=some o/\∀v,o.data≠ .cell v
 keep: ∀i h h',tn i h->(∀b∈fp,∀o,h.get? b=some o->h'.get? b=some o)->tn i h'
 item: ∀(X:Cx),X.prog=P->X.w=w->X.K=K->X.calm=true->∀(i:Nat) (pins:List (Addr×Obj)) (s:Shared) (σ:St) (H:Hp) (E:Value->Shared->Prop),z5 X pins σ H s->(∀b∈fp,sE X pins H b)->tn i s.heap->J.go i H->
  wpAny (model P w) X.A (pyNext (.ref it)) (λr s1=> ∃u,r=some u/\
   wpAny (model P w) X.A (letOwnedTupleGo tg (.ref it) u) (λ_ s2=> ∃x H',z5 X pins σ H' s2/\zU x u/\J.yld i H x H'/\tn (i+1) s2.heap/\∀b∈fp,H' b=none) E s1) E s
 done: ∀(X:Cx),X.prog=P->X.w=w->X.K=K->X.calm=true->∀(i:Nat) (pins:List (Addr×Obj)) (s:Shared) (σ:St) (H:Hp) (E:Value->Shared->Prop),z5 X pins σ H s->(∀b∈fp,sE X pins H b)->tn i s.heap->J.stop i H->
  wpAny (model P w) X.A (pyNext (.ref it)) (λr s1=>r=none/\z5 X pins σ H s1) E s
 self: ∀(A:Around) (i:Nat) (s:Shared) (Q:Value->Shared->Prop) (E:Value->Shared->Prop),tn i s.heap->Q (.ref it) s->wpAny (model P w) A (pyIter (.ref it)) Q E s
abbrev TI:=St->Hp->(It->Hp->Prop)->Prop
def i7 (X:Cx)(pins:List (Addr×Obj))(σ:St)(tg:Expr)(R:It->Hp->Prop)(itv:Value)(s2:Shared):Prop:=
 ∃(it:Addr) (fp:List Addr) (tn:Nat->Heap->Prop) (J:It) (H':Hp),itv= .ref it/\z5 X pins σ H' s2/\pF X.prog X.w X.K tg J fp it tn/\tn 0 s2.heap/\(∀b∈fp,sE X pins H' b)/\R J H'
structure PI (X:Cx)(tg iter:Expr)(wi:TI):Prop where
 run:
  ∀(pins:List (Addr×Obj)) (s:Shared) (σ:St) (H:Hp) (R:It->Hp->Prop),z5 X pins σ H s->wi σ H R->
   wpAny (model X.prog X.w) X.A (eval iter X.env) (λv s1=>wpAny (model X.prog X.w) X.A (pyIter v) (i7 X pins σ tg R) X.xe s1) X.xe s
instance {X:Cx} {tg iter:Expr} {wi:TI} :CoeFun (PI X tg iter wi) λ_=>
 ∀(pins:List (Addr×Obj)) (s:Shared) (σ:St) (H:Hp) (R:It->Hp->Prop),z5 X pins σ H s->wi σ H R->
  wpAny (model X.prog X.w) X.A (eval iter X.env) (λv s1=>wpAny (model X.prog X.w) X.A (pyIter v) (i7 X pins σ tg R) X.xe s1) X.xe s
  :=⟨PI.run⟩
theorem h6 {M:Model}{A:Around}{E:Value->Shared->Prop}{s:Shared}{tg:Expr}{it:Addr}{u:Value}{o:Obj}{n:String}{vs:Array Value}{Q:Unit->Shared->Prop}(ho:s.heap.get? it=some o)(hc:o.cls= .type n)(hd:o.data= .fields vs)
  (hn: ["enumerate","zip","dict_itemiterator","dict_reverseitemiterator","odict_iterator","itertools.zip_longest","itertools.pairwise"].contains n=false) (hQ:Q () s):wpAny M A (letOwnedTupleGo tg (.ref it) u) Q E s:=by
 unfold letOwnedTupleGo;cases tg <;> first
  | exact wpAny_pure hQ
  | (cases u <;> first
    | exact wpAny_pure hQ
    | (refine wpAny_bind (wpAny_load ho ?_)
       rw[hc,hd];show wpAny M A (if(["enumerate","zip","dict_itemiterator","dict_reverseitemiterator","odict_iterator","itertools.zip_longest","itertools.pairwise"].contains n&&vs[0]?==some (rawInt _))=true then _ else _) Q E s;rw[if_neg (by intro h;rw[hn,Bool.false_and]at h;cases h)];exact wpAny_pure hQ))
def i3 (K:Frag)(a:Addr):It:=
 ⟨λi H=> ∃xs x,x5 K H a xs/\xs[i]?=some x,λi H x H'=>H'=H/\∀xs,x5 K H a xs->xs[i]?=some x,λi H=> ∃xs,x5 K H a xs/\xs.length<=i⟩
def eF (K:Frag)(a:Addr):It:=
 ⟨λi H=> ∃xs x,x4 K H a xs/\xs[i]?=some x,λi H x H'=>H'=H/\∀xs,x4 K H a xs->xs[i]?=some x,λi H=> ∃xs,x4 K H a xs/\xs.length<=i⟩
def lM (lo:Int)(n:Nat):It:=⟨λi _=>i < n,λi H x H'=>H'=H/\x= .int (lo+i),λi _=>n<=i⟩
theorem zq_ {P:Program}{w:World}{K:Frag}{tg:Expr}(a it:Addr):pF P w K tg (i3 K a) [it] it (λi h=>h.IsListIter it a i) where
 mem:=by simp
 obj:=λi h st b hb=>by
  have e:b=it:=by simpa using hb
  subst e;obtain⟨o,e,c,d⟩:=st;exact⟨o,e,λv z=>by rw[d]at z;cases z⟩
 keep:=λi h h' st k=>st.at λo e=>k it (by simp) o e
 item:=by
  intro X hP hw hK hc i pins s σ H E I hf st hg;subst hP hw hK;obtain⟨xs,x,hq,hx⟩:=hg;obtain⟨its,rv,p,hz⟩:=I.list hq;obtain⟨u,hu,ru⟩:=rv.get hx;obtain⟨f0,f1,f2,f3,f4,f5⟩:=hf it (by simp);refine wpAny_pyNext_list_item st p.isList (x:=u) (by simpa using hu) λh' st' sb=> ?_;have I1:z5 X pins σ H {s with heap:=h'} :=I.turned (t':=s.toks) (λb o hb e=>(sb.2 b hb).trans e) f0 f1 f3 f4 f5;obtain⟨o,e,c,d⟩:=id st';exact⟨u,rfl,h6 (s:= {s with heap:=h'}) e c d (by decide) ⟨x,H,I1,ru,⟨rfl,λys hy=>by rw[I.list_inj hy hq];exact hx⟩,st',λb hb=>(hf b hb).1⟩⟩
 done:=by
  intro X hP hw hK hc i pins s σ H E I hf st hg;subst hP hw hK;obtain⟨xs,hq,hx⟩:=hg;obtain⟨its,rv,p,hz⟩:=I.list hq;obtain⟨f0,f1,f2,f3,f4,f5⟩:=hf it (by simp);have hl:=rv.length;exact wpAny_pyNext_list_end (I.ok.hd hc) st p.isList (by simp;omega) λh' eb=>⟨rfl,I.turned (t':=s.toks) (λb o hb e=>eb b o hb e) f0 f1 f3 f4 f5⟩
 self:=λ_ _ _ _ _ st h=>wpAny_pyIter_listiter st h
theorem zqB {P:Program}{w:World}{K:Frag}{tg:Expr}(a it:Addr):pF P w K tg (eF K a) [it] it (λi h=>h.IsTupleIter it a i) where
 mem:=by simp
 obj:=λi h st b hb=>by
  have e:b=it:=by simpa using hb
  subst e;obtain⟨o,e,c,d⟩:=st;exact⟨o,e,λv z=>by rw[d]at z;cases z⟩
 keep:=λi h h' st k=>st.at λo e=>k it (by simp) o e
 item:=by
  intro X hP hw hK hc i pins s σ H E I hf st hg;subst hP hw hK;obtain⟨xs,x,hq,hx⟩:=hg;obtain⟨its,rv,p,hz⟩:=I.tuple hq;obtain⟨u,hu,ru⟩:=rv.get hx;obtain⟨f0,f1,f2,f3,f4,f5⟩:=hf it (by simp);refine wpAny_pyNext_tuple_item st (show s.heap.IsTuple a its.toArray from p) (x:=u) (by simpa using hu) λh' st' sb=> ?_;have I1:z5 X pins σ H {s with heap:=h'} :=I.turned (t':=s.toks) (λb o hb e=>(sb.2 b hb).trans e) f0 f1 f3 f4 f5;obtain⟨o,e,c,d⟩:=id st';exact⟨u,rfl,h6 (s:= {s with heap:=h'}) e c d (by decide) ⟨x,H,I1,ru,⟨rfl,λys hy=>by rw[I.tuple_inj hy hq];exact hx⟩,st',λb hb=>(hf b hb).1⟩⟩
 done:=by
  intro X hP hw hK hc i pins s σ H E I hf st hg;subst hP hw hK;obtain⟨xs,hq,hx⟩:=hg;obtain⟨its,rv,p,hz⟩:=I.tuple hq;obtain⟨f0,f1,f2,f3,f4,f5⟩:=hf it (by simp);have hl:=rv.length;exact wpAny_pyNext_tuple_end (I.ok.hd hc) st (show s.heap.IsTuple a its.toArray from p) (by simp;omega) λh' eb=>⟨rfl,I.turned (t':=s.toks) (λb o hb e=>eb b o hb e) f0 f1 f3 f4 f5⟩
 self:=λ_ _ _ _ _ st h=>wpAny_pyIter_tupleiter st h
theorem zqA {P:Program}{w:World}{K:Frag}{tg:Expr}(it:Addr)(lo:Int)(n:Nat):pF P w K tg (lM lo n) [it] it (λi h=>IsRangeIter h it (lo+(i:Nat) * 1) ((n:Int) - (i:Nat)) 1) where
 mem:=by simp
 obj:=λi h st b hb=>by
  have e:b=it:=by simpa using hb
  subst e;exact⟨_,st,λv z=>by
   have z':Data.fields _=Data.cell v:=z;cases z'⟩
 keep:=λi h h' st k=>k it (by simp) _ st
 item:=by
  intro X hP hw hK hc i pins s σ H E I hf st hg;subst hP hw hK;obtain⟨f0,f1,f2,f3,f4,f5⟩:=hf it (by simp);have W:=Walks.range (prog:=X.prog) (w:=X.w) (I.ok.hd hc) it lo 1 n;refine W.item i s _ _ hg st λv h' tk hv st' kk=> ?_;obtain⟨t,rfl⟩:=hv;have I1:z5 X pins σ H {s with heap:=h',toks:=tk} :=I.turned (λb o hb e=>kk b o (by simpa using hb) e) f0 f1 f3 f4 f5;refine⟨_,rfl,h6 (s:= {s with heap:=h',toks:=tk}) (n:= "range_iterator") st' rfl rfl (by decide) ⟨.int (lo+i),H,I1,⟨t,?_⟩,⟨rfl,rfl⟩,st',λb hb=>(hf b hb).1⟩⟩;rw[Int.mul_one]
 done:=by
  intro X hP hw hK hc i pins s σ H E I hf st hg;subst hP hw hK;obtain⟨f0,f1,f2,f3,f4,f5⟩:=hf it (by simp);exact wpAny_pyNext_range_end (I.ok.hd hc) st (by have:n<=i:=hg;omega) λh' eb=>⟨rfl,I.turned (t':=s.toks) (λb o hb e=>eb b o hb e) f0 f1 f3 f4 f5⟩
 self:=λ_ _ _ _ _ st h=>wpAny_pyIter_rangeiter st h
end L2
namespace L2
open PySem PySem.Spec PyProof.Rows
section
variable {X:Cx} {tg:Expr}
theorem zgA {pins:List (Addr×Obj)}{σ:St}{H:Hp}{s:Shared}{R:It->Hp->Prop}{E:Value->Shared->Prop}{lo hi:Int}{t u v:Tok}{tk:Nat}(I:z5 X pins σ H s)(h1: -(2 ^ 62)<=lo)(h2:lo < 2 ^ 62)(h3: -(2 ^ 62)<=hi)(h4:hi < 2 ^ 62)
  (q:R (lM lo (hi - lo).toNat) H):wpAny (model X.prog X.w) X.A (pyIter (.ref s.heap.objs.size)) (i7 X pins σ tg R) E {s with heap:=s.heap.push {cls:= .type "range",data:= .fields #[.int lo t,.int hi u,.int 1 v]},toks:=tk} :=by
 refine wpAny_pyIter_range (IsRange.new ..) (small_one h1 h2 h3 h4) ?_;have I1:z5 X pins σ H {s with heap:=s.heap.push {cls:= .type "range",data:= .fields #[.int lo t,.int hi u,.int 1 v]},toks:=tk} :=I.kept λb o e=>Heap.get?_push_of_some _ e;refine⟨(s.heap.push {cls:= .type "range",data:= .fields #[.int lo t,.int hi u,.int 1 v]}).objs.size,[(s.heap.push {cls:= .type "range",data:= .fields #[.int lo t,.int hi u,.int 1 v]}).objs.size],_,_,H,rfl,
  I1.kept (t':=tk) λb o e=>Heap.get?_push_of_some _ e,zqA _ lo (hi - lo).toNat,?_,λb hb=> ?_,q⟩
 ·have e1:lo+((0:Nat):Int) * 1=lo:=by simp
  have e2:(((hi - lo).toNat:Nat):Int) - ((0:Nat):Int)=Builtin.Range.rangeSize lo hi 1:=by rw[rangeSize_one];split <;> omega
  show IsRangeIter _ _ (lo+((0:Nat):Int) * 1) ((((hi - lo).toNat:Nat):Int) - ((0:Nat):Int)) 1;rw[e1,e2];exact Heap.get?_push_size _ rfl
 ·have e:b=(s.heap.push {cls:= .type "range",data:= .fields #[.int lo t,.int hi u,.int 1 v]}).objs.size:=by simpa using hb
  subst e;exact I1.fpOk (Nat.le_refl _) (I1.hok.fresh (Nat.le_refl _))
def zll (ta:TA):TI:=λσ H R=>ta σ H λvs H1=> ∃j:Int,vs= [.int j]/\ -(2 ^ 62)<=j/\j < 2 ^ 62/\R (lM 0 j.toNat) H1
def zlm (ta:TA):TI:=λσ H R=>ta σ H λvs H1=> ∃i j:Int,vs= [.int i,.int j]/\(-(2 ^ 62)<=i/\i < 2 ^ 62/\ -(2 ^ 62)<=j/\j < 2 ^ 62)/\R (lM i (j - i).toNat) H1
theorem zov {a:Expr}{ta:TA}{p pos:Pos}(hg:Gl X "range")(hm:X.mg "range" =none)(ha:PA X [a] ta)(hs:starEach [a] X.env= [(false,eval a X.env)]:=by rfl):PI X tg (.Call (.Name "range" p) [a] [] pos) (zll ta):=by
 (first | refine⟨?_⟩ | skip)
 intro pins s σ H R I h;refine Call_ (mE I hg hm boot_range (callWith_type1 (y8 (ha pos pins s σ H _ I h) λus s1 ⟨vs,H1,I1,r1,q1⟩=> ?_) hs rfl));obtain⟨j,e,q1,q2,q⟩:=q1;subst e;cases r1 with
 | cons r rr=>
  cases rr;obtain⟨t,rfl⟩:=r;exact call_range_1 (zgA I1 (by omega) (by omega) q1 q2 (by simpa using q))
theorem zow {a b:Expr}{ta:TA}{p pos:Pos}(hg:Gl X "range")(hm:X.mg "range" =none)(ha:PA X [a,b] ta)(hs:starEach [a,b] X.env= [(false,eval a X.env),(false,eval b X.env)]:=by rfl)(hs2:starEach [b] X.env= [(false,eval b X.env)]:=by rfl):
  PI X tg (.Call (.Name "range" p) [a,b] [] pos) (zlm ta):=by
 (first | refine⟨?_⟩ | skip)
 intro pins s σ H R I h;refine Call_ (mE I hg hm boot_range (callWith_type1 (y8 (ha pos pins s σ H _ I h) λus s1 ⟨vs,H1,I1,r1,q1⟩=> ?_) (by rw[hs,hs2]) (by rw[hs2];rfl)));obtain⟨i,j,e,⟨q1,q2,q3,q4⟩,q⟩:=q1;subst e;cases r1 with
 | cons r rr=>
  cases rr with
  | cons r' rr=>
   cases rr;obtain⟨t,rfl⟩:=r;obtain⟨t',rfl⟩:=r';exact call_range_2 (zgA I1 q1 q2 q3 q4 q)
def zqi (wi:TI)(g:TG)(tb:TS):TS:=λD σ H=>wi σ H λJ H1=> ∃W:Nat->Nat->St->Hp->Prop,(∃m,W 0 m σ H1)/\∀i m σ H,W i m σ H->
 (J.stop i H/\D.nx σ H)∨(J.go i H/\∃N:St->Hp->Prop,(∀σ' H',N σ' H'->∃m',m' < m/\W (i+1) m' σ' H')/\∀x H',J.yld i H x H'->g x σ H' λσ2 H2=>tb {D with nx:=N,ct:=N,bk:=D.nx} σ2 H2)
def sV (fp:List Addr)(h:Heap):List (Addr×Obj):=fp.filterMap λb=>(h.get? b).map λo=>(b,o)
theorem mH {fp:List Addr}{h:Heap}{b:Addr}{o:Obj}(hb:b∈fp)(e:h.get? b=some o):(b,o)∈sV fp h:=List.mem_filterMap.mpr ⟨b,hb,by rw[e];rfl⟩
theorem zbq {fp:List Addr}{h:Heap}{p:Addr×Obj}(hp:p∈sV fp h):p.1∈fp/\h.get? p.1=some p.2:=by
 obtain⟨b,hb,e⟩:=List.mem_filterMap.mp hp;cases q:h.get? b with
 | none=>rw[q]at e;cases e
 | some o=>
  rw[q]at e;have e':(b,o)=p:=Option.some.inj e;subst e';exact⟨hb,q⟩
theorem z5.pinned {pins:List (Addr×Obj)}{σ:St}{H:Hp}{s:Shared}{fp:List Addr}(I:z5 X pins σ H s)(hf: ∀b∈fp,sE X pins H b)(ho: ∀b∈fp,∃o,s.heap.get? b=some o/\∀v,o.data≠ .cell v):z5 X (pins++sV fp s.heap) σ H s:=
 I.pins_of λp hp=>(List.mem_append.mp hp).elim (λz=>I.pin p (List.mem_append_right _ z)) λz=>by
  obtain⟨hb,e⟩:=zbq z;obtain⟨f0,f1,f2,_⟩:=hf p.1 hb;obtain⟨o,e',d⟩:=ho p.1 hb;rw[e]at e';cases e';exact⟨e,f0,f1,f2,d⟩
theorem z5.unpinned {pins pl:List (Addr×Obj)}{σ:St}{H:Hp}{s:Shared}(I:z5 X (pins++pl) σ H s):z5 X pins σ H s:=I.pins_of λp hp=>I.pin p (List.mem_append_right _ (List.mem_append_left _ hp))
theorem zo8 {iter:Expr}{body:List Stmt}{wi:TI}{g:TG}{tb:TS}{pos:Pos}(hp:PassesOwn (model X.prog X.w) X.A X.env X.xe)(hc:X.calm=true)(hi:PI X tg iter wi)(hg:PG X tg g)(hb:xQ X body tb)
  (hs: ∀x,foldedSetIterable iter X.env x=pure x:=by intro _;rfl):PS X (.For tg iter body [] pos) (zqi wi g tb):=by
 (first | refine⟨?_⟩ | skip)
 intro pins s σ H D I h;refine wpAny_For (y8 (hi pins s σ H _ I h) λv s1 h1=>y8 h1 λitv s2 h2=> ?_) hs;obtain⟨it,fp,tn,J,H2,e,I2,T,st2,f2,W,⟨m0,w0⟩,turn⟩:=h2;subst e;have stat: ∀{H':Hp},(∀b∈fp,H' b=none)->∀b∈fp,sE X pins H' b:=λhn b hb=>⟨hn b hb,(f2 b hb).2⟩;refine codeAny_forLoop_any (λn s'=> ∃i σ' H',z5 X pins σ' H' s'/\tn i s'.heap/\(∀b∈fp,H' b=none)/\W i n σ' H') ?_ m0 ⟨0,σ,H2,I2,st2,λb hb=>(f2 b hb).1,w0⟩;rintro n s3 ⟨i,σ3,H3,I3,st3,fr3,w3⟩;rcases turn i n σ3 H3 w3 with⟨stop,qn⟩ | ⟨go,N,hN,step⟩
 ·refine wpAny_passesOwn hp (y8 (T.done X rfl rfl rfl hc i pins s3 σ3 H3 X.xe I3 (stat fr3) st3 stop) λr s4 ⟨hr,I4⟩=> ?_)
  subst hr;exact wpAny_execs_nil ⟨σ3,H3,I4,qn⟩
 ·refine wpAny_passesOwn hp (y8 (T.item X rfl rfl rfl hc i pins s3 σ3 H3 X.xe I3 (stat fr3) st3 go) λr s4 ⟨u,hr,h4⟩=> ?_)
  subst hr;refine wpAny_passesOwn hp (y8 h4 λ_ s5 ⟨x,H5,I5,r5,y5,st5,fr5⟩=> ?_);have I5':=I5.pinned (stat fr5) (T.obj _ _ st5);refine wpAny_passesOwn hp (y8 (hg _ s5 σ3 H5 x u _ I5' r5 (step x H5 y5)) λ_ s6 ⟨σ6,H6,I6,q6⟩=> ?_);refine wpAny_passesOwn hp (y8 (hb _ s6 σ6 H6 _ I6 q6) λf s7 q7=> ?_);have again: ∀{σ7:St} {H7:Hp},z5 X (pins++sV fp s5.heap) σ7 H7 s7->N σ7 H7->∃m,m < n/\∃i σ' H',z5 X pins σ' H' s7/\tn i s7.heap/\(∀b∈fp,H' b=none)/\W i m σ' H':=λ{σ7 H7} I7 n7=>by
   obtain⟨m',hm,w7⟩:=hN σ7 H7 n7;refine⟨m',hm,i+1,σ7,H7,I7.unpinned,T.keep _ _ _ st5 λb hb o e=>(I7.pin (b,o) (List.mem_append_right _ (List.mem_append_right _ (mH hb e)))).1,λb hb=> ?_,w7⟩;obtain⟨o,e,d⟩:=T.obj _ _ st5 b hb;exact(I7.pin (b,o) (List.mem_append_right _ (List.mem_append_right _ (mH hb e)))).2.1
  cases f with
  | next=>obtain⟨σ7,H7,I7,n7⟩:=q7;exact again I7 n7
  | cont=>obtain⟨σ7,H7,I7,n7⟩:=q7;exact again I7 n7
  | brk=>obtain⟨σ7,H7,I7,q7⟩:=q7;exact⟨σ7,H7,I7.unpinned,q7⟩
  | ret v=>obtain⟨x7,σ7,H7,I7,r7,q7⟩:=q7;exact⟨x7,σ7,H7,I7.unpinned,r7,q7⟩
end
end L2
namespace L2
open PySem PySem.Spec PyProof.Rows
abbrev R2:=V->V->Hp->VK->Prop
def yN (X:Cx)(f:Value->Value->Sem Value)(r:R2):Prop:=
 ∀(pins:List (Addr×Obj)) (s:Shared) (σ:St) (H:Hp) (x y:V) (v u:Value) (Q:VK),z5 X pins σ H s->zU x v->zU y u->r x y H Q->
  wpAny (model X.prog X.w) X.A (f v u) (EP X pins σ Q) X.xe s
def lV (X:Cx)(f:Value->Sem Value)(r:V->Hp->VK->Prop):Prop:=
 ∀(pins:List (Addr×Obj)) (s:Shared) (σ:St) (H:Hp) (x:V) (v:Value) (Q:VK),z5 X pins σ H s->zU x v->r x H Q->
  wpAny (model X.prog X.w) X.A (f v) (EP X pins σ Q) X.xe s
def xB (X:Cx)(f:Value)(r:List V->Hp->VK->Prop):Prop:=
 ∀(pins:List (Addr×Obj)) (s:Shared) (σ:St) (H:Hp) (xs:List V) (us:List Value) (Q:VK),z5 X pins σ H s->zR xs us->r xs H Q->
  wpAny (model X.prog X.w) X.A (call f us) (EP X pins σ Q) X.xe s
def ziM (X:Cx)(r:V->Hp->(Bool->Hp->Prop)->Prop):Prop:=
 ∀(pins:List (Addr×Obj)) (s:Shared) (σ:St) (H:Hp) (x:V) (v:Value) (Q:Bool->Hp->Prop),z5 X pins σ H s->zU x v->r x H Q->
  wpAny (model X.prog X.w) X.A (truthy v) (TP X pins σ Q) X.xe s
def jJ (r:R2)(ta tb:TE):TE:=λσ H Q=>ta σ H λx H1=>tb σ H1 λy H2=>r x y H2 Q
def tUn (r:V->Hp->VK->Prop)(ta:TE):TE:=λσ H Q=>ta σ H λx H1=>r x H1 Q
def rI (C:Int->Int->Prop)(g:Int->Int->V):R2:=λx y H Q=> ∃i j,x= .int i/\y= .int j/\C i j/\Q (g i j) H
def qL (g:Int->Int->V):R2:=λx y H Q=> ∃i j,x= .int i/\y= .int j/\Q (g i j) H
def rU (g:Int->V):V->Hp->VK->Prop:=λx H Q=> ∃i,x= .int i/\Q (g i) H
section
variable {X:Cx} {a b c:Expr} {ta tb tc:TE} {pos:Pos}
theorem eX (ha:PE X a ta)(hb:PE X b tb){pins:List (Addr×Obj)}{s:Shared}{σ:St}{H:Hp}{R:V->V->Hp->Prop}(I:z5 X pins σ H s)
  (h:ta σ H λx H1=>tb σ H1 λy H2=>R x y H2) {Q:Value->Shared->Prop} {f:Value->Value->Sem Value}
  (hf: ∀v u s2 x y H2,z5 X pins σ H2 s2->zU x v->zU y u->R x y H2->wpAny (model X.prog X.w) X.A (f v u) Q X.xe s2):
  wpAny (model X.prog X.w) X.A (eval a X.env) (λv s₁=>wpAny (model X.prog X.w) X.A (eval b X.env) (λu s₂=>wpAny (model X.prog X.w) X.A (f v u) Q X.xe s₂) X.xe s₁) X.xe s:=by
 refine y8 (ha pins s σ H _ I h) λv s1 ⟨x,H1,I1,r1,q1⟩=> ?_;refine y8 (hb pins s1 σ H1 _ I1 q1) λu s2 ⟨y,H2,I2,r2,q2⟩=> ?_;exact hf v u s2 x y H2 I2 r1 r2 q2
theorem o6 {op:Operator}{r:R2}(ho:yN X (binaryOp op) r)(ha:PE X a ta)(hb:PE X b tb):PE X (.BinOp a op b pos) (jJ r ta tb):=by
 (first | refine⟨?_⟩ | skip)
 intro pins s σ H Q I h;exact wpAny_BinOp (eX ha hb I h λv u s2 x y H2 I2 rx ry q=>ho pins s2 σ H2 x y v u Q I2 rx ry q)
theorem zog {op:UnaryOp}{r:V->Hp->VK->Prop}(ho:lV X (unaryOp op) r)(ha:PE X a ta):PE X (.UnaryOp op a pos) (tUn r ta):=by
 (first | refine⟨?_⟩ | skip)
 intro pins s σ H Q I h;exact UnaryOp_ (y8 (ha pins s σ H _ I h) λv s1 ⟨x,H1,I1,r1,q1⟩=>ho pins s1 σ H1 x v Q I1 r1 q1)
theorem sU {f:Value->Value->Sem Value}{C:Int->Int->Prop}{g:Int->Int->Int}
  (rule: ∀(i j:Int) (t u:Tok) (s:Shared) (Q:Value->Shared->Prop) (E:Value->Shared->Prop),C i j->Q (.int (g i j) s.toks) {s with toks:=s.toks+1} ->wpAny (model X.prog X.w) X.A (f (.int i t) (.int j u)) Q E s):
  yN X f (rI C λi j=> .int (g i j)):=by
 (first | refine⟨?_⟩ | skip)
 intro pins s σ H x y v u Q I rx ry h;obtain⟨i,j,rfl,rfl,hc,q⟩:=h;obtain⟨t,rfl⟩:=rx;obtain⟨t',rfl⟩:=ry;exact rule i j t t' s _ _ hc ⟨.int (g i j),H,I.tok _,⟨_,rfl⟩,q⟩
theorem zfZ {f:Value->Value->Sem Value}{g:Int->Int->Int}
  (rule: ∀(i j:Int) (t u:Tok) (s:Shared) (Q:Value->Shared->Prop) (E:Value->Shared->Prop),Q (.int (g i j) s.toks) {s with toks:=s.toks+1} ->wpAny (model X.prog X.w) X.A (f (.int i t) (.int j u)) Q E s):
  yN X f (qL λi j=> .int (g i j)):=by
 (first | refine⟨?_⟩ | skip)
 intro pins s σ H x y v u Q I rx ry h;obtain⟨i,j,rfl,rfl,q⟩:=h;obtain⟨t,rfl⟩:=rx;obtain⟨t',rfl⟩:=ry;exact rule i j t t' s _ _ ⟨.int (g i j),H,I.tok _,⟨_,rfl⟩,q⟩
theorem zbu {f:Value->Value->Sem Value}{g:Int->Int->Bool}
  (rule: ∀(i j:Int) (t u:Tok) (s:Shared) (Q:Value->Shared->Prop) (E:Value->Shared->Prop),Q (.bool (g i j)) s->wpAny (model X.prog X.w) X.A (f (.int i t) (.int j u)) Q E s):
  yN X f (qL λi j=> .bl (g i j)):=by
 (first | refine⟨?_⟩ | skip)
 intro pins s σ H x y v u Q I rx ry h;obtain⟨i,j,rfl,rfl,q⟩:=h;obtain⟨t,rfl⟩:=rx;obtain⟨t',rfl⟩:=ry;exact rule i j t t' s _ _ ⟨.bl (g i j),H,I,rfl,q⟩
def jO (i j:Int):Prop:=0<=j/\j<=1000000/\i.natAbs < 2 ^ 64
def fT (i j:Int):Prop:=(-(2 ^ 64) < i/\i < 2 ^ 64)∨(-(2 ^ 64) < j/\j < 2 ^ 64)
theorem fT.ok {i j:Int}(h:fT i j):IntMulOk i j:=by
 rcases h with⟨h1,h2⟩ | ⟨h1,h2⟩
 ·exact .of_left (intBits_le_64 h1 h2)
 ·exact .of_right (intBits_le_64 h1 h2)
theorem zga:yN X (binaryOp .Add) (qL λi j=> .int (i+j)):=zfZ λ_ _ _ _ _ _ _ q=>add_int q
theorem zge:yN X (binaryOp .Sub) (qL λi j=> .int (i - j)):=zfZ λ_ _ _ _ _ _ _ q=>sub_int q
theorem zgc:yN X (binaryOp .Mult) (rI fT λi j=> .int (i * j)):=sU λ_ _ _ _ _ _ _ hc q=>mul_int q hc.ok
theorem gB:yN X (binaryOp .Mod) (rI (λ_ j=>0 < j) λi j=> .int (i % j)):=sU λi j _ _ _ _ _ hc q=>by
 have h1:(0:Int) < j:=hc;exact mod_int' (by omega) (by rw[Int.fmod_eq_emod_of_nonneg i (by omega)];exact q)
theorem znJ:yN X (binaryOp .Pow) (rI jO λi j=> .int (i ^ j.toNat)):=sU λ_ _ _ _ _ _ _ hc q=>pow_int_small hc.1 hc.2.1 hc.2.2 q
theorem unI {f:Value->Sem Value}{g:Int->Int}
  (rule: ∀(i:Int) (t:Tok) (s:Shared) (Q:Value->Shared->Prop) (E:Value->Shared->Prop),Q (.int (g i) s.toks) {s with toks:=s.toks+1} ->wpAny (model X.prog X.w) X.A (f (.int i t)) Q E s):
  lV X f (rU λi=> .int (g i)):=by
 (first | refine⟨?_⟩ | skip)
 intro pins s σ H x v Q I rx h;obtain⟨i,rfl,q⟩:=h;obtain⟨t,rfl⟩:=rx;exact rule i t s _ _ ⟨.int (g i),H,I.tok _,⟨_,rfl⟩,q⟩
theorem zqH:lV X (unaryOp .USub) (rU λi=> .int (-i)):=unI λ_ _ _ _ _ q=>neg_int q
end
def zgW:V->V->Bool
 | .non,.non=>true | .non,.int _=>true | .int _,.non=>true | .non,.bl _=>true | .bl _,.non=>true | .non,.str _=>true | .str _,.non=>true
 | .int _,.int _=>true | .bl _,.bl _=>true | .str _,.str _=>true | .byt _,.byt _=>true
 | .int _,.str _=>true | .str _,.int _=>true | .bl _,.str _=>true | .str _,.bl _=>true
 | _,_=>false
def rEq:R2:=λx y H Q=>zgW x y=true/\Q (.bl (decide (x=y))) H
def rNe:R2:=λx y H Q=>zgW x y=true/\Q (.bl (!decide (x=y))) H
theorem iN {i j:Int} :decide (V.int i=V.int j)=(i==j):=by
 rw[Bool.eq_iff_iff];simp
theorem zd4 {i j:Bool} :decide (V.bl i=V.bl j)=(i==j):=by
 rw[Bool.eq_iff_iff];simp
theorem zd6 {i j:Str} :decide (V.str i=V.str j)=(i==j):=by
 rw[Bool.eq_iff_iff];simp
theorem zd5 {i j:Array UInt8} :decide (V.byt i=V.byt j)=(i.toList==j.toList):=by
 rw[Bool.eq_iff_iff];cases i;cases j;simp
section
variable {X:Cx} {a b c:Expr} {ta tb tc:TE} {pos:Pos}
theorem xD {pins:List (Addr×Obj)}{σ:St}{H:Hp}{s:Shared}{Q:VK}{k k':Bool}(I:z5 X pins σ H s)(q:Q (.bl k) H)(e:k=k'):EP X pins σ Q (.bool k') s:=by
 subst e;exact⟨.bl k,H,I,rfl,q⟩
theorem qC:yN X (compareOp .Eq) rEq:=by
 (first | refine⟨?_⟩ | skip)
 intro pins s σ H x y v u Q I rx ry h;obtain⟨hs,q⟩:=h;cases x with
 | non=>
  cases rx;cases y with
  | non=>cases ry;exact PySem.EqNone.eq_none_none (xD I q (by simp))
  | bl j=>cases ry;exact PySem.EqNone.eq_none_bool (xD I q (by simp))
  | int j=>obtain⟨t',rfl⟩:=ry;exact PySem.EqNone.eq_none_int (xD I q (by simp))
  | str j=>obtain⟨t',rfl⟩:=ry;exact PySem.EqNone.eq_none_str (xD I q (by simp))
  | _=>exact absurd (show false=true from hs) Bool.false_ne_true
 | bl i=>
  cases rx;cases y with
  | non=>cases ry;exact PySem.EqNone.eq_bool_none (xD I q (by simp))
  | bl j=>cases ry;exact eq_bool (xD I q zd4)
  | str j=>obtain⟨t',rfl⟩:=ry;exact PySem.EqMixed.eq_bool_str (xD I q (by simp))
  | _=>exact absurd (show false=true from hs) Bool.false_ne_true
 | int i=>
  obtain⟨t,rfl⟩:=rx;cases y with
  | non=>cases ry;exact PySem.EqNone.eq_int_none (xD I q (by simp))
  | int j=>obtain⟨t',rfl⟩:=ry;exact eq_int (xD I q iN)
  | str j=>obtain⟨t',rfl⟩:=ry;exact PySem.EqMixed.eq_int_str (xD I q (by simp))
  | _=>exact absurd (show false=true from hs) Bool.false_ne_true
 | str i=>
  obtain⟨t,rfl⟩:=rx;cases y with
  | non=>cases ry;exact PySem.EqNone.eq_str_none (xD I q (by simp))
  | bl j=>cases ry;exact PySem.EqMixed.eq_str_bool (xD I q (by simp))
  | int j=>obtain⟨t',rfl⟩:=ry;exact PySem.EqMixed.eq_str_int (xD I q (by simp))
  | str j=>obtain⟨t',rfl⟩:=ry;exact eq_str (xD I q zd6)
  | _=>exact absurd (show false=true from hs) Bool.false_ne_true
 | byt i=>
  obtain⟨t,rfl⟩:=rx;cases y with
  | byt j=>obtain⟨t',rfl⟩:=ry;exact PySem.W.eq_bytes (xD I q zd5)
  | _=>exact absurd (show false=true from hs) Bool.false_ne_true
 | _=>cases y <;> exact absurd (show false=true from hs) Bool.false_ne_true
theorem znF:yN X (compareOp .NotEq) rNe:=by
 (first | refine⟨?_⟩ | skip)
 intro pins s σ H x y v u Q I rx ry h;obtain⟨hs,q⟩:=h;cases x with
 | non=>
  cases rx;cases y with
  | non=>cases ry;exact PySem.EqNone.ne_none_none (xD I q (by simp))
  | bl j=>cases ry;exact PySem.EqNone.ne_none_bool (xD I q (by simp))
  | int j=>obtain⟨t',rfl⟩:=ry;exact PySem.EqNone.ne_none_int (xD I q (by simp))
  | str j=>obtain⟨t',rfl⟩:=ry;exact PySem.EqNone.ne_none_str (xD I q (by simp))
  | _=>exact absurd (show false=true from hs) Bool.false_ne_true
 | bl i=>
  cases rx;cases y with
  | non=>cases ry;exact PySem.EqNone.ne_bool_none (xD I q (by simp))
  | bl j=>cases ry;exact ne_bool (xD I q (congrArg not zd4))
  | str j=>obtain⟨t',rfl⟩:=ry;exact PySem.EqMixed.ne_bool_str (xD I q (by simp))
  | _=>exact absurd (show false=true from hs) Bool.false_ne_true
 | int i=>
  obtain⟨t,rfl⟩:=rx;cases y with
  | non=>cases ry;exact PySem.EqNone.ne_int_none (xD I q (by simp))
  | int j=>obtain⟨t',rfl⟩:=ry;exact ne_int (xD I q (congrArg not iN))
  | str j=>obtain⟨t',rfl⟩:=ry;exact PySem.EqMixed.ne_int_str (xD I q (by simp))
  | _=>exact absurd (show false=true from hs) Bool.false_ne_true
 | str i=>
  obtain⟨t,rfl⟩:=rx;cases y with
  | non=>cases ry;exact PySem.EqNone.ne_str_none (xD I q (by simp))
  | bl j=>cases ry;exact PySem.EqMixed.ne_str_bool (xD I q (by simp))
  | int j=>obtain⟨t',rfl⟩:=ry;exact PySem.EqMixed.ne_str_int (xD I q (by simp))
  | str j=>obtain⟨t',rfl⟩:=ry;exact ne_str (xD I q (congrArg not zd6))
  | _=>exact absurd (show false=true from hs) Bool.false_ne_true
 | byt i=>
  obtain⟨t,rfl⟩:=rx;cases y with
  | byt j=>obtain⟨t',rfl⟩:=ry;exact PySem.W.ne_bytes (xD I q (congrArg not zd5))
  | _=>exact absurd (show false=true from hs) Bool.false_ne_true
 | _=>cases y <;> exact absurd (show false=true from hs) Bool.false_ne_true
theorem zgb:yN X (compareOp .Lt) (qL λi j=> .bl (decide (i < j))):=zbu λ_ _ _ _ _ _ _ q=>lt_int q
theorem znD:yN X (compareOp .Gt) (qL λi j=> .bl (decide (j < i))):=zbu λ_ _ _ _ _ _ _ q=>gt_int q
theorem znC:yN X (compareOp .GtE) (qL λi j=> .bl (decide (j<=i))):=zbu λ_ _ _ _ _ _ _ q=>ge_int q
theorem znE:yN X (compareOp .Is) (λx y H Q=>y= .non/\Q (.bl (decide (x= .non))) H):=by
 (first | refine⟨?_⟩ | skip)
 intro pins s σ H x y v u Q I rx ry h;obtain⟨rfl,q⟩:=h;cases ry;refine is_none_gen (xD I q ?_);cases x <;> first
  | (cases rx;rfl)
  | (obtain⟨t,rfl⟩:=rx;rfl)
theorem znI:yN X (compareOp .IsNot) (λx y H Q=>y= .non/\Q (.bl (!decide (x= .non))) H):=by
 (first | refine⟨?_⟩ | skip)
 intro pins s σ H x y v u Q I rx ry h;obtain⟨rfl,q⟩:=h;cases ry;refine isnot_none_gen (xD I q ?_);cases x <;> first
  | (cases rx;rfl)
  | (obtain⟨t,rfl⟩:=rx;rfl)
theorem zS (b:Expr){op:CmpOp}(h:op≠ .In:=by decide)(h2:op≠ .NotIn:=by decide):behindInMarks op b=false:=by
 have e1:(op==CmpOp.In)=false:=by cases op <;> first | rfl | exact absurd rfl h
 have e2:(op==CmpOp.NotIn)=false:=by cases op <;> first | rfl | exact absurd rfl h2
 cases b <;> simp[behindInMarks,e1,e2]
theorem znW {op:CmpOp}{r:R2}(ho:yN X (compareOp op) r)(ha:PE X a ta)(hb:PE X b tb)(hm:behindInMarks op b=false):PE X (.Compare a [op] [b] pos) (jJ r ta tb):=by
 (first | refine⟨?_⟩ | skip)
 intro pins s σ H Q I h;exact wpAny_Compare1 (eX ha hb I h λv u s2 x y H2 I2 rx ry q=>ho pins s2 σ H2 x y v u Q I2 rx ry q) hm
def zh9 (t:TE):TT:=λσ H Q=>t σ H λx H'=> ∃k,x= .bl k/\Q k H'
theorem tV {op:CmpOp}{r:R2}(ho:yN X (compareOp op) r)(ha:PE X a ta)(hb:PE X b tb)(hm:behindInMarks op b=false):PT X (.Compare a [op] [b] pos) (zh9 (jJ r ta tb)):=by
 (first | refine⟨?_⟩ | skip)
 intro pins s σ H Q I h;refine wpAny_isTrue_Compare1 (y8 (ha pins s σ H _ I h) λv s1 ⟨x,H1,I1,r1,q1⟩=>y8 (hb pins s1 σ H1 _ I1 q1) λu s2 ⟨y,H2,I2,r2,q2⟩=>
  y8 (ho pins s2 σ H2 x y v u _ I2 r1 r2 q2) λc s3 ⟨z,H3,I3,r3,k,e,q3⟩=> ?_) hm
 subst e;cases r3;exact wpAny_truthy_bool ⟨H3,I3,q3⟩
def eN (K:Frag)(x:V)(H:Hp)(k:Bool):Prop:=
 match x with
 | .non=>k=false
 | .bl b=>k=b
 | .int i=>k=(i !=0)
 | .str y=>y.length<=sizeLine/\k=((y.length:Int) !=0)
 | .byt y=>y.size<=sizeLine/\k=((y.size:Int) !=0)
 | .ref p=>(∃xs,x5 K H p xs/\k= !xs.isEmpty)∨(∃xs,x4 K H p xs/\k= !xs.isEmpty)∨∃kvs,H p=some (.dK kvs)/\k= !kvs.isEmpty
 | _=>False
theorem zlu {κ:Type}{kvs:List (κ×V)}{vs:List (κ×Value)}(r:KV kvs vs):(!vs.isEmpty)= !kvs.isEmpty:=by
 cases r <;> rfl
theorem zfh {xs:List V}{its:List Value}(r:zR xs its):(!its.toArray.isEmpty)= !xs.isEmpty:=by
 cases r <;> simp
theorem pX:(sizeLine:Nat) < 2 ^ 63:=by rw[sizeLine_eq];decide
theorem zq6:ziM X (λx H Q=> ∃k,eN X.K x H k/\Q k H):=by
 (first | refine⟨?_⟩ | skip)
 intro pins s σ H x v Q I rx h;obtain⟨k,e,q⟩:=h;have hl:=pX;have hs:sizeLine=16777216:=sizeLine_eq;cases x with
 | non=>
  cases rx;have e':k=false:=e;subst e';exact truthy_none ⟨H,I,q⟩
 | bl b=>
  cases rx;have e':k=b:=e;subst e';exact wpAny_truthy_bool ⟨H,I,q⟩
 | int i=>
  obtain⟨t,rfl⟩:=rx;have e':k=(i !=0):=e;subst e';exact PySem.P.truthy_int ⟨H,I,q⟩
 | str y=>
  obtain⟨t,rfl⟩:=rx;obtain⟨hy,e'⟩:y.length<=sizeLine/\k=((y.length:Int) !=0):=e;subst e';exact PySem.P.truthy_str (by omega) ⟨H,I.tok _,q⟩
 | byt y=>
  obtain⟨t,rfl⟩:=rx;obtain⟨hy,e'⟩:y.size<=sizeLine/\k=((y.size:Int) !=0):=e;subst e';exact PySem.W.truthy_bytes (by omega) ⟨H,I.tok _,q⟩
 | ref p=>
  cases rx;have e':(∃xs,x5 X.K H p xs/\k= !xs.isEmpty)∨(∃xs,x4 X.K H p xs/\k= !xs.isEmpty)∨∃kvs,H p=some (.dK kvs)/\k= !kvs.isEmpty:=e;rcases e' with⟨xs,hx,e'⟩ | ⟨xs,hx,e'⟩ | ⟨kvs,hx,e'⟩
  ·subst e'
   obtain⟨its,r,pl,hz⟩:=I.list hx;have hlen:=r.length;exact wpAny_truthy_list pl.isList (by simp only[List.size_toArray];omega) ⟨H,I.tok _,by rw[zfh r];exact q⟩
  ·subst e'
   obtain⟨its,r,pl,hz⟩:=I.tuple hx;have hlen:=r.length;exact truthy_tuple pl (by simp only[List.size_toArray];omega) ⟨H,I.tok _,by rw[zfh r];exact q⟩
  ·subst e'
   obtain⟨hz,hS,vs,r,m⟩:kvs.length<=sizeLine/\(p==sysModules)=false/\∃vs,KV kvs vs/\s.heap.DictOf (yW X.prog X.w) p vs:=I.hok p _ hx;have hlen:kvs.length=vs.length:=Paired.length r;exact wpAny_truthy_dict hS m (by omega) ⟨H,I.tok _,by rw[zlu r];exact q⟩
 | _=>exact(show False from e).elim
theorem zoB (ha:PE X a ta)(he: ∀whole,isTrue a X.env whole=(do let v <- whole;standAt a.pos;holding [v] (truthy v))):
  PT X a (λσ H Q=>ta σ H λx H'=> ∃k,eN X.K x H' k/\Q k H'):=by
 (first | refine⟨?_⟩ | skip)
 intro pins s σ H Q I h;exact isTrue_plain (y8 (ha pins s σ H _ I h) λv s1 ⟨x,H1,I1,r1,q1⟩=>zq6 pins s1 σ H1 x v Q I1 r1 q1) (he _)
theorem znt:yN X (binaryOp .Add) (λx y H Q=> ∃i j,x= .str i/\y= .str j/\i.length+j.length<=sizeLine/\Q (.str (i++j)) H):=by
 (first | refine⟨?_⟩ | skip)
 intro pins s σ H x y v u Q I rx ry h;obtain⟨i,j,rfl,rfl,hz,q⟩:=h;obtain⟨t,rfl⟩:=rx;obtain⟨t',rfl⟩:=ry;exact add_str (λt' tk=>⟨.str (i++j),H,I.tok _,⟨_,rfl⟩,q⟩) hz
theorem vK {x:V}{us:List Value}(r:zR [x] us): ∃u,us= [u]/\zU x u:=by
 cases r with
 | cons r1 r2=>cases r2;exact⟨_,rfl,r1⟩
theorem jN {x y:V}{us:List Value}(r:zR [x,y] us): ∃u w',us= [u,w']/\zU x u/\zU y w':=by
 cases r with
 | cons r1 r2=>
  cases r2 with
  | cons r3 r4=>cases r4;exact⟨_,_,rfl,r1,r3⟩
theorem zjy (hc:X.calm=true):xB X (.builtin "max") (λxs H Q=> ∃i j,xs= [.int i,.int j]/\Q (.int (if j > i then j else i)) H):=by
 (first | refine⟨?_⟩ | skip)
 intro pins s σ H xs us Q I r h;obtain⟨i,j,rfl,q⟩:=h;obtain⟨u,w',rfl,⟨t,rfl⟩,⟨t',rfl⟩⟩:=jN r;refine max_two_ints (I.ok.hd hc) λh' tk k=>⟨_,H,I.kept k,?_,q⟩;by_cases hj:j > i
 ·rw[if_pos hj,if_pos hj];exact⟨_,rfl⟩
 ·rw[if_neg hj,if_neg hj];exact⟨_,rfl⟩
theorem zjz (hc:X.calm=true):xB X (.builtin "min") (λxs H Q=> ∃i j,xs= [.int i,.int j]/\Q (.int (if j < i then j else i)) H):=by
 (first | refine⟨?_⟩ | skip)
 intro pins s σ H xs us Q I r h;obtain⟨i,j,rfl,q⟩:=h;obtain⟨u,w',rfl,⟨t,rfl⟩,⟨t',rfl⟩⟩:=jN r;refine min_two_ints (I.ok.hd hc) λh' tk k=>⟨_,H,I.kept k,?_,q⟩;by_cases hj:j < i
 ·rw[if_pos hj,if_pos hj];exact⟨_,rfl⟩
 ·rw[if_neg hj,if_neg hj];exact⟨_,rfl⟩
theorem zdq:xB X (.type "int") (λxs H Q=>(∃i,xs= [.int i]/\Q (.int i) H)∨∃k,xs= [.bl k]/\Q (.int (if k then 1 else 0)) H):=by
 (first | refine⟨?_⟩ | skip)
 intro pins s σ H xs us Q I r h;rcases h with⟨i,rfl,q⟩ | ⟨k,rfl,q⟩
 ·obtain⟨u,rfl,t,rfl⟩:=vK r
  exact call_int_int ⟨.int i,H,I,⟨_,rfl⟩,q⟩
 ·obtain⟨u,rfl,r1⟩:=vK r
  cases r1;exact call_int_bool ⟨.int (if k then 1 else 0),H,I.tok _,⟨_,rfl⟩,q⟩
def ziJ (K:Frag)(x:V)(H:Hp)(n:Nat):Prop:=
 match x with
 | .str y=>y.length<=sizeLine/\n=y.length
 | .byt y=>y.size<=sizeLine/\n=y.size
 | .ref p=>(∃xs,x5 K H p xs/\n=xs.length)∨∃xs,x4 K H p xs/\n=xs.length
 | _=>False
theorem iJ:xB X (.builtin "len") (λxs H Q=> ∃x n,xs= [x]/\ziJ X.K x H n/\Q (.int n) H):=by
 (first | refine⟨?_⟩ | skip)
 intro pins s σ H xs us Q I r h;obtain⟨x,n,rfl,e,q⟩:=h;obtain⟨u,rfl,rx⟩:=vK r;have hl:=pX;have hs:sizeLine=16777216:=sizeLine_eq;cases x with
 | str y=>
  obtain⟨t,rfl⟩:=rx;obtain⟨hy,e'⟩:y.length<=sizeLine/\n=y.length:=e;subst e';exact len_str (by omega) ⟨.int _,H,I.tok _,⟨_,rfl⟩,q⟩
 | byt y=>
  obtain⟨t,rfl⟩:=rx;obtain⟨hy,e'⟩:y.size<=sizeLine/\n=y.size:=e;subst e';exact PySem.W.len_bytes (by omega) ⟨.int _,H,I.tok _,⟨_,rfl⟩,q⟩
 | ref p=>
  cases rx;have e':(∃xs,x5 X.K H p xs/\n=xs.length)∨∃xs,x4 X.K H p xs/\n=xs.length:=e;rcases e' with⟨xs,hx,e'⟩ | ⟨xs,hx,e'⟩
  ·subst e'
   obtain⟨its,r',pl,hz⟩:=I.list hx;have hlen:=r'.length;exact Calls.call_len_list pl.isList (by simp only[List.size_toArray];omega) ⟨.int xs.length,H,I.tok _,⟨_,by simp only[List.size_toArray];rw[hlen]⟩,q⟩
  ·subst e'
   obtain⟨its,r',pl,hz⟩:=I.tuple hx;have hlen:=r'.length;exact len_tuple pl (by simp only[List.size_toArray];omega) ⟨.int xs.length,H,I.tok _,⟨_,by simp only[List.size_toArray];rw[hlen]⟩,q⟩
 | _=>exact(show False from e).elim
end
end L2
namespace L2
open PySem PySem.Spec PyProof.Rows
section
variable {prog:Program} {w:World} {A:Around} {E:Value->Shared->Prop} {s:Shared} {K:Frag} {x dx C f:Addr} {mA:Str->Option Value} {name:Str} {v:Value}
end
theorem uM.some_of {v:V}{o:Option Value}(r:uM (some v) o): ∃u,o=some u/\zU v u:=by
 cases o with
 | none=>exact(show False from r).elim
 | some u=>exact⟨u,rfl,r⟩
section
variable {P:Program} {w:World} {H H':Hp} {h h':Heap} {a C dx:Addr} {fs fs':List (Str×V)}
end
section
variable {X:Cx} {pins:List (Addr×Obj)} {σ:St} {H:Hp} {s:Shared} {a C dx:Addr} {fs:List (Str×V)} {f:Str} {v:V} {A:Around} {E:Value->Shared->Prop}
end
section
variable {X:Cx} {o e value:Expr} {f:Str} {pos pos' tpos:Pos} {ta tv:TE}
end
section
variable {X:Cx} {pins:List (Addr×Obj)} {σ:St} {H:Hp} {s:Shared} {A:Around} {E:Value->Shared->Prop} {Q:Value->Shared->Prop} {c:Value} {b:Bool}
end
end L2
namespace L2
open PySem PySem.Spec PyProof.Rows
structure zX (k:Nat)(A:Around):Prop where
 hd:A.handled=none
 dp:A.depth+3 * k+5 < recursionLimit
 un:A.units+16 * k+200 < cLine
theorem zX.mono {j k:Nat}{A:Around}(r:zX k A)(h:j<=k):zX j A:=⟨r.hd,by have:=r.dp;omega,by have:=r.un;omega⟩
theorem zX.deeper {k:Nat}{A:Around}(r:zX (k+1) A)(env:Env):zX k (A.deeper env):=
 ⟨r.hd,by have:=r.dp;show A.depth+1+3 * k+5 < _;omega,by have:=r.un;show A.units+3+16 * k+200 < _;omega⟩
theorem zX.depth {k:Nat}{A:Around}(r:zX k A):A.depth < recursionLimit:=by have:=r.dp;omega
theorem zX.units {k:Nat}{A:Around}(r:zX k A):A.units+64 < cLine:=by have:=r.un;omega
def zqo:TA:=λ_ H Q=>Q [] H
def zqf (ta:TE)(tr:TA):TA:=λσ H Q=>ta σ H λx H1=>tr σ H1 λxs H2=>Q (x::xs) H2
section
variable {X:Cx} {e:Expr} {es:List Expr} {te:TE} {t:TA} {pos:Pos}
theorem vQ:PA X [] zqo:=⟨λ_ _ _ _ H Q I h=>Calls.spliced_nil ⟨[],H,I,.nil,h⟩⟩
theorem xW (ha:PE X e te)(hr:PA X es t)(hs:starEach (e::es) X.env=(false,eval e X.env)::starEach es X.env:=by rfl):PA X (e::es) (zqf te t):=by
 (first | refine⟨?_⟩ | skip)
 intro pos pins s σ H Q I h;rw[hs];show wpAny _ _ (spliced ((false,eval e X.env)::backTo pos (starEach es X.env))) _ _ s;refine Calls.spliced_cons (y8 (ha pins s σ H _ I h) λu s1 ⟨x,H1,I1,r1,q1⟩=> ?_);exact y8 (hr pos pins s1 σ H1 _ I1 q1) λus s2 ⟨xs,H2,I2,r2,q2⟩=>⟨x::xs,H2,I2,.cons r1 r2,q2⟩
def zqy (t:TA):TE:=λσ H Q=>t σ H λxs H1=>xs.length<=sizeLine/\∀p,H1 p=none->Q (.ref p) (zQ H1 p (.tup xs))
def zqm (t:TA):TE:=λσ H Q=>t σ H λxs H1=>xs.length<=sizeLine/\∀p,H1 p=none->Q (.ref p) (zQ H1 p (.lst xs))
theorem zoe {x1}(h:PA X es t):PE X (.Tuple es x1 pos) (zqy t):=by
 (first | refine⟨?_⟩ | skip)
 intro pins s σ H Q I hq;refine wpAny_Tuple_spliced (y8 (h pos pins s σ H _ I hq) λus s1 ⟨xs,H1,I1,r,z,q⟩=>⟨by rw[<- r.length];exact z,?_⟩);have hf:H1 s1.heap.objs.size=none:=I1.hok.fresh (Nat.le_refl _);refine⟨.ref s1.heap.objs.size,zQ H1 s1.heap.objs.size (.tup xs),I1.laid (t':=s1.toks) (λb u e=>Heap.get?_push_of_some _ e) (Nat.le_refl _) ?_,rfl,q _ hf⟩;exact⟨z,us,r,⟨_,Heap.get?_push_size _ rfl,rfl,_,rfl,rfl⟩⟩
theorem zgo (h:PA X es t):PE X (.List es pos) (zqm t):=by
 (first | refine⟨?_⟩ | skip)
 intro pins s σ H Q I hq;refine wpAny_List_spliced (y8 (h pos pins s σ H _ I hq) λus s1 ⟨xs,H1,I1,r,z,q⟩=>⟨by rw[<- r.length];exact z,?_⟩);have hf:H1 s1.heap.objs.size=none:=I1.hok.fresh (Nat.le_refl _);refine⟨.ref s1.heap.objs.size,zQ H1 s1.heap.objs.size (.lst xs),I1.laid (t':=s1.toks) (λb u e=>Heap.get?_push_of_some _ e) (Nat.le_refl _) ?_,rfl,q _ hf⟩;exact⟨z,us,0,r,Heap.get?_push_size _ rfl⟩
end
abbrev Sp:=List V->Hp->VK->XK->Prop
abbrev tF:=List Env->Hp->Shared->XK->Value->Shared->Prop
structure lG (P:Program)(w:World)(K:Frag)(mg:Str->Option Value)(base:Heap)(A:Around)(outer:List Env)(s:Shared)(H:Hp):Prop where
 frames:A.frames=some outer
 mod:Mod K mg base
 bs: ∀b o,base.get? b=some o->s.heap.get? b=some o/\H b=none
 bsz:base.objs.size<=s.heap.objs.size
 funs:s.heap.FunFrames base outer
 frf: ∀b∈wM outer,H b=none
 hok:xC P w H s.heap
 bare:AllBare s.gens
def CE (outer:List Env)(P:Program)(w:World)(H:Hp)(s:Shared)(Q:VK)(u:Value)(s':Shared):Prop:=
 ∃v H',s'.os=s.os/\AllBare s'.gens/\Un (wM outer) [] H H' s.heap s'.heap/\xC P w H' s'.heap/\zU v u/\Q v H'
def CR (CX:tF)(outer:List Env)(P:Program)(w:World)(H:Hp)(s:Shared)(Q:VK)(E:XK)(r:Result)(s':Shared):Prop:=
 match r with
 | .ok (.ret u)=>CE outer P w H s Q u s'
 | .ok _=>False
 | .error e=>CX outer H s E e s'
structure zJ (P:Program)(w:World)(K:Frag)(mg:Str->Option Value)(base:Heap)(CX:tF)(k:Nat)(f:Addr)(fd:FuncData)(ps:List Str)(sp:Sp):Prop where
 len: ∀vs H Q E,sp vs H Q E->vs.length=ps.length
 run: ∀(A:Around) (outer:List Env) (s:Shared) (H:Hp) (args:Args) (us:List Value) (vs:List V) (Q:VK) (E:XK),zX k A->lG P w K mg base A outer s H->BindsTo s fd args (ps.zip us)->zR vs us->sp vs H Q E->
  codeAny (model P w) A (.call (.ref f) args) (CR CX outer P w H s Q E) s
theorem zJ.imp {P:Program}{w:World}{K:Frag}{mg:Str->Option Value}{base:Heap}{CX:tF}{k:Nat}{f:Addr}{fd:FuncData}{ps:List Str}{sp sp':Sp}(F:zJ P w K mg base CX k f fd ps sp)
  (h: ∀vs H Q E,sp' vs H Q E->sp vs H Q E):zJ P w K mg base CX k f fd ps sp':=
 ⟨λvs H Q E q=>F.len vs H Q E (h _ _ _ _ q),λA outer s H args us vs Q E hr he hb hv hs=>F.run A outer s H args us vs Q E hr he hb hv (h _ _ _ _ hs)⟩
section
variable {X:Cx} {pins:List (Addr×Obj)} {σ:St} {H:Hp} {s s':Shared}
theorem z5.env0 (I:z5 X pins σ H s):lG X.prog X.w X.K X.mg X.base X.A X.stack s H:=
 ⟨I.ok.frames,I.ok.mod,I.bs,Nat.le_trans I.ok.bsz I.sz,I.stack,I.stkFree,I.hok,I.bare⟩
theorem z5.after {Q:VK}{u:Value}(I:z5 X pins σ H s)(h:CE X.stack X.prog X.w H s Q u s'):EP X pins σ Q u s':=by
 obtain⟨v,H',os,bare,un,hok,r,q⟩:=h;obtain⟨hh,g,d,t,os'⟩:=s';obtain rfl:os'=s.os:=os;exact⟨v,H',I.call (h':=hh) (g':=g) (d':=d) (t':=t) (ch:= []) un hok bare (λb z=>absurd z (by simp)),r,q⟩
end
def zqc (sp:Sp)(dvs:List V)(E:XK)(t:TA):TE:=λσ H Q=>t σ H λvs H1=>sp (vs++dvs) H1 Q E
def yH (K:Frag)(fd:FuncData)(ps:List Str)(ds:List Value):Prop:=
 ∀(s:Shared) (us:List Value),K.In s.heap->(us++ds).length=ps.length->BindsTo s fd ⟨us,[]⟩ (ps.zip (us++ds))
theorem yH.all {K:Frag}{fd:FuncData}{ps:List Str}(h: ∀us:List Value,us.length=ps.length->bindArgs fd ⟨us,[]⟩=pure (ps.zip us)):yH K fd ps []:=λs us _ hl=>by
 rw[List.append_nil]at hl⊢
 exact .of_eq (h us hl)
def i8 (CX:tF)(X:Cx)(E:XK):Prop:= ∀(pins:List (Addr×Obj)) (σ:St) (H:Hp) (s:Shared) (e:Value) (s':Shared),z5 X pins σ H s->CX X.stack H s E e s'->X.xe e s'
section
variable {X:Cx} {CX:tF} {k:Nat} {f C:Addr} {fd:FuncData} {ps:List Str} {sp:Sp} {dvs:List V} {ds:List Value} {E:XK} {x m:Str} {p pos apos:Pos} {e o:Expr} {es:List Expr} {ta:TE} {t:TA}
theorem zgO {pins:List (Addr×Obj)}{σ:St}{H:Hp}{s:Shared}{Q:VK}{us:List Value}{vs:List V}(F:zJ X.prog X.w X.K X.mg X.base CX k f fd ps sp)(hr:zX k X.A)(hb:yH X.K fd ps ds)(hd:zR dvs ds)(hx:i8 CX X E)
  (I:z5 X pins σ H s) (r:zR vs us) (h:sp (vs++dvs) H Q E):wpAny (model X.prog X.w) X.A (call (.ref f) us) (EP X pins σ Q) X.xe s:=by
 have r2:zR (vs++dvs) (us++ds):=r.append hd;have hl:(us++ds).length=ps.length:=by rw[<- r2.length];exact F.len _ _ _ _ h
 refine wpAny_call (codeAny_mono (F.run X.A X.stack s H ⟨us,[]⟩ (us++ds) (vs++dvs) Q E hr I.env0 (hb s us I.kIn hl) r2 h) λr s' hq=> ?_);cases r with
 | error e=>exact hx pins σ H s e s' I hq
 | ok fl=>
  cases fl with
  | ret u=>exact I.after hq
  | next=>exact False.elim hq
  | brk=>exact False.elim hq
  | cont=>exact False.elim hq
theorem o5 (F:zJ X.prog X.w X.K X.mg X.base CX k f fd ps sp)(hr:zX k X.A)(hg:Gl X x)(hm:X.mg x=some (.ref f))(hk:keepIn X.K (.ref f)=true)(hb:yH X.K fd ps ds)(hd:zR dvs ds)(hx:i8 CX X E)
  (ha:PA X (e::es) t) (hdb:(x==("__debug__" :Str))=false:=by decide) (he:starEach (e::es) X.env=(false,eval e X.env)::starEach es X.env:=by rfl) (hpl:(backTo pos (starEach es X.env)).any (·.1)=false:=by rfl):
  PE X (.Call (.Name x p) (e::es) [] pos) (zqc sp dvs E t):=by
 (first | refine⟨?_⟩ | skip)
 intro pins s σ H Q I h;refine wpAny_Call_Name_kw (zbd I hg hm ?_ hdb);refine callWith_K (h₀:=X.base) I.ok.mod.kin hk (y8 (ha pos pins s σ H _ I h) λus s1 ⟨vs,H1,I1,r,q⟩=>⟨I1.kIn,?_⟩) he hpl;exact zgO F hr hb hd hx I1 r q
end
structure PK (X:Cx)(kws:List Keyword)(t:TA):Prop where
 run:
  ∀(pos:Pos) (pins:List (Addr×Obj)) (s:Shared) (σ:St) (H:Hp) (Q:List V->Hp->Prop),z5 X pins σ H s->t σ H Q->wpAny (model X.prog X.w) X.A (evalAll ((backToKw pos (keywordEach kws X.env)).map (·.2))) (AP X pins σ Q) X.xe s
instance {X:Cx} {kws:List Keyword} {t:TA} :CoeFun (PK X kws t) λ_=>
 ∀(pos:Pos) (pins:List (Addr×Obj)) (s:Shared) (σ:St) (H:Hp) (Q:List V->Hp->Prop),z5 X pins σ H s->t σ H Q->wpAny (model X.prog X.w) X.A (evalAll ((backToKw pos (keywordEach kws X.env)).map (·.2))) (AP X pins σ Q) X.xe s
  :=⟨PK.run⟩
section
variable {X:Cx} {CX:tF} {k:Nat} {f C:Addr} {fd:FuncData} {ps ks:List Str} {sp:Sp} {E:XK} {x m:Str} {p pos apos kpos:Pos} {e o:Expr} {es:List Expr} {kws:List Keyword} {te ta:TE} {t tk:TA} {nm:Option Str}
variable {g:List Value->List Value->List Value} {gV:List V->List V->List V}
end
structure yX (N P:List Str)(sc:Scope):Prop where
 kind:sc.kind= .function
 co:sc.isCoroutine=false
 gen:sc.isGenerator=false
 nd:N.Nodup
 pre:N.take P.length=P
 par: ∀x∈P,sc.names.lookup x=some .local∨sc.names.lookup x=some .cell
 nofree: ∀y∈sc.names,y.2≠ .free
theorem zdk {kindOf:Str->Option NameKind}{x:Str} : ∀{binds:List (Str×Value)} {m:Str->Option Value},(∀v,(x,v)∉binds)->bindL kindOf binds m x=m x
 | [],_,_=>rfl
 | (n,v)::r,m,h=>by
  unfold bindL;rw[zdk λw hw=>h w (List.mem_cons_of_mem _ hw)]
  split
  ·have:x≠n:=by rintro rfl;exact h v List.mem_cons_self
   simp[this]
  ·rfl
theorem zdi {kindOf:Str->Option NameKind}{x:Str} : ∀{binds:List (Str×Value)} {m:Str->Option Value},(∀v,(x,v)∉binds)->bindC kindOf binds m x=m x
 | [],_,_=>rfl
 | (n,v)::r,m,h=>by
  unfold bindC;rw[zdi λw hw=>h w (List.mem_cons_of_mem _ hw)]
  split
  ·rfl
  ·have:x≠n:=by rintro rfl;exact h v List.mem_cons_self
   simp[this]
theorem zdj {kindOf:Str->Option NameKind}{x:Str}{v:Value} : ∀{P:List Str} {vs:List Value} {i:Nat} {m:Str->Option Value},P.Nodup->P[i]?=some x->vs[i]?=some v->kindOf x=some .local->
  bindL kindOf (P.zip vs) m x=some v
 | [],_,_,_,_,h,_,_=>by simp at h
 | _::_,[],_,_,_,_,h,_=>by simp at h
 | p::P,w::vs,0,m,nd,h1,h2,hk=>by
  simp at h1 h2;subst h1;subst h2;show bindL kindOf ((p,w)::P.zip vs) m p=_;unfold bindL;rw[zdk λv hv=>(List.nodup_cons.mp nd).1 (List.of_mem_zip hv).1,if_pos hk];simp
 | p::P,w::vs,i+1,m,nd,h1,h2,hk=>by
  show bindL kindOf ((p,w)::P.zip vs) m x=_;unfold bindL;exact zdj (i:=i) (List.nodup_cons.mp nd).2 (by simpa using h1) (by simpa using h2) hk
theorem zdh {kindOf:Str->Option NameKind}{x:Str}{v:Value} : ∀{P:List Str} {vs:List Value} {i:Nat} {m:Str->Option Value},P.Nodup->P[i]?=some x->vs[i]?=some v->kindOf x≠some .local->
  bindC kindOf (P.zip vs) m x=some v
 | [],_,_,_,_,h,_,_=>by simp at h
 | _::_,[],_,_,_,_,h,_=>by simp at h
 | p::P,w::vs,0,m,nd,h1,h2,hk=>by
  simp at h1 h2;subst h1;subst h2;show bindC kindOf ((p,w)::P.zip vs) m p=_;unfold bindC;rw[zdi λv hv=>(List.nodup_cons.mp nd).1 (List.of_mem_zip hv).1,if_neg hk];simp
 | p::P,w::vs,i+1,m,nd,h1,h2,hk=>by
  show bindC kindOf ((p,w)::P.zip vs) m x=_;unfold bindC;exact zdh (i:=i) (List.nodup_cons.mp nd).2 (by simpa using h1) (by simpa using h2) hk
def start (N:List Str)(vs:List V):St:=vs.map some++List.replicate (N.length - vs.length) none
def sK (CX:tF)(P:Program)(w:World)(K:Frag)(mg:Str->Option Value)(base:Heap)(N:List Str)(qual:Str)(scope:Scope)(f:Addr)(cd:Value)(A:Around)(outer:List Env)(s:Shared)(H:Hp)(E:XK):Cx where
 prog:=P
 w:=w
 K:=K
 mg:=mg
 base:=base
 A:=A.deeper (envOfC qual scope s.heap.objs.size f cd)
 N:=N
 s₀:=s
 H₀:=H
 env:=envOfC qual scope s.heap.objs.size f cd
 outer:=outer
 stack:=envOfC qual scope s.heap.objs.size f cd::outer
 ex:= []
 calm:=true
 fn:=λ_=>true
 pn:= []
 xe:=λe s'=>wpAny (model P w) (A.deeper (envOfC qual scope s.heap.objs.size f cd)) (leaving (envOfC qual scope s.heap.objs.size f cd) e) (λ_ s''=>CX outer H s E e s'') (λe' s''=>CX outer H s E e' s'') s'
theorem zdu {sc:Scope}{n:Nat}{x:Str}(h:sc.names.lookup x=some .cell): ∃c,(cellsFrom n sc.names []).lookup x=some c:=by
 have q:=PySem.W.cellsFrom_some sc.names n [] (.inl h);exact Option.isSome_iff_exists.mp q
theorem zlt {CX:tF}{P:Program}{w:World}{K:Frag}{mg:Str->Option Value}{base:Heap}{N ps:List Str}{qual:Str}{scope:Scope}{f:Addr}{cd:Value}{A:Around}{outer:List Env}{s s1:Shared}{H:Hp}{E:XK}{us:List Value}{vs:List V}
  (S:yX N ps scope) (hd:A.handled=none) (e0:lG P w K mg base A outer s H) (hl:vs.length=ps.length) (r:zR vs us)
  (x:InCallC s s.heap.objs.size (bindL (envOfC qual scope s.heap.objs.size f cd).kindOf (ps.zip us) λ_=>none) (cellsFrom (s.heap.objs.size+1) scope.names []) (bindC (envOfC qual scope s.heap.objs.size f cd).kindOf (ps.zip us) λ_=>none) s1):
  z5 (sK CX P w K mg base N qual scope f cd A outer s H E) [] (start N vs) H s1:=by
 have hpl:ps.length<=N.length:=by have:=congrArg List.length S.pre;rw[List.length_take]at this;omega
 obtain⟨h1,tk,rfl,hk⟩:=x.done;have noA: ∀b:Addr,b∉(sK CX P w K mg base N qual scope f cd A outer s H E).ex:=λb z=>absurd (show b∈([]:List Addr)from z) (by simp);refine⟨⟨e0.mod,S.kind,rfl,rfl,Nat.le_refl _,λy z c h1 h2=> ?_,λy hy=> ?_,λy c _ h=> ?_,λ_=>hd,Around.frames_deeper e0.frames,.inr ⟨rfl,rfl⟩,λb z=>absurd z (noA b),e0.bs,e0.bsz,λb _ _=>noA b,λb z=>absurd z (noA b),e0.funs,e0.frf⟩,
  rfl,e0.bare,Un.kept hk,⟨_,x.toInCall.ns,λi y v h1 h2 h3=> ?_⟩,λy c h=>⟨_,x.cell y c h⟩,e0.hok.fresh (Nat.le_refl _),λy c h=> ?_,λp hp=>absurd (show p∈([]:List (Addr×Obj))from hp) (by simp),e0.hok.kept hk,?_⟩
 ·exact name_of_addr x.apart (PySem.mem_of_lookup h1) (PySem.mem_of_lookup h2)
 ·have hy:scope.names.lookup y=some .cell∨scope.names.lookup y=some .free:=hy
  rcases hy with hy | hy
  ·exact zdu hy
  ·exact absurd rfl (S.nofree _ (PySem.mem_of_lookup hy))
 ·exact Nat.le_of_lt (x.above y c (PySem.mem_of_lookup h))
 ·have hi:i < vs.length:=by
   unfold start at h2;by_cases hi:i < vs.length
   ·exact hi
   ·rw[List.getElem?_append_right (by simpa using hi)]at h2
    rw[List.getElem?_replicate]at h2
    split at h2 <;> cases h2
  have ha:vs[i]?=some v:=by
   unfold start at h2;rw[List.getElem?_append_left (by simpa using hi),List.getElem?_map]at h2;cases e:vs[i]? with
   | none=>rw[e]at h2;cases h2
   | some a=>rw[e]at h2;cases h2;rfl
  obtain⟨u,hu,rv⟩:=r.get ha;have hp:ps[i]?=some y:=by
   rw[<- S.pre,List.getElem?_take_of_lt (by omega)];exact h1
  have ndP:ps.Nodup:=by rw[<- S.pre];exact S.nd.sublist (List.take_sublist _ _)
  refine⟨u,rv,?_⟩;rcases S.par y (List.mem_of_getElem? hp)with k | k
  ·exact .inl ⟨k,zdj ndP hp hu k⟩
  ·obtain⟨c,e⟩:=zdu (n:=s.heap.objs.size+1) k
   refine .inr ⟨.inl k,c,e,?_⟩;have q:=x.cell y c e;rw[zdh ndP hp hu (by show scope.names.lookup y≠_;rw[k];decide)]at q;exact q
 ·exact e0.hok.fresh (Nat.le_of_lt (x.above y c (PySem.mem_of_lookup h)))
 ·unfold start
  show _=N.length;rw[List.length_append,List.length_map,List.length_replicate];omega
theorem zeR {CX:tF}{P:Program}{w:World}{K:Frag}{mg:Str->Option Value}{base:Heap}{k:Nat}{f:Addr}{name qual:Str}{params:Arguments}{body:List Stmt}{scope:Scope}{dV kV doc pm cdv ct oc:Value}{an od:Option Addr}
  {osl:Array (Option Value)} {N ps:List Str} {sp:Sp} (lk:K.lookup f=some ⟨oc,od,.func (fnOf name qual params body scope dV kV doc pm an cdv ct),osl⟩) (hcd:codeIn K cdv qual=true) (S:yX N ps scope)
  (len: ∀vs H Q E,sp vs H Q E->vs.length=ps.length)
  (hbody: ∀(A:Around) (outer:List Env) (s:Shared) (H:Hp) (vs:List V) (Q:VK) (E:XK),zX k (A.deeper (envOfC qual scope s.heap.objs.size f cdv))->sp vs H Q E->
   ∃t,xQ (sK CX P w K mg base N qual scope f cdv A outer s H E) body t/\t {nx:=λ_ H'=>Q .non H',rt:=Q} (start N vs) H):
  zJ P w K mg base CX (k+1) f (fnOf name qual params body scope dV kV doc pm an cdv ct) ps sp:=by
 refine⟨len,λA outer s H args us vs Q E hr e0 hb r hsp=> ?_⟩;have hl:=len _ _ _ _ hsp;have KX:K.In s.heap:=e0.mod.kin.keeps λb o e=>(e0.bs b o e).1;have lim:s.heap.NoLimit:=e0.mod.nolimit.keeps λb o e=>(e0.bs b o e).1;have hkind: ∀y∈ps.zip us,scope.names.lookup y.1=some .local∨(scope.names.lookup y.1=some .cell/\((cellsFrom (s.heap.objs.size+1) scope.names []).lookup y.1).isSome=true):=λ⟨n,v⟩ hy=>by
  rcases S.par n (List.of_mem_zip hy).1 with q | q
  ·exact .inl q
  ·exact .inr ⟨q,PySem.W.cellsFrom_some _ _ _ (.inl q)⟩
 refine codeAny_call_function hr.depth (KX _ _ lk) rfl S.co S.gen rfl (PySem.W.codeRec_of KX hcd) (hb _ _ _ _ ?_);refine wpAny_newFunctionEnv_cells S.kind hkind λenv he s1 x=> ?_;subst he;refine⟨lim.keeps x.toInCall.keep,codeAny_func ?_⟩;obtain⟨t,ht,hq⟩:=hbody A outer s H vs Q E (hr.deeper _) hsp;have I:z5 (sK CX P w K mg base N qual scope f cdv A outer s H E) [] (start N vs) H s1:=zlt S hr.hd e0 hl r x;refine wpAny_mono (ht [] s1 (start N vs) H _ I hq) (λfl s' hs=> ?_) λe s' hs=>hs;have fin: ∀{σ':St} {H':Hp} {v:V} {u:Value},z5 (sK CX P w K mg base N qual scope f cdv A outer s H E) [] σ' H' s'->zU v u->Q v H'->CE outer P w H s Q u s':=
  λ{σ' H' v u} J rv q=>⟨v,H',J.os,J.bare,J.base,J.hok,rv,q⟩
 cases fl with
 | ret u=>
  obtain⟨v,σ',H',J,rv,q⟩:=hs;exact fin J rv q
 | next=>
  obtain⟨σ',H',J,q⟩:=hs;exact fin (v:=V.non) (u:=Value.none) J rfl q
 | brk=>
  obtain⟨_,_,_,q⟩:=hs;exact False.elim q
 | cont=>
  obtain⟨_,_,_,q⟩:=hs;exact False.elim q
end L2
namespace L2
open PySem PySem.Spec PyProof.Rows
section
variable {X:Cx} {x:Str} {p pos:Pos} {e:Expr} {es:List Expr} {t:TA} {id T:String} {r:List V->Hp->VK->Prop}
def tCB (r:List V->Hp->VK->Prop)(t:TA):TE:=λσ H Q=>t σ H λvs H1=>r vs H1 Q
theorem gC (hc:xB X (.builtin id) r)(hg:Gl X x)(hm:X.mg x=none)(hv:bootBuiltins x=some (.builtin id))(ha:PA X (e::es) t)(hn:x≠ "__name__" :=by decide)(hdb:(x==("__debug__" :Str))=false:=by decide)
  (he:starEach (e::es) X.env=(false,eval e X.env)::starEach es X.env:=by rfl) (hpl:(backTo pos (starEach es X.env)).any (·.1)=false:=by rfl):PE X (.Call (.Name x p) (e::es) [] pos) (tCB r t):=by
 (first | refine⟨?_⟩ | skip)
 intro pins s σ H Q I h;refine wpAny_Call_Name_kw (mE I hg hm hv ?_ hn hdb);exact PyProof.Rows.callWith_builtin1 (y8 (ha pos pins s σ H _ I h) λus s1 ⟨vs,H1,I1,r1,q1⟩=>hc pins s1 σ H1 vs us Q I1 r1 q1) he hpl
theorem zgn (hc:xB X (.type T) r)(hg:Gl X x)(hm:X.mg x=none)(hv:bootBuiltins x=some (.type T))(ha:PA X (e::es) t)(hn:x≠ "__name__" :=by decide)(hdb:(x==("__debug__" :Str))=false:=by decide)
  (he:starEach (e::es) X.env=(false,eval e X.env)::starEach es X.env:=by rfl) (hpl:(backTo pos (starEach es X.env)).any (·.1)=false:=by rfl):PE X (.Call (.Name x p) (e::es) [] pos) (tCB r t):=by
 (first | refine⟨?_⟩ | skip)
 intro pins s σ H Q I h;refine wpAny_Call_Name_kw (mE I hg hm hv ?_ hn hdb);exact callWith_type1 (y8 (ha pos pins s σ H _ I h) λus s1 ⟨vs,H1,I1,r1,q1⟩=>hc pins s1 σ H1 vs us Q I1 r1 q1) he hpl
end
end L2
namespace HT
open PySem PyProof.Rows
section
open PySem.SeqAt
open PySem.AutoSeq1 (wpAny_loadPart')
open PySem.MeetsSeq PySem.MeetsSeq2 PySem.MeetsSeq3
end
section
variable {prog:Program} {w:World} {A:Around} {E:Value->Shared->Prop} {s:Shared}
theorem cat_tup {t b:Addr}{vs ws:List Value}{Q:Value->Shared->Prop}(ht:IsTup s.heap t vs.toArray)(hb:IsTup s.heap b ws.toArray)(hv:vs≠ [])
  (h1:ws= []->Q (.ref t) s) (h2:ws≠ []->Q (.ref s.heap.objs.size) {s with heap:=s.heap.push {cls:= .type "tuple",data:= .seq (vs++ws).toArray}})
  (hsz:vs.length+ws.length<=sizeLine):wpAny (model prog w) A (binaryOp .Add (.ref t) (.ref b)) Q E s:=by
 obtain⟨⟨cls,dd,data,sl⟩,ho,hc,n,hd⟩:=id ht;obtain⟨⟨cls2,dd2,data2,sl2⟩,ho2,hc2,n2,hd2⟩:=id hb;simp only at hc hd hc2 hd2;subst hc hd hc2 hd2;have e:vs.toArray++ws.toArray=(vs++ws).toArray:=by simp
 by_cases hw:ws= []
 ·exact concat_meets ⟨_,ho,rfl⟩ ⟨_,ho2,rfl⟩ noFill_tuple_add seq_tuple_add PySem.F.slot_tuple_add PySem.F.entry_tuple_add (PySem.F.args_tuple_add_2 _ _)
   (tuple_addW1 t b vs.toArray ws.toArray n n2 dd dd2 sl sl2 (by simpa using hv) (by simp[hw])) ⟨ho,ho2,h1 hw⟩
 ·refine concat_meets ⟨_,ho,rfl⟩ ⟨_,ho2,rfl⟩ noFill_tuple_add seq_tuple_add PySem.F.slot_tuple_add PySem.F.entry_tuple_add (PySem.F.args_tuple_add_2 _ _)
   (tuple_addW2 t b vs.toArray ws.toArray n n2 dd dd2 sl sl2 (by simpa using hv) (by simpa using hw) (by rw[List.size_toArray,List.size_toArray];exact hsz)) ⟨ho,ho2,?_⟩
  rw[e];exact h2 hw
def sIx (n d:Nat):Option Int->Nat
 | none=>d
 | some v=>if v < 0 then(v+(n:Int)).toNat else min v.toNat n
theorem sIx_none (n d:Nat):sIx n d none=d:=rfl
theorem sIx_nat (n d k:Nat):sIx n d (some (k:Int))=min k n:=by
 show(if(k:Int) < 0 then((k:Int)+(n:Int)).toNat else min (k:Int).toNat n)=min k n;rw[if_neg (by omega),Int.toNat_natCast]
theorem zp8 (n d:Nat)(hd:d<=n)(o:Option Int):sIx n d o<=n:=by
 cases o with
 | none=>exact hd
 | some v=>
  show(if v < 0 then(v+(n:Int)).toNat else min v.toNat n)<=n;by_cases hv:v < 0
  ·rw[if_pos hv];omega
  ·rw[if_neg hv];exact Nat.min_le_right _ _
theorem zdz (v:Int)(n d:Nat):(if v < 0 then max (v+(n:Int)) 0 else min v (n:Int))=((sIx n d (some v):Nat):Int):=by
 show(if v < 0 then max (v+(n:Int)) 0 else min v (n:Int))=(((if v < 0 then(v+(n:Int)).toNat else min v.toNat n):Nat):Int);by_cases hv:v < 0
 ·simp only[if_pos hv];omega
 ·simp only[if_neg hv];omega
theorem ziS (lo hi:Option Int)(n:Nat):Builtin.Slice.sliceAdjust lo hi 1 (n:Int)=(((sIx n 0 lo:Nat):Int),((sIx n n hi:Nat):Int)):=by
 have h1: ¬ ((1:Int) < 0):=by omega
 unfold Builtin.Slice.sliceAdjust;simp only[h1,if_false];refine Prod.ext ?_ ?_
 ·cases lo with
  | none=>rfl
  | some v=>exact zdz v n 0
 ·cases hi with
  | none=>rfl
  | some v=>exact zdz v n n
theorem zoz (i j:Nat):Builtin.Slice.slicePlaces (i:Int) (j:Int) 1=j - i:=by
 unfold Builtin.Slice.slicePlaces;have h1:(1:Int) > 0:=by omega
 simp only[h1,if_true,Int.ediv_one]
 split <;> omega
theorem zhb {v:Value}{o:Option Int}{Q:Option Int->Shared->Prop}(p:IsPart v o)(h:Q o s):wpAny (model prog w) A (Builtin.Slice.slicePartIndex v) Q E s:=by
 cases p with
 | none=>exact slicePart_none h
 | int i t=>exact slicePart_int h
theorem sliceApplied_gen {sl:Addr}{vl vu:Value}{lo hi:Option Int}{n:Nat}{Q:Int×Int×Nat->Shared->Prop}(hs:s.heap.IsSliceOf sl vl vu .none)(pl:IsPart vl lo)(pu:IsPart vu hi)
  (h:Q (((sIx n 0 lo:Nat):Int),1,sIx n n hi - sIx n 0 lo) s):wpAny (model prog w) A (Builtin.Slice.sliceApplied (.ref sl) (pure (n:Int))) Q E s:=by
 obtain⟨os,hos,hcs,hds⟩:=id hs;unfold Builtin.Slice.sliceApplied Builtin.Slice.sliceFields;refine wpAny_bind (wpAny_bind (wpAny_field hos hds (x:=vl) rfl (wpAny_bind (wpAny_field hos hds (x:=vu) rfl (wpAny_bind (wpAny_field hos hds (x:= .none) rfl (wpAny_pure ?_)))))));refine wpAny_bind (slicePart_none ?_);show wpAny _ _ (if((1:Int)==0)=true then _ else _) _ _ s;rw[if_neg (by decide)];refine wpAny_bind (zhb pl (wpAny_bind (zhb pu (wpAny_bind (wpAny_pure ?_)))));show wpAny _ _ (match Builtin.Slice.sliceAdjust lo hi 1 (n:Int)with | (lo,hi)=>pure (lo,(1:Int),Builtin.Slice.slicePlaces lo hi 1)) _ _ s;rw[ziS lo hi n];show wpAny _ _ (pure (((sIx n 0 lo:Nat):Int),(1:Int),Builtin.Slice.slicePlaces ((sIx n 0 lo:Nat):Int) ((sIx n n hi:Nat):Int) 1)) _ _ s;rw[zoz];exact wpAny_pure h
theorem zox (xs:Array Value)(i k:Nat):((List.range k).filterMap λ(m:Nat)=>xs[((i:Int)+(m:Int) * 1).toNat]?).toArray=((xs.toList.drop i).take k).toArray:=by
 have e:(λ(m:Nat)=>xs[((i:Int)+(m:Int) * 1).toNat]?)=λm=>xs[i+m]?:=by
  funext m
  have:((i:Int)+(m:Int) * 1).toNat=i+m:=by omega
  rw[this]
 rw[e];have:=pick_run xs i k;rw[List.filterMap_map]at this;have e2:((λx=>xs[x]?) ∘ λx=>i+x)=λm=>xs[i+m]?:=rfl;rw[e2]at this;rw[this]
theorem getItem_tuple_cut {t sl:Addr}{items:Array Value}{vl vu:Value}{lo hi:Option Int}{Q:Value->Shared->Prop}(ht:IsTup s.heap t items)(hs:s.heap.IsSliceOf sl vl vu .none)(pl:IsPart vl lo)(pu:IsPart vu hi)
  (hw: ¬ (sIx items.size 0 lo=0/\sIx items.size items.size hi=items.size))
  (h:Q (.ref s.heap.objs.size) {s with heap:=s.heap.push {cls:= .type "tuple",data:= .seq ((items.toList.drop (sIx items.size 0 lo)).take (sIx items.size items.size hi - sIx items.size 0 lo)).toArray}})
  (hsz:items.size<=sizeLine):wpAny (model prog w) A (getItem (.ref t) (.ref sl)) Q E s:=by
 have htake:sizeOk (.seq ((items.toList.drop (sIx items.size 0 lo)).take (sIx items.size items.size hi - sIx items.size 0 lo)).toArray):=by
  show((items.toList.drop (sIx items.size 0 lo)).take (sIx items.size items.size hi - sIx items.size 0 lo)).toArray.size<=sizeLine;rw[List.size_toArray,List.length_take,List.length_drop,Array.length_toList];omega
 have hj:sIx items.size items.size hi<=items.size:=zp8 _ _ (Nat.le_refl _) hi;obtain⟨os,hos,hcs,hds⟩:=id hs;have hTs:s.TypeIs (.ref sl) "slice" :=⟨os,hos,hcs⟩;unfold getItem
 try with_reducible refine wpAny_holding ?_
 first | refine wpAny_bind (wpAny_pure ?_) | skip
 refine wpAny_bind (wpAny_sequenceKey ht.typeIs (by decide) ?_);refine wpAny_bind (wpAny_callSpecial?_slot (name:=Str.ofString "__getitem__") ht.typeIs PyProof.Rows.slot_tuple_getitem
  (wpAny_call_entry PyProof.Rows.slot_tuple_getitem ht.typeIs entry_tuple_getitem ?_ (args_tuple_getitem _ _)))
 show wpAny _ _ (Builtin.Tuple.tupleItemsOf (.ref t) >>= _) _ _ s;refine wpAny_bind (tupleItemsOf_ ht ?_);refine wpAny_bind (wpAny_typeOf hTs ?_);rw[if_pos (by decide)];refine wpAny_bind (sliceApplied_gen hs pl pu ?_);have hno: ¬ ((((sIx items.size 0 lo:Nat):Int)==0&&(1:Int)==1&&(sIx items.size items.size hi - sIx items.size 0 lo)==items.size)=true):=by
  intro q;rw[Bool.and_eq_true,Bool.and_eq_true]at q;have q1:((sIx items.size 0 lo:Nat):Int)=0:=eq_of_beq q.1.1;have q2:sIx items.size items.size hi - sIx items.size 0 lo=items.size:=eq_of_beq q.2;exact hw ⟨by omega,by omega⟩
 show wpAny _ _ (if(((sIx items.size 0 lo:Nat):Int)==0&&(1:Int)==1&&(sIx items.size items.size hi - sIx items.size 0 lo)==items.size)=true then _ else _) _ _ s;rw[if_neg hno,zox]
 first
  | exact wpAny_bind (m:=Builtin.Tuple.tupleExact _) (wpAny_newObj_type (wpAny_pure ⟨_,rfl,wpAny_pure h⟩) htake)
  | exact wpAny_bind (m:=Builtin.Tuple.tupleExact _) (wpAny_newObj_type (wpAny_bind (wpAny_pure (wpAny_pure ⟨_,rfl,wpAny_pure h⟩))) htake)
  | exact wpAny_bind (wpAny_bind (m:=Builtin.Tuple.tupleExact _) (wpAny_newObj_type (wpAny_pure (wpAny_pure ⟨_,rfl,wpAny_pure h⟩)) htake))
  | exact wpAny_bind (wpAny_bind (m:=Builtin.Tuple.tupleExact _) (wpAny_newObj_type (wpAny_pure ⟨_,rfl,wpAny_pure h⟩) htake))
end
end HT
namespace L2
open PySem PySem.Spec PyProof.Rows
abbrev TO:=St->Hp->(Option Int->Hp->Prop)->Prop
structure PO (X:Cx)(e:Option Expr)(t:TO):Prop where
 run:
  ∀(pins:List (Addr×Obj)) (s:Shared) (σ:St) (H:Hp) (Q:Option Int->Hp->Prop),z5 X pins σ H s->t σ H Q->
   wpAny (model X.prog X.w) X.A (evalPart e X.env) (λu s'=> ∃o H',z5 X pins σ H' s'/\IsPart u o/\Q o H') X.xe s
instance {X:Cx} {e:Option Expr} {t:TO} :CoeFun (PO X e t) λ_=>
 ∀(pins:List (Addr×Obj)) (s:Shared) (σ:St) (H:Hp) (Q:Option Int->Hp->Prop),z5 X pins σ H s->t σ H Q->
  wpAny (model X.prog X.w) X.A (evalPart e X.env) (λu s'=> ∃o H',z5 X pins σ H' s'/\IsPart u o/\Q o H') X.xe s
  :=⟨PO.run⟩
def zqp:TO:=λ_ H Q=>Q none H
def zqu (t:TE):TO:=λσ H Q=>t σ H λx H1=> ∃i,x= .int i/\Q (some i) H1
section
variable {X:Cx} {e:Expr} {te:TE} {lo hi:Option Expr} {tl th:TO} {pos p2:Pos}
theorem zo1:PO X none zqp:=by
 (first | refine⟨?_⟩ | skip)
 intro pins s σ H Q I h;rw[evalPart_none];exact wpAny_pure ⟨none,H,I,.none,h⟩
theorem zo2 (h:PE X e te):PO X (some e) (zqu te):=by
 (first | refine⟨?_⟩ | skip)
 intro pins s σ H Q I hw;rw[evalPart_some];refine y8 (h pins s σ H _ I hw) λu s1 ⟨x,H1,I1,r1,q1⟩=> ?_;obtain⟨i,rfl,q⟩:=q1;obtain⟨t,rfl⟩:=r1;exact⟨some i,H1,I1,.int i t,q⟩
def nO (X:Cx)(r:V->Option Int->Option Int->Hp->VK->Prop):Prop:=
 ∀(pins:List (Addr×Obj)) (s:Shared) (σ:St) (H:Hp) (x:V) (v vl vu:Value) (lo hi:Option Int) (sl:Addr) (Q:VK),z5 X pins σ H s->zU x v->s.heap.IsSliceOf sl vl vu .none->IsPart vl lo->IsPart vu hi->r x lo hi H Q->
  ∃T id,typeLookup (.type T) "__getitem__" =pure (some (.builtin id))/\s.TypeIs v T/\wpAny (model X.prog X.w) X.A (getItem v (.ref sl)) (EP X pins σ Q) X.xe s
def tSl (r:V->Option Int->Option Int->Hp->VK->Prop)(te:TE)(tl th:TO):TE:=λσ H Q=>te σ H λx H1=>tl σ H1 λl H2=>th σ H2 λu H3=>r x l u H3 Q
theorem zgp {r:V->Option Int->Option Int->Hp->VK->Prop}(hr:nO X r)(he:PE X e te)(hl:PO X lo tl)(hu:PO X hi th):PE X (.Subscript e (.Slice lo hi none p2) pos) (tSl r te tl th):=by
 (first | refine⟨?_⟩ | skip)
 intro pins s σ H Q I h;refine Subscript_ (y8 (he pins s σ H _ I h) λv s1 ⟨x,H1,I1,r1,q1⟩=> ?_);refine wpAny_Slice (y8 (hl pins s1 σ H1 _ I1 q1) λvl s2 ⟨l,H2,I2,pl,q2⟩=>y8 (hu pins s2 σ H2 _ I2 q2) λvu s3 ⟨u,H3,I3,pu,q3⟩=> ?_);rw[evalPart_none];refine wpAny_pure ?_;have I4:z5 X pins σ H3 {s3 with heap:=s3.heap.push {cls:= .type "slice",data:= .fields #[vl,vu,.none]}} :=I3.kept (t':=s3.toks) λb ob q=>Heap.get?_push_of_some _ q;obtain⟨T,id,hT,ht,hg⟩:=hr pins {s3 with heap:=s3.heap.push {cls:= .type "slice",data:= .fields #[vl,vu,.none]}} σ H3 x v vl vu l u s3.heap.objs.size Q I4 r1 (Heap.IsSliceOf.new ..) pl pu q3;show wpAny (model X.prog X.w) X.A (subscriptTail e (.Slice lo hi none p2) v (.ref s3.heap.objs.size)) (EP X pins σ Q) X.xe {s3 with heap:=s3.heap.push {cls:= .type "slice",data:= .fields #[vl,vu,.none]}};exact tail_any (ops:= [.ref s3.heap.objs.size,v]) ht hT hg (by with_unfolding_all rfl)
def rZ (xs:List V)(lo hi:Option Int):List V:=(xs.drop (HT.sIx xs.length 0 lo)).take (HT.sIx xs.length xs.length hi - HT.sIx xs.length 0 lo)
theorem kF (xs:List V)(lo hi:Option Int):(rZ xs lo hi).length<=xs.length:=by
 unfold rZ;rw[List.length_take,List.length_drop];omega
def zpr (K:Frag):V->Option Int->Option Int->Hp->VK->Prop:=λx lo hi H Q=> ∃a xs,x= .ref a/\x4 K H a xs/\
 ¬ (HT.sIx xs.length 0 lo=0/\HT.sIx xs.length xs.length hi=xs.length)/\∀p,H p=none->Q (.ref p) (zQ H p (.tup (rZ xs lo hi)))
theorem zpV:nO X (zpr X.K):=by
 (first | refine⟨?_⟩ | skip)
 intro pins s σ H x v vl vu lo hi sl Q I rx hs pl pu h;obtain⟨a,xs,rfl,hx,hw,q⟩:=h;cases rx;obtain⟨its,r,ht,hz⟩:=I.tuple hx;have hlen:its.toArray.size=xs.length:=by rw[List.size_toArray];exact r.length.symm
 refine⟨"tuple",_,PyProof.Rows.slot_tuple_getitem.lookup,ht.typeIs,?_⟩;refine HT.getItem_tuple_cut ht hs pl pu (by rw[hlen];exact hw) ?_ (by rw[hlen];exact hz);rw[hlen];refine⟨.ref s.heap.objs.size,_,I.laid (t':=s.toks) (o:= .tup (rZ xs lo hi)) (λb ob q=>Heap.get?_push_of_some _ q) (Nat.le_refl _) ?_,rfl,q _ (I.hok.fresh (Nat.le_refl _))⟩;exact⟨Nat.le_trans (kF xs lo hi) hz,_,(r.drop (HT.sIx xs.length 0 lo)).take (HT.sIx xs.length xs.length hi - HT.sIx xs.length 0 lo),uI.new _ _⟩
def zoY (K:Frag):R2:=λx y H Q=> ∃a b xs ys,x= .ref a/\y= .ref b/\x4 K H a xs/\x4 K H b ys/\xs≠ []/\xs.length+ys.length<=sizeLine/\
 (ys= []->Q (.ref a) H)/\(ys≠ []->∀p,H p=none->Q (.ref p) (zQ H p (.tup (xs++ys))))
theorem zR.nil_iff {xs:List V}{us:List Value}(r:zR xs us):us= []↔xs= []:=by
 cases r with
 | nil=>simp
 | cons _ _=>simp
theorem znA:yN X (binaryOp .Add) (zoY X.K):=by
 (first | refine⟨?_⟩ | skip)
 intro pins s σ H x y v u Q I rx ry h;obtain⟨a,b,xs,ys,rfl,rfl,ha,hb,hx,hz,q1,q2⟩:=h;cases rx;cases ry;obtain⟨its,r1,p1,_⟩:=I.tuple ha;obtain⟨its2,r2,p2,_⟩:=I.tuple hb;refine HT.cat_tup p1 p2 (λz=>hx (r1.nil_iff.mp z)) (λz=>⟨.ref a,H,I,rfl,q1 (r2.nil_iff.mp z)⟩) (λz=> ?_) (by rw[<- r1.length,<- r2.length];exact hz);refine⟨.ref s.heap.objs.size,_,I.laid (t':=s.toks) (o:= .tup (xs++ys)) (λb ob q=>Heap.get?_push_of_some _ q) (Nat.le_refl _) ?_,rfl,q2 (λw=>z (r2.nil_iff.mpr w)) _ (I.hok.fresh (Nat.le_refl _))⟩;exact⟨by rw[List.length_append];exact hz,_,r1.append r2,uI.new _ _⟩
end
end L2
namespace L2
open PySem PySem.Spec PyProof.Rows
def wD (n:Nat)(i:Int):Option Nat:=if 0<=i then(if i < n then some i.toNat else none)else if -(n:Int)<=i then some (i+n).toNat else none
def atI {α:Type}(xs:List α)(i:Int):Option α:=(wD xs.length i).bind λj=>xs[j]?
theorem zfn {n:Nat}{i:Int}{j:Nat}(h:wD n i=some j):seqIndex? i n=some j/\j < n/\ -(n:Int)<=i/\i < n:=by
 unfold wD at h;by_cases h0:0<=i
 ·rw[if_pos h0]at h
  by_cases h1:i < n
  ·rw[if_pos h1]at h
   have e:i.toNat=j:=Option.some.inj h;exact⟨by rw[seqIndex_of h0 h1,e],by omega,by omega,h1⟩
  ·rw[if_neg h1]at h;cases h
 ·rw[if_neg h0]at h
  by_cases h1: -(n:Int)<=i
  ·rw[if_pos h1]at h
   have e:(i+n).toNat=j:=Option.some.inj h;exact⟨by rw[seqIndex_neg (by omega) h1,e],by omega,h1,by omega⟩
  ·rw[if_neg h1]at h;cases h
theorem eR {α:Type}{xs:List α}{i:Int}{v:α}(h:atI xs i=some v): ∃j,seqIndex? i xs.length=some j/\xs[j]?=some v/\j < xs.length/\ -(xs.length:Int)<=i/\i < xs.length:=by
 unfold atI at h;cases e:wD xs.length i with
 | none=>rw[e]at h;cases h
 | some j=>
  rw[e]at h;obtain⟨h1,h2,h3,h4⟩:=zfn e;exact⟨j,h1,h,h2,h3,h4⟩
theorem v6 {α:Type}{xs:List α}{j:Nat}{v:α}(h:xs[j]?=some v):atI xs (j:Int)=some v:=by
 have hj:j < xs.length:=(List.getElem?_eq_some_iff.mp h).1;have e:wD xs.length (j:Int)=some j:=by
  unfold wD;rw[if_pos (by omega),if_pos (by omega)];simp
 unfold atI;rw[e];exact h
def zcS (b:Expr):Prop:= ∀o i,subscripted b false o i=operate [o,i] (getItem o i)
def pB (X:Cx)(r:R2):Prop:=
 ∀(value slice:Expr) (pins:List (Addr×Obj)) (s:Shared) (σ:St) (H:Hp) (x y:V) (v u:Value) (Q:VK),z5 X pins σ H s->zU x v->zU y u->r x y H Q->
  subscripted slice false v u=operate [v,u] (getItem v u)->wpAny (model X.prog X.w) X.A (subscriptTail value slice v u) (EP X pins σ Q) X.xe s
def tI (X:Cx)(id:String)(r:V->List V->Hp->VK->Prop):Prop:=
 ∀(pins:List (Addr×Obj)) (s:Shared) (σ:St) (H:Hp) (x:V) (xs:List V) (v:Value) (us:List Value) (Q:VK),z5 X pins σ H s->zU x v->zR xs us->r x xs H Q->
  wpAny (model X.prog X.w) X.A (call (.builtin id) (v::us)) (EP X pins σ Q) X.xe s
section
variable {X:Cx} {a b:Expr} {ta tb:TE} {pos:Pos}
theorem tR {r:R2}(hr:pB X r)(ha:PE X a ta)(hb:PE X b tb)(hs:zcS b):PE X (.Subscript a b pos) (jJ r ta tb):=by
 (first | refine⟨?_⟩ | skip)
 intro pins s σ H Q I h;exact Subscript_ (eX ha hb I h λv u s2 x y H2 I2 rx ry q=>hr a b pins s2 σ H2 x y v u Q I2 rx ry q (hs _ _))
def zpf (K:Frag):R2:=λx y H Q=> ∃p xs i v,x= .ref p/\y= .int i/\x5 K H p xs/\atI xs i=some v/\Q v H
def zph (K:Frag):R2:=λx y H Q=> ∃p xs i v,x= .ref p/\y= .int i/\x4 K H p xs/\atI xs i=some v/\Q v H
def zpg:R2:=λx y H Q=> ∃z i c,x= .str z/\y= .int i/\z.length<=sizeLine/\atI z.cps.toList i=some c/\Q (.str ⟨#[c]⟩) H
theorem zfp:pB X (zpf X.K):=by
 intro value slice pins s σ H x y v u Q I rx ry h hs;obtain⟨p,xs,i,z,rfl,rfl,hq,he,q⟩:=h;cases rx;obtain⟨t,rfl⟩:=ry;obtain⟨its,r,pl,hz⟩:=I.list hq;obtain⟨j,h1,h2,h3,h4,h5⟩:=eR he;obtain⟨w,ew,rw'⟩:=r.get h2;have hl:=r.length;have hn:=pX;have fin:EP X pins σ Q w s:=⟨z,H,I,rw',q⟩;by_cases h0:0<=i
 ·have hj:i.toNat=j:=by
   rw[seqIndex_of h0 h5]at h1;exact Option.some.inj h1
  exact item_listR pl.isList h0 (by omega) (by rw[hj];simpa using ew) fin hs
 ·have hj:(i+(its.toArray.size:Int)).toNat=j:=by
   rw[seqIndex_neg (by omega) h4]at h1;rw[List.size_toArray,<- hl];exact Option.some.inj h1
  exact subscriptTail_builtinR (x:=w) pl.isList.typeIs slot_list_getitem.lookup
   (wpAny_getItem_list_neg (Q:=λr s'=>r=w/\EP X pins σ Q r s') pl.isList (by omega) (by rw[List.size_toArray] <;> omega) (by omega) (by rw[hj];simpa using ew) ⟨rfl,fin⟩) hs
theorem tM:pB X (zph X.K):=by
 intro value slice pins s σ H x y v u Q I rx ry h hs;obtain⟨p,xs,i,z,rfl,rfl,hq,he,q⟩:=h;cases rx;obtain⟨t,rfl⟩:=ry;obtain⟨its,r,pl,hz⟩:=I.tuple hq;obtain⟨j,h1,h2,h3,h4,h5⟩:=eR he;obtain⟨w,ew,rw'⟩:=r.get h2;have hl:=r.length;have hn:=pX;have fin:EP X pins σ Q w s:=⟨z,H,I,rw',q⟩;exact subscriptTail_builtinR (x:=w) pl.typeIs slot_tuple_getitem.lookup
  (getItem_tuple (j:=j) (Q:=λr s'=>r=w/\EP X pins σ Q r s') pl (by omega) (by omega) (by rw[List.size_toArray,<- hl];exact h1) (by simpa using ew) ⟨rfl,fin⟩) hs
theorem zl6:pB X zpg:=by
 intro value slice pins s σ H x y v u Q I rx ry h hs;obtain⟨z,i,c,rfl,rfl,hz,he,q⟩:=h;obtain⟨t,rfl⟩:=rx;obtain⟨t',rfl⟩:=ry;obtain⟨j,h1,h2,h3,h4,h5⟩:=eR he;have hl:z.cps.toList.length=z.length:=by simp[Str.length]
 rw[hl]at h1 h4 h5;have hn:=pX;exact tail_any (typeIs_str s z t) slot_str_getitem.lookup (getItem_str (c:=c) (by
  have e1:decide (i < -(2 ^ 63:Int))=false:=decide_eq_false (by omega);have e2:decide (i≥2 ^ 63)=false:=decide_eq_false (by omega);rw[e1,e2,Bool.or_false]) (by rw[h1];simpa using h2) ⟨.str ⟨#[c]⟩,H,I.tok _,⟨_,rfl⟩,q⟩) hs
theorem zmp (its:List Value)(n j:Nat)(u:Value):Obj.mapSeq (·.setIfInBounds j u) {cls:= .type "list",data:= .seq its.toArray n} = {cls:= .type "list",data:= .seq (its.set j u).toArray n} :=by
 simp[Obj.mapSeq]
theorem z5.lst {pins:List (Addr×Obj)}{σ:St}{H:Hp}{s:Shared}{p:Addr}{xs:List V}(I:z5 X pins σ H s)(h:H p=some (.lst xs)):
  ∃(its:List Value) (n:Nat),zR xs its/\s.heap.get? p=some {cls:= .type "list",data:= .seq its.toArray n} /\xs.length<=sizeLine:=by
 obtain⟨z,its,n,r,e⟩:=I.hok p _ h;exact⟨its,n,r,e,z⟩
theorem z5.lstUpd {pins:List (Addr×Obj)}{σ:St}{H:Hp}{s:Shared}{p:Addr}{xs ys:List V}{its its':List Value}{n n':Nat}{f:Obj->Obj}(I:z5 X pins σ H s)(h:H p=some (.lst xs))
  (ho:s.heap.get? p=some {cls:= .type "list",data:= .seq its.toArray n}) (hf:f {cls:= .type "list",data:= .seq its.toArray n} = {cls:= .type "list",data:= .seq its'.toArray n'}) (r:zR ys its') (hz:ys.length<=sizeLine) (t:Nat):
  z5 X pins σ (zQ H p (.lst ys)) {s with heap:=s.heap.update p f,toks:=t} :=by
 have e:(s.heap.update p f).get? p=some {cls:= .type "list",data:= .seq its'.toArray n'} :=by
  rw[Heap.get?_update_self f ho (by rw[hf] <;> rfl),hf]
 refine I.write (x:=p) (e:=p) (by rw[h];trivial) (.inl rfl) (λb u hb q=>(Heap.get?_update_other _ _ (Ne.symm hb)).trans q) ⟨_,e⟩ ?_;exact⟨hz,its',n',r,e⟩
def zpo:V->V->V->Hp->(Hp->Prop)->Prop:=λo i v H Q=> ∃p xs k j,o= .ref p/\i= .int k/\H p=some (.lst xs)/\wD xs.length k=some j/\Q (zQ H p (.lst (xs.set j v)))
theorem zpO:eJ X zpo:=by
 (first | refine⟨?_⟩ | skip)
 intro pins s σ H o i v ov iv u Q I ro ri rv h;obtain⟨p,xs,k,j,rfl,rfl,hp,hj,q⟩:=h;cases ro;obtain⟨t,rfl⟩:=ri;obtain⟨its,n,r,ho,hz⟩:=I.lst hp;obtain⟨h1,h2,h3,h4⟩:=zfn hj;have hl:=r.length;have hn:=pX;have I':z5 X pins σ (zQ H p (.lst (xs.set j v))) {s with heap:=s.heap.update p (Obj.mapSeq (·.setIfInBounds j u))} :=
  I.lstUpd hp ho (zmp its n j u) (r.set rv j) (by rw[List.length_set];exact hz) s.toks
 by_cases h0:0<=k
 ·have hk:k.toNat=j:=by
   rw[seqIndex_of h0 h4]at h1;exact Option.some.inj h1
  exact PySem.W.ki_setAt ho h0 (by omega) (by rw[List.size_toArray,<- hl];exact h4) (by rw[hk];exact⟨_,I',q⟩)
 ·have hk:(k+(its.toArray.size:Int)).toNat=j:=by
   rw[seqIndex_neg (by omega) h3]at h1;rw[List.size_toArray,<- hl];exact Option.some.inj h1
  exact PySem.W.ki_setBack ho (by omega) (by rw[List.size_toArray,<- hl];exact h3) (by omega) (by rw[hk];exact⟨_,I',q⟩)
theorem zpX (lo hi:Option Int)(n:Nat):(sliceBounds lo hi none n).1=((HT.sIx n 0 lo:Nat):Int)/\(sliceBounds lo hi none n).2.1=((HT.sIx n n hi:Nat):Int)/\(sliceBounds lo hi none n).2.2=1:=by
 refine⟨?_,?_,rfl⟩
 ·cases lo with
  | none=>simp[sliceBounds,HT.sIx]
  | some i=>
   simp only[sliceBounds,HT.sIx,Option.getD_none,show(1:Int) > 0 by decide,if_true];by_cases h:i < 0
   ·simp only[h,if_true] <;> omega
   ·simp only[h,if_false] <;> omega
 ·cases hi with
  | none=>simp[sliceBounds,HT.sIx]
  | some i=>
   simp only[sliceBounds,HT.sIx,Option.getD_none,show(1:Int) > 0 by decide,if_true];by_cases h:i < 0
   ·simp only[h,if_true] <;> omega
   ·simp only[h,if_false] <;> omega
theorem zpW (its:List Value)(lo hi:Option Int):slicePick its.toArray lo hi none=((its.drop (HT.sIx its.length 0 lo)).take (HT.sIx its.length its.length hi - HT.sIx its.length 0 lo)).toArray:=by
 obtain⟨h1,h2,h3⟩:=zpX lo hi its.toArray.size;unfold slicePick;rw[h1,h2,h3];simp only[sliceRange_one,pick_run,List.size_toArray] <;> rfl
def zpp (K:Frag):V->Option Int->Option Int->Hp->VK->Prop:=λx lo hi H Q=> ∃a xs,x= .ref a/\x5 K H a xs/\∀p,H p=none->Q (.ref p) (zQ H p (.lst (rZ xs lo hi)))
theorem zha:nO X (zpp X.K):=by
 (first | refine⟨?_⟩ | skip)
 intro pins s σ H x v vl vu lo hi sl Q I rx hs pl pu h;obtain⟨a,xs,rfl,hx,q⟩:=h;cases rx;obtain⟨its,r,ht,hz⟩:=I.list hx;have hlen:=r.length;refine⟨"list",_,slot_list_getitem.lookup,ht.isList.typeIs,?_⟩;refine wpAny_getItem_list_slice ht.isList hs pl pu .none (by simp) ?_ (by rw[List.size_toArray] <;> omega);rw[zpW,<- hlen];refine⟨.ref s.heap.objs.size,_,I.laid (t':=s.toks) (o:= .lst (rZ xs lo hi)) (λb ob q=>Heap.get?_push_of_some _ q) (Nat.le_refl _) ?_,rfl,q _ (I.hok.fresh (Nat.le_refl _))⟩;exact⟨Nat.le_trans (kF xs lo hi) hz,_,0,(r.drop (HT.sIx xs.length 0 lo)).take (HT.sIx xs.length xs.length hi - HT.sIx xs.length 0 lo),Heap.get?_push_size _ rfl⟩
def uT:V->Bool
 | .non=>true
 | .bl _=>true
 | .int _=>true
 | .str _=>true
 | _=>false
def sM:V->V->Bool
 | .non,.non=>true
 | .bl a,.bl b=>a==b
 | .bl a,.int b=>(if a then 1 else 0)==b
 | .int a,.bl b=>a==(if b then 1 else 0)
 | .int a,.int b=>a==b
 | .str a,.str b=>a==b
 | _,_=>false
theorem zkf {A:Around}{s:Shared}{y x:V}{u v:Value}(ry:zU y u)(rx:zU x v)(fy:uT y=true)(fx:uT x=true):SeqAt.EqAt A s u v (sM y x):=by
 cases y with
 | non=>
  cases ry;cases x with
  | non=>cases rx;exact SeqAt.EqAt.same _
  | bl b=>cases rx;exact SeqAt.EqAt.none_bool b
  | int b=>obtain⟨t,rfl⟩:=rx;exact SeqAt.EqAt.none_int b t
  | str b=>obtain⟨t,rfl⟩:=rx;exact SeqAt.EqAt.none_str b t
  | _=>exact absurd (show false=true from fx) Bool.false_ne_true
 | bl a=>
  cases ry;cases x with
  | non=>cases rx;exact SeqAt.EqAt.bool_none a
  | bl b=>cases rx;exact SeqAt.EqAt.bool_bool a b
  | int b=>obtain⟨t,rfl⟩:=rx;exact SeqAt.EqAt.bool_int a b t
  | str b=>obtain⟨t,rfl⟩:=rx;exact SeqAt.EqAt.bool_str a b t
  | _=>exact absurd (show false=true from fx) Bool.false_ne_true
 | int a=>
  obtain⟨t',rfl⟩:=ry;cases x with
  | non=>cases rx;exact SeqAt.EqAt.int_none a t'
  | bl b=>cases rx;exact SeqAt.EqAt.int_bool a t' b
  | int b=>obtain⟨t,rfl⟩:=rx;exact SeqAt.EqAt.int_int a t' b t
  | str b=>obtain⟨t,rfl⟩:=rx;exact SeqAt.EqAt.int_str a t' b t
  | _=>exact absurd (show false=true from fx) Bool.false_ne_true
 | str a=>
  obtain⟨t',rfl⟩:=ry;cases x with
  | non=>cases rx;exact SeqAt.EqAt.str_none a t'
  | bl b=>cases rx;exact SeqAt.EqAt.str_bool a t' b
  | int b=>obtain⟨t,rfl⟩:=rx;exact SeqAt.EqAt.str_int a t' b t
  | str b=>obtain⟨t,rfl⟩:=rx;exact SeqAt.EqAt.str_str a t' b t
  | _=>exact absurd (show false=true from fx) Bool.false_ne_true
 | _=>exact absurd (show false=true from fy) Bool.false_ne_true
def tK (x:V)(u:Value):Bool:=match u with
 | .none=>sM .non x
 | .bool b=>sM (.bl b) x
 | .int i _=>sM (.int i) x
 | .str z _=>sM (.str z) x
 | _=>false
theorem dN {x y:V}{u:Value}(r:zU y u)(f:uT y=true):tK x u=sM y x:=by
 cases y with
 | non=>cases r;rfl
 | bl b=>cases r;rfl
 | int i=>obtain⟨t,rfl⟩:=r;rfl
 | str z=>obtain⟨t,rfl⟩:=r;rfl
 | _=>exact absurd (show false=true from f) Bool.false_ne_true
theorem eP {x:V} : ∀{xs:List V} {us:List Value},zR xs us->xs.all uT=true->us.any (tK x)=xs.any λy=>sM y x
 | _,_,.nil,_=>rfl
 | y::xs,u::us,.cons r t,f=>by
  rw[List.all_cons,Bool.and_eq_true]at f;rw[List.any_cons,List.any_cons,dN r f.1,eP t f.2]
theorem g7 {A:Around}{s:Shared}{x:V}{v:Value}(rx:zU x v)(fx:uT x=true): ∀{xs:List V} {us:List Value},zR xs us->xs.all uT=true->∀u∈us,SeqAt.EqAt A s u v (tK x u)
 | _,_,.nil,_=>λu hu=>by cases hu
 | y::xs,u::us,.cons r t,f=>λu' hu=>by
  rw[List.all_cons,Bool.and_eq_true]at f;rcases List.mem_cons.mp hu with rfl | hu
  ·rw[dN r f.1];exact zkf r rx f.1 fx
  ·exact g7 rx fx t f.2 u' hu
def nZ (x:V)(xs:List V):Bool:=xs.any λy=>sM y x
def rIn (K:Frag)(neg:Bool):R2:=λx y H Q=> ∃p xs,y= .ref p/\(x5 K H p xs∨x4 K H p xs)/\uT x=true/\xs.all uT=true/\Q (.bl (if neg then !nZ x xs else nZ x xs)) H
theorem znG:yN X (compareOp .NotIn) (rIn X.K true):=by
 (first | refine⟨?_⟩ | skip)
 intro pins s σ H x y v u Q I rx ry h;obtain⟨p,xs,rfl,hq,fx,fs,q⟩:=h;cases ry;rcases hq with hq | hq
 ·obtain⟨its,r,pl,hz⟩:=I.list hq
  refine SeqAt.notIn_listAt (tK x) pl.isList (λw hw=>g7 rx fx r fs w (by simpa using hw)) ⟨.bl _,H,I,rfl,?_⟩;rw[show its.toArray.any (tK x)=its.any (tK x) by simp,eP r fs];exact q
 ·obtain⟨its,r,pl,hz⟩:=I.tuple hq
  refine SeqAt.notIn_tupleAt (tK x) pl (λw hw=>g7 rx fx r fs w (by simpa using hw)) ⟨.bl _,H,I,rfl,?_⟩;rw[show its.toArray.any (tK x)=its.any (tK x) by simp,eP r fs];exact q
theorem znH:yN X (compareOp .NotIn) (λx y H Q=> ∃i j,x= .str i/\y= .str j/\Q (.bl (!(!(Builtin.Str.occurrences j i 0 j.length 1).isEmpty))) H):=by
 (first | refine⟨?_⟩ | skip)
 intro pins s σ H x y v u Q I rx ry h;obtain⟨i,j,rfl,rfl,q⟩:=h;obtain⟨t,rfl⟩:=rx;obtain⟨t',rfl⟩:=ry;exact notIn_str ⟨.bl _,H,I,rfl,q⟩
theorem eY:xB X (.type "list") (λxs H Q=> ∃p ys,xs= [.ref p]/\(x5 X.K H p ys∨x4 X.K H p ys)/\∀l,H l=none->Q (.ref l) (zQ H l (.lst ys))):=by
 (first | refine⟨?_⟩ | skip)
 intro pins s σ H xs us Q I r h;obtain⟨p,ys,rfl,hq,q⟩:=h;obtain⟨u,rfl,rx⟩:=vK r;cases rx;have fin: ∀(its:List Value),zR ys its->ys.length<=sizeLine->∀(h':Heap) (c':Nat),(∀b o',s.heap.get? b=some o'->h'.get? b=some o')->
   h'.get? s.heap.objs.size=some {cls:= .type "list",dict:=none,data:= .seq its.toArray c',slots:= #[]} ->EP X pins σ Q (.ref s.heap.objs.size) {s with heap:=h'} :=λits r' hz h' c' kp e=>
  ⟨.ref s.heap.objs.size,_,I.laid (t':=s.toks) kp (Nat.le_refl _) (show xX X.prog X.w _ h' _ (.lst ys)from⟨hz,its,c',r',e⟩),rfl,q _ (I.hok.fresh (Nat.le_refl _))⟩
 rcases hq with hq | hq
 ·obtain⟨its,r',pl,hz⟩:=I.list hq
  have hlen:=r'.length;obtain⟨o,ho,hc,n,hd⟩:=pl.isList;exact call_list_seq p (.inl rfl) ho hc hd (λh' c' kp e=>fin its r' hz h' c' kp e) (by simp only[List.size_toArray] <;> omega)
 ·obtain⟨its,r',pl,hz⟩:=I.tuple hq
  have hlen:=r'.length;obtain⟨o,ho,hc,n,hd⟩:=pl;exact call_list_seq p (.inr rfl) ho hc hd (λh' c' kp e=>fin its r' hz h' c' kp e) (by simp only[List.size_toArray] <;> omega)
theorem eZ:xB X (.type "tuple") (λxs H Q=> ∃p ys,xs= [.ref p]/\((x5 X.K H p ys/\∀l,H l=none->Q (.ref l) (zQ H l (.tup ys)))∨(x4 X.K H p ys/\Q (.ref p) H))):=by
 (first | refine⟨?_⟩ | skip)
 intro pins s σ H xs us Q I r h;obtain⟨p,ys,rfl,h⟩:=h;obtain⟨u,rfl,rx⟩:=vK r;cases rx;rcases h with⟨hq,q⟩ | ⟨hq,q⟩
 ·obtain⟨its,r',pl,hz⟩:=I.list hq
  have hlen:=r'.length;refine call_tuple_list pl.isList (λh' kp=> ?_) (by simp only[List.size_toArray] <;> omega);have I1:z5 X pins σ H {s with heap:=h'} :=I.kept (t':=s.toks) kp;have I2:z5 X pins σ (zQ H h'.objs.size (.tup ys)) {s with heap:=h'.push {cls:= .type "tuple",data:= .seq its.toArray}} :=
   I1.laid (t':=s.toks) (λb o e=>Heap.get?_push_of_some _ e) (Nat.le_refl _) (show xX X.prog X.w _ _ _ (.tup ys)from⟨hz,its,r',uI.new _ _⟩)
  exact⟨.ref h'.objs.size,_,I2,rfl,q _ (I1.hok.fresh (Nat.le_refl _))⟩
 ·obtain⟨its,r',pl,hz⟩:=I.tuple hq
  exact call_tuple_same pl ⟨.ref p,H,I,rfl,q⟩
def fL (K:Frag)(T:String)(x:V)(H:Hp):Prop:=match x with
 | .str _=>T= "str"
 | .int _=>T= "int"
 | .ref p=>(T= "list" /\∃xs,x5 K H p xs)∨(T= "tuple" /\∃o,K.lookup p=some o/\o.cls= .type "tuple" /\o.dict=none)∨
   (T= "dict" /\((∃kvs,H p=some (.dK kvs))∨∃kvs,H p=some (.dT kvs)))∨(T= "set" /\∃S n,H p=some (.set S n))
 | _=>False
theorem zhI {pins:List (Addr×Obj)}{σ:St}{H:Hp}{s:Shared}{T:String}{x:V}{v:Value}(I:z5 X pins σ H s)(r:zU x v)(ty:fL X.K T x H):
  s.TypeIs v T/\∀a,v= .ref a->∃ob,s.heap.get? a=some ob/\ob.dict=none:=by
 cases x with
 | str z=>
  obtain⟨t,rfl⟩:=r;cases(show T= "str" from ty);exact⟨typeIs_str s z t,λ_ e=>nomatch e⟩
 | int i=>
  obtain⟨t,rfl⟩:=r;cases(show T= "int" from ty);exact⟨typeIs_int s i t,λ_ e=>nomatch e⟩
 | ref p=>
  cases r;rcases ty with⟨rfl,xs,hq⟩ | ⟨rfl,o,hk,hc,hd⟩ | ⟨rfl,hk⟩ | ⟨rfl,S,n,hk⟩
  ·obtain⟨its,_,pl,_⟩:=I.list hq
   refine⟨pl.isList.typeIs,λa e=> ?_⟩;cases e;obtain⟨o,n,e,c,hd,_⟩:=pl;exact⟨o,e,hd⟩
  ·refine⟨⟨o,I.kIn p o hk,hc⟩,λa e=> ?_⟩
   cases e;exact⟨o,I.kIn _ o hk,hd⟩
  ·have z: ∃o,s.heap.get? p=some o/\o.ExactDict:=by
    rcases hk with⟨kvs,hk⟩ | ⟨kvs,hk⟩
    ·obtain⟨_,_,_,_,o,_,_,e,ex,_⟩:=I.hok p _ hk
     exact⟨o,e,ex⟩
    ·obtain⟨_,_,_,_,o,_,_,e,ex,_⟩:=I.hok p _ hk
     exact⟨o,e,ex⟩
   obtain⟨o,e,ex⟩:=z;refine⟨⟨o,e,ex.1⟩,λa e2=> ?_⟩;cases e2;exact⟨o,e,ex.2.1⟩
  ·obtain⟨o,_,_,_,e,ex,_⟩:=I.hok p _ hk
   refine⟨⟨o,e,ex.1⟩,λa e2=> ?_⟩;cases e2;exact⟨o,e,ex.2.1⟩
 | _=>exact False.elim ty
def zqb (K:Frag)(T:String)(r:V->List V->Hp->VK->Prop)(to:TE):TE:=λσ H Q=>to σ H λx H1=>fL K T x H1/\r x [] H1 Q
def tBM (K:Frag)(T:String)(r:V->List V->Hp->VK->Prop)(to:TE)(t:TA):TE:=λσ H Q=>to σ H λx H1=>fL K T x H1/\t σ H1 λxs H2=>r x xs H2 Q
variable {o e:Expr} {es:List Expr} {to:TE} {t:TA} {name:Str} {apos cpos:Pos} {T id:String} {r:V->List V->Hp->VK->Prop}
theorem znT (pa:PlainAttrs T)(slot:Slot T name id)(hty:typeOf (.builtin id)=pure (.type "method_descriptor"))(hm:tI X id r)(ho:PE X o to)
  (hbase:attributeBase o name X.env (eval o X.env)=eval o X.env:=by rfl) (hline:(apos.endLine==cpos.line)=true:=by rfl):PE X (.Call (.Attribute o name apos) [] [] cpos) (zqb X.K T r to):=by
 (first | refine⟨?_⟩ | skip)
 intro pins s σ H Q I h;refine wpAny_Call_method0_late hbase hline (y8 (ho pins s σ H _ I h) λv s1 ⟨x,H1,I1,r1,ty,q1⟩=> ?_);obtain⟨h1,h2⟩:=zhI I1 r1 ty;exact⟨T,id,pa,slot,hty,h1,h2,Calls.callWith_builtin rfl (PySem.evalArgs_none (hm pins s1 σ H1 x [] v [] Q I1 r1 .nil q1))⟩
theorem znS (pa:PlainAttrs T)(slot:Slot T name id)(hty:typeOf (.builtin id)=pure (.type "method_descriptor"))(hm:tI X id r)(ho:PE X o to)(ha:PA X (e::es) t)
  (hbase:attributeBase o name X.env (eval o X.env)=eval o X.env:=by rfl)
  (hfew:((backTo cpos (starEach (e::es) X.env)).all (λx=> !x.1)&&(backToKw cpos (keywordEach [] X.env)).all (λx=>x.1.isSome)
   &&decide ((e::es).length+([]:List Keyword).length+(if([]:List Keyword).isEmpty then 0 else 1) < 30))=true:=by rfl)
  (hline:(apos.endLine==cpos.line)=true:=by rfl) (hs:starEach (e::es) X.env=(false,eval e X.env)::starEach es X.env:=by rfl) (hplain:(backTo cpos (starEach es X.env)).any (·.1)=false:=by rfl):
  PE X (.Call (.Attribute o name apos) (e::es) [] cpos) (tBM X.K T r to t):=by
 (first | refine⟨?_⟩ | skip)
 intro pins s σ H Q I h;refine wpAny_Call_method_late hbase hfew hline rfl (y8 (ho pins s σ H _ I h) λv s1 ⟨x,H1,I1,r1,ty,q1⟩=> ?_);obtain⟨h1,h2⟩:=zhI I1 r1 ty;refine⟨T,id,pa,slot,hty,h1,h2,?_⟩;have hA:=ha cpos pins s1 σ H1 _ I1 q1;rw[hs]at hA⊢
 refine Calls.callWith_builtin (by show(false||(backTo cpos (starEach es X.env)).any (·.1))=false;rw[hplain] <;> rfl) (Calls.evalArgs_plain ?_);exact y8 hA λus s2 ⟨vs,H2,I2,r2,q2⟩=>hm pins s2 σ H2 x vs v us Q I2 r1 r2 q2
end
end L2
namespace L2
open PySem PySem.Spec PyProof.Rows
def eI (X:Cx)(id:String)(r:V->List V->Hp->VK->Prop):Prop:=
 ∀(pins:List (Addr×Obj)) (s:Shared) (σ:St) (H:Hp) (x:V) (xs:List V) (v:Value) (us:List Value) (Q:VK),z5 X pins σ H s->zU x v->zR xs us->r x xs H Q->
  wpAny (model X.prog X.w) X.A (call (.builtin id) (v::us)) (EP X pins σ Q) X.xe s
theorem zR.one: ∀{x:V} {us:List Value},zR [x] us->∃u,us= [u]/\zU x u
 | _,_,.cons r .nil=>⟨_,rfl,r⟩
theorem zR.two {x y:V}{us:List Value}(h:zR [x,y] us): ∃u v,us= [u,v]/\zU x u/\zU y v:=by
 cases h with | cons r t=>cases t with | cons q t2=>cases t2;exact⟨_,_,rfl,r,q⟩
theorem zR.eraseIdx: ∀{xs:List V} {us:List Value} (i:Nat),zR xs us->zR (xs.eraseIdx i) (us.eraseIdx i)
 | _,_,_,.nil=> .nil
 | _,_,0,.cons _ t=>t
 | _,_,i+1,.cons r t=> .cons r (zR.eraseIdx i t)
theorem zfx {α:Type} : ∀(l:List α) (i:Nat),(l.eraseIdx i).length<=l.length
 | [],_=>Nat.le_refl _
 | _::_,0=>Nat.le_succ _
 | _::r,i+1=>Nat.succ_le_succ (zfx r i)
section
variable {X:Cx} {pins:List (Addr×Obj)} {σ:St} {H:Hp} {s:Shared} {l b:Addr} {xs ys zs:List V}
theorem z5.lset {its its':List Value}{n:Nat}{f:Array Value->Array Value}{t':Nat}(I:z5 X pins σ H s)(hH:H l=some (.lst xs))
  (e:s.heap.get? l=some {cls:= .type "list",data:= .seq its.toArray n}) (hf:f its.toArray=its'.toArray) (hv:zR ys its') (hz:ys.length<=sizeLine):
  z5 X pins σ (zQ H l (.lst ys)) {s with heap:=s.heap.update l (Obj.mapSeq f),toks:=t'} :=by
 have q:=PySem.IsL.update e f;rw[hf]at q;refine I.write (x:=l) (e:=l) (by rw[hH];exact trivial) (.inl rfl) (λb' u hb hu=>(Heap.get?_update_other s.heap (Obj.mapSeq f) (Ne.symm hb)).trans hu) ⟨_,q⟩ ?_;exact⟨hz,its',_,hv,q⟩
theorem z5.lnew {its:List Value}{t':Nat}(I:z5 X pins σ H s)(hv:zR ys its)(hz:ys.length<=sizeLine):
  z5 X pins σ (zQ H s.heap.objs.size (.lst ys)) {s with heap:=s.heap.push {cls:= .type "list",data:= .seq its.toArray},toks:=t'} :=
 I.laid (λ_ _ q=>Heap.get?_push_of_some _ q) (Nat.le_refl _) ⟨hz,its,0,hv,Heap.get?_push_size _ rfl⟩
theorem z5.fresh (I:z5 X pins σ H s):H s.heap.objs.size=none:=I.hok.fresh (Nat.le_refl _)
theorem z5.lstM (I:z5 X pins σ H s)(hH:H l=some (.lst xs)):xs.length<=sizeLine/\∃(its:List Value) (n:Nat),zR xs its/\xs.length=its.length/\s.heap.get? l=some {cls:= .type "list",data:= .seq its.toArray n} :=by
 obtain⟨z,its,n,r,e⟩:=I.hok l _ hH;exact⟨z,its,n,r,r.length,e⟩
end
section
variable {X:Cx}
def zoX:V->List V->Hp->VK->Prop:=λx vs H Q=> ∃l xs y,x= .ref l/\vs= [y]/\H l=some (.lst xs)/\xs.length < sizeLine/\Q .non (zQ H l (.lst (xs++ [y])))
theorem zm0:eI X "list.append" zoX:=by
 (first | refine⟨?_⟩ | skip)
 intro pins s σ H x vs v us Q I rx rv h;obtain⟨l,xs,y,rfl,rfl,hH,hz,q⟩:=h;cases rx;obtain⟨u,rfl,ru⟩:=rv.one;obtain⟨z,its,n,r,hl,e⟩:=I.lstM hH;refine call_meets F.slot_list_append ⟨_,e,rfl⟩ F.entry_list_append (F.args_list_append_2 _ _) (PySem.list_append l its.toArray n u (by rw[List.size_toArray];omega)) ⟨e,?_⟩;refine⟨.non,_,I.lset (its':=its++ [u]) hH e (by simp) (r.append (.cons ru .nil)) ?_,rfl,q⟩;rw[List.length_append,List.length_singleton];omega
def zpm:V->List V->Hp->VK->Prop:=λx vs H Q=> ∃l xs i k y,x= .ref l/\vs= [.int i]/\H l=some (.lst xs)/\ -(2 ^ 63)<=i/\i < 2 ^ 63/\seqIndex? i xs.length=some k/\xs[k]?=some y/\Q y (zQ H l (.lst (xs.eraseIdx k)))
theorem zm4:eI X "list.pop" zpm:=by
 (first | refine⟨?_⟩ | skip)
 intro pins s σ H x vs v us Q I rx rv h;obtain⟨l,xs,i,k,y,rfl,rfl,hH,h1,h2,hk,hy,q⟩:=h;cases rx;obtain⟨u,rfl,ru⟩:=rv.one;obtain⟨t,rfl⟩:=ru;obtain⟨z,its,n,r,hl,e⟩:=I.lstM hH;obtain⟨w,hw,rw'⟩:=r.get hy;refine call_meets F.slot_list_pop ⟨_,e,rfl⟩ F.entry_list_pop (F.args_list_pop_2 _ _)
  (MeetsSeq.list_pop_at l its.toArray n i t k w (fitsIndex_both h1 h2) (by rw[List.size_toArray,<- hl];exact hk) (by rw[<- Array.getElem?_toList];exact hw) (by rw[List.size_toArray];omega)) ⟨e,?_⟩
 refine⟨y,_,I.lset (its':=its.eraseIdx k) hH e ?_ (r.eraseIdx k) ?_,rw',q⟩
 ·show its.toArray.eraseIdxIfInBounds k=(its.eraseIdx k).toArray
  rw[List.eraseIdxIfInBounds_toArray]
 ·have:=zfx xs k
  omega
end
section
variable {prog:Program} {w:World} {A:Around} {E:Value->Shared->Prop} {s:Shared}
end
section
variable {X:Cx}
end
end L2
namespace Att
open PySem PySem.W PySem.Calls PyProof.Rows
theorem zlr {P:Params}{h:Heap} : ∀(ns:List Int) (vs:List Value),WellAll P h vs (ns.map WData.int)->IntsAre vs ns:=by
 intro ns
 induction ns with
 | nil=>
  intro vs w;rw[List.map_nil]at w;cases w;exact .nil
 | cons n ns ih=>
  intro vs w;rw[List.map_cons]at w;cases w with
  | cons a b=>
   cases a;exact .cons _ _ (ih _ b)
theorem zpH {l:OpenLaw}{n:Nat}(hn:l.most=some n){P:Params}{h:Heap}{args:List WData}{vals:List Value}
  (hpre:l.row.toRowW.claim.pre args=true) (hwl:WellAll P h vals args):
  ∃a vs ns,vals= [Value.ref a]/\args= [WData.list (ns.map WData.int)]/\h.get? a=some {cls:= .type "list",data:= .seq vs.toArray} /\IntsAre vs ns/\ns.length<=n:=by
 have hsh:WShape.hasAll [] args [.list .int]=true:=(pre_splitW hpre).1;have hc:l.pre.holds [] {args:=args} =true:=(pre_splitW hpre).2;obtain⟨d,r,rfl,h1,h2⟩:=hasAllW_cons hsh;obtain rfl:=hasAllW_nil h2;obtain⟨xs,rfl,h3⟩:=hasW_list h1;obtain⟨ns,rfl⟩:=items_int h3;have hlen:ns.length<=n:=by
  unfold OpenLaw.pre at hc;have h4:(WTm.not (.lt (.lit (.int (n:Int))) (.len (.arg 0)))).holds [] {args:= [.list (ns.map .int)]} =true:=by
   have h4:=(holds_andW hc).1;rw[hn]at h4;exact h4
  have h5:=condW_of h4 (w_not (w_lt w_lit (w_len_list (w_arg rfl))));rw[List.length_map]at h5;refine Nat.le_of_not_lt λq=> ?_;have q':(n:Int) < ((ns.length:Nat):Int):=by omega
  first
   | (rw[decide_eq_true q']at h5;exact absurd h5 (by decide))
   | (simp at h5;omega)
 cases hwl with
 | cons w1 w2=>
  cases w2;cases w1 with
  | list ho hall=>exact⟨_,_,ns,rfl,rfl,ho,zlr ns _ hall,hlen⟩
theorem zo3 (l:OpenLaw)(args:List WData):l.row.toRowW.claim.post args (.bool true) args=true:=
 postW_of (r:=l.row.toRowW) (X:=(true==true))
  (show WShape.has [] (.bool true) .bool=true by first | rfl | decide | simp[WShape.has,WShape.arms,WShape.armsAll])
  (show(WTm.eq .res (.lit (.bool true))).value [] {args:=args,res:=some (.bool true),after:=args} =some (.bool (true==true))from w_eq_bool (w_res rfl) w_lit) rfl
theorem attach_call {l:OpenLaw}{n:Nat}{q:Program}{loose:List Str}{XP:(Str->Option Value)->Heap->Prop}{YP:World->Heap->Prop}{d:DefRec}
  (hn:l.most=some n) (hdf:d.params.defaults= [])
  (call: ∀(w:World) (s₀ s₁:Shared) (mg mb:Str->Option Value) (fa:Addr) (o:Obj) (pm cd doc:Value) (a:Addr) (vs:List Value) (ns:List Int),
   Ground q loose [] XP w s₀ mg mb s₁.heap->YP w s₁.heap->
   s₁.heap.get? fa=some o->o.data= .func (docDef d.name d.params d.body d.scope pm cd doc)->s₁.heap.CodeRec cd d.name->mg d.name=some (.ref fa)->
   s₁.heap.get? a=some {cls:= .type "list",data:= .seq vs.toArray} ->IntsAre vs ns->ns.length<=n->s₁.gens= #[]->
   codeAny (model l.prog w) callerA (.call (.ref fa) ⟨[.ref a],[]⟩) (λr s'=>r= .ok (.ret (.bool true))/\OldK s₁.heap s'.heap/\s'.os=s₁.os/\AllBare s'.gens) s₁):
  WalkO q loose XP YP l.row.toRowW d [] (λf vs=>PySem.call f vs):=by
 intro w s₀ s₁ mg mb G Y fa o pm cd doc dV kV ho hd hcd hD hmg hg args vals as hpre hlay hrd hwl hlo;obtain rfl:dV= .none:=Dflts.none hD hdf;obtain rfl:kV= .none:=Dflts.noKw hD;obtain⟨a,vs,ns,rfl,rfl,hobj,hints,hlen⟩:=zpH hn hpre hwl;refine enter_call (codeAny_mono (call w s₀ s₁ mg mb fa o pm cd doc a vs ns G Y ho (fd_plain hd) hcd hmg hobj hints hlen hg) λr s' hq=> ?_);obtain⟨rfl,h2,h3,h4⟩:=hq;exact⟨.inl ⟨.bool true,.bool true,[],rfl,λ_=>rfl,.bool true,zo3 l _,λ_=>⟨List.Pairwise.nil,λ_ hm=>(nomatch hm)⟩⟩,h2,h3,h4⟩
section
variable {prog:Program} {w:World} {A:Around} {E:Value->Shared->Prop} {s:Shared} {K:Frag}
end
end Att
namespace L2
open PySem PySem.Spec PyProof.Rows
theorem zim: ∀{vs:List Value} {ns:List Int},IntsAre vs ns->zR (ns.map V.int) vs
 | _,_,.nil=> .nil
 | _,_,.cons n t h=> .cons ⟨t,rfl⟩ (zim h)
end L2
namespace L2
open PySem PySem.Spec PyProof.Rows
end L2
namespace L2
open PySem PySem.Spec PyProof.Rows
def yR (s:Stmt):Arguments:=match s with
 | .FunctionDef _ a _ _ _ _ _ _ _ _=>a
 | _=> {posonlyargs:= [],args:= [],vararg:=none,kwonlyargs:= [],kw_defaults:= [],kwarg:=none,defaults:= []}
def yM (s:Stmt):List Stmt:=match s with
 | .FunctionDef _ _ b _ _ _ _ _ _ _=>b
 | _=> []
def zK (s:Stmt):Scope:=match s with
 | .FunctionDef _ _ _ _ _ _ sc _ _ _=>sc
 | _=> {kind:= .function,names:= [],isGenerator:=false,isCoroutine:=false}
abbrev zI:tF:=λ_ _ _ _ _ _=>False
abbrev E0:XK:=λ_ _ _=>False
theorem qE {X:Cx} :i8 zI X E0:=λ_ _ _ _ _ _ _ h=>h.elim
structure zZ (K:Frag)(x qual:Str)(st:Stmt)(f:Addr)(fd:FuncData):Prop where
 ex: ∃(oc:Value) (od:Option Addr) (kV doc pm:Value) (an:Option Addr) (cdv ct:Value) (osl:Array (Option Value)),
  fd=fnOf x qual (yR st) (yM st) (zK st) .none kV doc pm an cdv ct/\K.lookup f=some ⟨oc,od,.func fd,osl⟩/\codeIn K cdv qual=true
 kp:keepIn K (.ref f)=true
section
variable {P:Program} {w:World} {K:Frag} {mg:Str->Option Value} {base:Heap}
theorem zZ.ok {x qual:Str}{st:Stmt}{f:Addr}{fd:FuncData}{N ps:List Str}{k:Nat}{sp:Sp}(F:zZ K x qual st f fd)(S:yX N ps (zK st))(len: ∀vs H Q E,sp vs H Q E->vs.length=ps.length)
  (hbody: ∀(cdv:Value) (A:Around) (outer:List Env) (s:Shared) (H:Hp) (vs:List V) (Q:VK) (E:XK),zX k (A.deeper (envOfC qual (zK st) s.heap.objs.size f cdv))->sp vs H Q E->
   ∃t,xQ (sK zI P w K mg base N qual (zK st) f cdv A outer s H E).nox (yM st) t/\t {nx:=λ_ H'=>Q .non H',rt:=Q} (start N vs) H):zJ P w K mg base zI (k+1) f fd ps sp:=by
 obtain⟨oc,od,kV,doc,pm,an,cdv,ct,osl,rfl,lk,hcd⟩:=F.ex;refine zeR lk hcd S len λA outer s H vs Q E hr hsp=> ?_;obtain⟨t,h,q⟩:=hbody cdv A outer s H vs Q E hr hsp;exact⟨t,h.nox,q⟩
theorem zZ.binds {x qual:Str}{st:Stmt}{f:Addr}{fd:FuncData}{ps:List Str}(F:zZ K x qual st f fd)
  (h: ∀(kV doc pm:Value) (an:Option Addr) (cdv ct:Value) (us:List Value),us.length=ps.length->bindArgs (fnOf x qual (yR st) (yM st) (zK st) .none kV doc pm an cdv ct) ⟨us,[]⟩=pure (ps.zip us)):yH K fd ps []:=by
 obtain⟨oc,od,kV,doc,pm,an,cdv,ct,osl,rfl,lk,hcd⟩:=F.ex;exact .all (h kV doc pm an cdv ct)
theorem x6 {x qual:Str}{st:Stmt}{f:Addr}{oc:Value}{od an:Option Addr}{osl:Array (Option Value)}{kV doc pm cdv ct:Value}(l:K.lookup f=some ⟨oc,od,.func (fnOf x qual (yR st) (yM st) (zK st) .none kV doc pm an cdv ct),osl⟩)
  (c:codeIn K cdv qual=true) (k:keepIn K (.ref f)=true):zZ K x qual st f (fnOf x qual (yR st) (yM st) (zK st) .none kV doc pm an cdv ct):=⟨⟨oc,od,kV,doc,pm,an,cdv,ct,osl,rfl,l,c⟩,k⟩
end
section
variable {X:Cx}
theorem pv (i:Nat){x:Str}{pos:Pos}(hN:X.N[i]?=some x:=by rfl)(hv:lW X.env.scope x:=by first | exact Or.inl rfl | exact Or.inr (Or.inl rfl) | exact Or.inr (Or.inr rfl))(hd:(x==("__debug__" :Str))=false:=by decide)
  (hcd:(x==("__classdict__" :Str))=false:=by decide):PE X (.Name x pos) (fI i):=zbz hN hv hd hcd
end
theorem zl1 {A B:Prop}(h:B):if false=true then A else B:=by
 rw[if_neg Bool.false_ne_true];exact h
theorem zl2 {A B:Prop}(h:A):if true=true then A else B:=by
 rw[if_pos rfl];exact h
theorem wO {c A B:Prop}[Decidable c](h1:c->A)(h2: ¬ c->B):if c then A else B:=by
 by_cases h:c
 ·rw[if_pos h]
  exact h1 h
 ·rw[if_neg h]
  exact h2 h
def wK (H H':Hp):Prop:= ∀b o,H b=some o->H' b=some o
theorem wK.refl (H:Hp):wK H H:=λ_ _ h=>h
theorem wK.trans {H H1 H2:Hp}(a:wK H H1)(b:wK H1 H2):wK H H2:=λc o h=>b c o (a c o h)
end L2
namespace L2
open PySem PySem.Spec PyProof.Rows
section
variable {κ:Type} [DecidableEq κ]
def vS (kvs:List (κ×V))(k:κ):Option V:=(kvs.find? λkv=>decide (kv.1=k)).map (·.2)
def wX (kvs:List (κ×V))(k:κ)(v:V):List (κ×V):=
 if(kvs.any λkv=>decide (kv.1=k))=true then kvs.map (λkv=>if kv.1=k then(kv.1,v)else kv)else kvs++ [(k,v)]
theorem fR {p:κ×V}{r:List (κ×V)}{k:κ}(e:p.1=k):vS (p::r) k=some p.2:=by simp[vS,List.find?_cons,e]
theorem fQ {p:κ×V}{r:List (κ×V)}{k:κ}(e: ¬ p.1=k):vS (p::r) k=vS r k:=by simp[vS,List.find?_cons,e]
theorem zil (k:κ): ∀kvs:List (κ×V),(kvs.any λkv=>decide (kv.1=k))=(vS kvs k).isSome
 | []=>rfl
 | p::r=>by
  rw[List.any_cons];by_cases e:p.1=k
  ·simp only[fR e,decide_eq_true e,Bool.true_or,Option.isSome_some]
  ·rw[fQ e,decide_eq_false e,Bool.false_or];exact zil k r
theorem h9 (kvs:List (κ×V))(k:κ)(v:V):(wX kvs k v).length<=kvs.length+1:=by
 unfold wX
 split
 ·rw[List.length_map];omega
 ·rw[List.length_append,List.length_cons,List.length_nil];omega
theorem uM.isSome_eq {o:Option V}{u:Option Value}(r:uM o u):o.isSome=u.isSome:=by
 cases o with
 | none=>cases u with
  | none=>rfl
  | some _=>exact(show False from r).elim
 | some _=>cases u with
  | none=>exact(show False from r).elim
  | some _=>rfl
theorem uM.getD {o:Option V}{u:Option Value}{d:V}{d':Value}(r:uM o u)(rd:zU d d'):zU (o.getD d) (u.getD d'):=by
 cases o with
 | none=>cases u with
  | none=>exact rd
  | some _=>exact(show False from r).elim
 | some _=>cases u with
  | none=>exact(show False from r).elim
  | some _=>exact r
theorem KV.val {kvs:List (κ×V)}{vs:List (κ×Value)}(r:KV kvs vs)(k:κ):uM (vS kvs k) (valueAt vs k):=by
 unfold KV at r
 induction r with
 | nil=>exact True.intro
 | @cons p q ps qs h t ih=>
  obtain⟨h1,h2⟩:=h;by_cases e:p.1=k
  ·have e':q.1=k:=h1.symm.trans e
   have b:valueAt (q::qs) k=some q.2:=by simp[valueAt,List.find?_cons,e']
   rw[fR e,b];exact h2
  ·have e': ¬ q.1=k:=λz=>e (h1.trans z)
   have b:valueAt (q::qs) k=valueAt qs k:=by simp[valueAt,List.find?_cons,e']
   rw[fQ e,b];exact ih
theorem KV.any {kvs:List (κ×V)}{vs:List (κ×Value)}(r:KV kvs vs)(k:κ):(kvs.any λkv=>decide (kv.1=k))=vs.any λkv=>decide (kv.1=k):=by
 unfold KV at r
 induction r with
 | nil=>rfl
 | cons h t ih=>rw[List.any_cons,List.any_cons,ih,h.1]
theorem KV.repl {kvs:List (κ×V)}{vs:List (κ×Value)}(r:KV kvs vs)(k:κ){y:V}{u:Value}(ry:zU y u):
  KV (kvs.map λkv=>if kv.1=k then(kv.1,y)else kv) (vs.map λkv=>if kv.1=k then(kv.1,u)else kv):=by
 unfold KV at r⊢
 induction r with
 | nil=>exact .nil
 | @cons p q ps qs h t ih=>
  rw[List.map_cons,List.map_cons];refine .cons ?_ ih;obtain⟨h1,h2⟩:=h;by_cases e:p.1=k
  ·rw[if_pos e,if_pos (h1.symm.trans e)];exact⟨h1,ry⟩
  ·rw[if_neg e,if_neg (λz=>e (h1.trans z))];exact⟨h1,h2⟩
theorem KV.put {kvs:List (κ×V)}{vs:List (κ×Value)}(r:KV kvs vs)(k:κ){y:V}{u:Value}(ry:zU y u):KV (wX kvs k y) (stored vs k u):=by
 unfold wX stored;rw[r.any k];by_cases e:(vs.any λkv=>decide (kv.1=k))=true
 ·rw[if_pos e,if_pos e];exact r.repl k ry
 ·rw[if_neg e,if_neg e];exact Paired.snoc r ⟨rfl,ry⟩
theorem KV.keys {kvs:List (κ×V)}{vs:List (κ×Value)}(r:KV kvs vs):kvs.map (·.1)=vs.map (·.1):=by
 unfold KV at r
 induction r with
 | nil=>rfl
 | cons h t ih=>rw[List.map_cons,List.map_cons,ih,h.1]
theorem KV.length {kvs:List (κ×V)}{vs:List (κ×Value)}(r:KV kvs vs):kvs.length=vs.length:=Paired.length r
end
theorem q5 {P:Program}{w:World}{k:zA}{u:Value}(r:zU (kV k) u):(yW P w).is k u=true:=by
 cases k with
 | inl i=>obtain⟨t,e⟩:=(show ∃t,u=Value.int i t from r);subst e;exact zmt P w i t
 | inr x=>obtain⟨t,e⟩:=(show ∃t,u=Value.str x t from r);subst e;exact zmu P w x t
theorem zfl {P:Program}{w:World} : ∀{ks:List zA} {us:List Value},zR (ks.map kV) us->ItemsAre (yW P w) ks us
 | [],_,r=>by rw[List.map_nil]at r;cases r;exact .nil
 | k::ks,_,r=>by
  rw[List.map_cons]at r;cases r with
  | cons h t=>exact .cons (q5 h) (zfl t)
abbrev KT (H:Hp):List (List zA×V)->List (List zA×Addr×Value)->Prop:=Paired λp q=>p.1=q.1/\H q.2.1=some (.tup (p.1.map kV))/\zU p.2 q.2.2
theorem KT.val {H:Hp}{kvs:List (List zA×V)}{xs:List (List zA×Addr×Value)}(r:KT H kvs xs)(k:List zA):uM (vS kvs k) ((atKey xs k).map (·.2)):=by
 induction r with
 | nil=>exact True.intro
 | @cons p q ps qs h t ih=>
  obtain⟨h1,_,h2⟩:=h;by_cases e:p.1=k
  ·have e':q.1=k:=h1.symm.trans e
   have b:atKey (q::qs) k=some q.2:=by simp[atKey,List.find?_cons,e']
   rw[fR e,b];exact h2
  ·have e': ¬ q.1=k:=λz=>e (h1.trans z)
   have b:atKey (q::qs) k=atKey qs k:=by simp[atKey,List.find?_cons,e']
   rw[fQ e,b];exact ih
theorem KT.repl {H:Hp}{kvs:List (List zA×V)}{xs:List (List zA×Addr×Value)}(r:KT H kvs xs)(k:List zA){y:V}{u:Value}(ry:zU y u):
  KT H (kvs.map λkv=>if kv.1=k then(kv.1,y)else kv) (xs.map (putAt k u)):=by
 induction r with
 | nil=>exact .nil
 | @cons p q ps qs h t ih=>
  rw[List.map_cons,List.map_cons];refine .cons ?_ ih;obtain⟨h1,h2,h3⟩:=h;unfold putAt;by_cases e:p.1=k
  ·rw[if_pos e,if_pos (h1.symm.trans e)];exact⟨h1,h2,ry⟩
  ·rw[if_neg e,if_neg (λz=>e (h1.trans z))];exact⟨h1,h2,h3⟩
theorem KT.put {H:Hp}{kvs:List (List zA×V)}{xs:List (List zA×Addr×Value)}(r:KT H kvs xs)(k:List zA){b:Addr}{y:V}{u:Value}(hb:H b=some (.tup (k.map kV)))(ry:zU y u):
  KT H (wX kvs k y) (storedH xs k b u):=by
 have e:(kvs.any λkv=>decide (kv.1=k))=(atKey xs k).isSome:=by
  rw[zil,(r.val k).isSome_eq,Option.isSome_map]
 unfold wX storedH;rw[e];by_cases q:(atKey xs k).isSome=true
 ·rw[if_pos q,if_pos q];exact r.repl k ry
 ·rw[if_neg q,if_neg q];exact Paired.snoc r ⟨rfl,hb,ry⟩
theorem KT.keeps {H H':Hp}{kvs:List (List zA×V)}{xs:List (List zA×Addr×Value)}(r:KT H kvs xs)(ht: ∀b ys,H b=some (.tup ys)->H' b=some (.tup ys)):KT H' kvs xs:=
 Paired.mapP r λ_ _ z=>⟨z.1,ht _ _ z.2.1,z.2.2⟩
section
variable {P:Program} {w:World} {H:Hp} {h:Heap} {a:Addr}
theorem zgB {u:HO}(ok:xC P w H h)(e:Rd H a u):xX P w H h a u:=e.ok ok
theorem pL {kvs:List (zA×V)}(ok:xC P w H h)(e:Rd H a (.dK kvs)):kvs.length<=sizeLine/\(a==sysModules)=false/\∃vs,KV kvs vs/\h.DictOf (yW P w) a vs:=
 show xX P w H h a (.dK kvs)from zgB ok e
theorem pK {kvs:List (zA×V)}(ok:xC P w H h)(e:H a=some (.dK kvs)):kvs.length<=sizeLine/\(a==sysModules)=false/\∃vs,KV kvs vs/\h.DictOf (yW P w) a vs:=pL ok (.inl e)
theorem mC {ks:List zA}(ok:xC P w H h)(e:H a=some (.tup (ks.map kV))):(tupleKind (yW P w)).is h ks a:=by
 obtain⟨_,its,r,o,h1,h2,n,h3,_⟩:=(show xX P w H h a (.tup (ks.map kV))from ok a _ e);exact⟨o,its.toArray,n,h1,h2,h3,by simpa using zfl r⟩
theorem nW {kvs:List (List zA×V)}(ok:xC P w H h)(e:Rd H a (.dT kvs)):kvs.length<=sizeLine/\(a==sysModules)=false/\
  ∃xs,KT H kvs xs/\h.DictOfH (tupleKind (yW P w)) a xs:=by
 obtain⟨z,y,xs,r,o,es,ep,h1,h2,h3,h4,h5⟩:=(show xX P w H h a (.dT kvs)from zgB ok e);refine⟨z,y,xs,r,o,es,ep,h1,h2,h3,h4,λx hx=> ?_,h5⟩;have all: ∀{l:List (List zA×V)} {m:List (List zA×Addr×Value)},KT H l m->∀x∈m,(tupleKind (yW P w)).is h x.1 x.2.1:=by
  intro l m q
  induction q with
  | nil=>intro x hx;exact nomatch hx
  | @cons p q ps qs hq t ih=>
   intro x hx;rcases List.mem_cons.mp hx with e | hx
   ·subst e
    exact mC ok (by rw[<- hq.1];exact hq.2.1)
   ·exact ih x hx
 exact all r x hx
theorem zjX {kvs:List (List zA×V)}(ok:xC P w H h)(e:H a=some (.dT kvs)):kvs.length<=sizeLine/\(a==sysModules)=false/\
  ∃xs,KT H kvs xs/\h.DictOfH (tupleKind (yW P w)) a xs:=nW ok (.inl e)
end
def nH (H:Hp)(a:Addr)(y:V)(r:Option V):Prop:=
 (∃kvs k,Rd H a (.dK kvs)/\y=kV k/\r=vS kvs k)∨∃kvs k b,Rd H a (.dT kvs)/\y= .ref b/\H b=some (.tup (k.map kV))/\r=vS kvs k
def zit (H:Hp)(a:Addr)(y v:V)(H':Hp):Prop:=
 (∃kvs k,H a=some (.dK kvs)/\y=kV k/\kvs.length < sizeLine/\H'=zQ H a (.dK (wX kvs k v)))∨
 ∃kvs k b,H a=some (.dT kvs)/\y= .ref b/\H b=some (.tup (k.map kV))/\kvs.length < sizeLine/\H'=zQ H a (.dT (wX kvs k v))
section
variable {X:Cx} {pins:List (Addr×Obj)} {σ:St} {H:Hp} {s:Shared} {a:Addr} {y v:V} {u r:Value} {o:Option V} {A:Around} {E:Value->Shared->Prop}
theorem z5.big (I:z5 X pins σ H s):sysModules < s.heap.objs.size:=by
 have h:mainGlobals < s.heap.objs.size:=(I.mod.glob.keeps I.bk).lt;exact Nat.lt_trans (by decide) h
theorem zjK {Q:Value->Shared->Prop}(hu:A.units+1 < cLine)(I:z5 X pins σ H s)(g:nH H a y (some v))(ry:zU y u)(h: ∀w' s',z5 X pins σ H s'->zU v w'->Q w' s'):
  wpAny (model X.prog X.w) A (getItem (.ref a) u) Q E s:=by
 rcases g with⟨kvs,k,e,ey,l⟩ | ⟨kvs,k,b,e,ey,eb,l⟩
 ·subst ey
  obtain⟨z,hd,vs,rel,dd⟩:=pL I.hok e;obtain⟨w',hw,rw'⟩:=uM.some_of (v:=v) (o:=valueAt vs k) (by rw[l];exact rel.val k);exact wpAny_getItem_of (q5 ry) dd.mapOf hw (h w' _ (I.tok _) rw')
 ·subst ey
  cases(show u=Value.ref b from ry);obtain⟨z,hd,xs,rel,dd⟩:=nW I.hok e;obtain⟨w',hw,rw'⟩:=uM.some_of (v:=v) (o:=(atKey xs k).map (·.2)) (by rw[l];exact rel.val k);obtain⟨p,hp,hp2⟩:=Option.map_eq_some_iff.mp hw;refine wpAny_getItem_heap (tupleKind_room_in1 hu) (mC I.hok eb) dd hp ?_;rw[hp2];exact h w' _ (I.tok _) rw'
theorem zjM {Q:Value->Shared->Prop}(hu:A.units+1 < cLine)(I:z5 X pins σ H s)(g:nH H a y o)(ry:zU y u)(h: ∀s',z5 X pins σ H s'->Q (.bool (!o.isSome)) s'):
  wpAny (model X.prog X.w) A (compareOp .NotIn u (.ref a)) Q E s:=by
 rcases g with⟨kvs,k,e,ey,l⟩ | ⟨kvs,k,b,e,ey,eb,l⟩
 ·subst ey
  obtain⟨z,hd,vs,rel,dd⟩:=pL I.hok e;refine wpAny_notIn_of (q5 ry) hd dd.mapOf ?_;rw[<- (rel.val k).isSome_eq,<- l];exact h _ (I.tok _)
 ·subst ey
  cases(show u=Value.ref b from ry);obtain⟨z,hd,xs,rel,dd⟩:=nW I.hok e;refine wpAny_notIn_heap (tupleKind_room_in1 hu) (mC I.hok eb) hd dd ?_;have q:=(rel.val k).isSome_eq;rw[Option.isSome_map]at q;rw[<- q,<- l];exact h _ (I.tok _)
theorem dG {h':Heap}{t':Nat}{ob:HO}(I:z5 X pins σ H s)(mu:lO (H a))(hs:Heap.SameBut a s.heap h')(he: ∃q,h'.get? a=some q)(new:xX X.prog X.w (zQ H a ob) h' a ob):
  z5 X pins σ (zQ H a ob) {s with heap:=h',toks:=t'} :=
 I.write (x:=a) (e:=a) mu (.inl rfl) (λb q hb z=>(hs.2 b hb).trans z) he new
theorem dI {P:Program}{w:World}{H':Hp}{h':Heap}{kvs:List (zA×V)}{vs:List (zA×Value)}(z:kvs.length<=sizeLine)(hd:(a==sysModules)=false)(rel:KV kvs vs)(dd:h'.DictOf (yW P w) a vs):
  xX P w H' h' a (.dK kvs):=⟨z,hd,vs,rel,dd⟩
theorem zjN {H':Hp}{Q:Unit->Shared->Prop}(hu:A.units+1 < cLine)(I:z5 X pins σ H s)(g:zit H a y v H')(ry:zU y u)(rv:zU v r)(h: ∀s',z5 X pins σ H' s'->Q () s'):
  wpAny (model X.prog X.w) A (setItem (.ref a) u r) Q E s:=by
 rcases g with⟨kvs,k,e,ey,l,eH⟩ | ⟨kvs,k,b,e,ey,eb,l,eH⟩
 ·subst ey eH
  obtain⟨z,hd,vs,rel,dd⟩:=pK I.hok e;have hz:vs.length<=sizeLine:=by rw[<- rel.length];exact z
  have hl:(wX kvs k v).length<=sizeLine:=by have:=h9 kvs k v;omega
  refine wpAny_setItem_pairs (hsz:=hz) (q5 ry) dd λh' dd' hs=>h _ ?_;have he: ∃q,h'.get? a=some q:=let⟨q,_,_,hq,_⟩:=dd';⟨q,hq⟩;exact dG I (by rw[e];exact True.intro) hs he (dI hl hd (rel.put k rv) dd')
 ·subst ey eH
  cases(show u=Value.ref b from ry);obtain⟨z,hd,xs,rel,dd⟩:=zjX I.hok e;have hz:xs.length<=sizeLine:=by rw[<- Paired.length rel];exact z
  have hl:(wX kvs k v).length<=sizeLine:=by have:=h9 kvs k v;omega
  refine wpAny_setItem_heap (hsz:=hz) (tupleKind_room_in1 hu) (mC I.hok eb) dd λh' dd' hs=>h _ ?_;obtain⟨q,es,ep,hq,h2,h3,h4,_,h5⟩:=dd';refine dG I (by rw[e];exact True.intro) hs ⟨q,hq⟩ ⟨hl,hd,_,(rel.put k eb rv).keeps λc ys ec=> ?_,q,es,ep,hq,h2,h3,h4,h5⟩;rw[yP (zmF ec e (λz=>nomatch z))];exact ec
end
section
variable {X:Cx} {pins:List (Addr×Obj)} {σ:St} {H:Hp} {s:Shared} {a:Addr} {kvs:List (zA×V)} {k:zA} {u:Value} {A:Around} {E:Value->Shared->Prop}
theorem zjL {Q:Value->Shared->Prop}(I:z5 X pins σ H s)(e:Rd H a (.dK kvs))(h: ∀t s',z5 X pins σ H s'->Q (.int kvs.length t) s'):wpAny (model X.prog X.w) A (call (.builtin "len") [.ref a]) Q E s:=by
 obtain⟨z,hd,vs,rel,dd⟩:=pL I.hok e;refine call_len_dict hd dd (by rw[<- rel.length];rw[sizeLine_eq]at z;omega) ?_;rw[<- rel.length];exact h _ _ (I.tok _)
end
theorem zjS {X:Cx}{pins:List (Addr×Obj)}{σ:St}{H:Hp}{s:Shared}{a:Addr}{y:V}{o:Option V}(I:z5 X pins σ H s)(g:nH H a y o):s.TypeIs (.ref a) "dict" :=by
 rcases g with⟨kvs,k,e,_,_⟩ | ⟨kvs,k,b,e,_,_,_⟩
 ·obtain⟨_,_,vs,_,dd⟩:=pL I.hok e
  exact dd.typeIs
 ·obtain⟨_,_,xs,_,dd⟩:=nW I.hok e
  exact dd.typeIs
section
variable {X:Cx} {o i e value:Expr} {pos pos' tpos:Pos} {td ty tv:TE}
end
theorem zjT {P:Program}{w:World}{H:Hp}(h:Heap)(hb:sysModules < h.objs.size):xX P w H (h.push {cls:= .type "dict",data:= .dict #[]}) h.objs.size (.dK []):=
 ⟨Nat.zero_le _,beq_eq_false_iff_ne.mpr (Ne.symm (Nat.ne_of_lt hb)),[],.nil,Heap.DictOf.new h⟩
section
variable {X:Cx} {pos:Pos}
end
def fH:List (TE×TE)->St->Hp->(List (V×V)->Hp->Prop)->Prop
 | [],_,H,Q=>Q [] H
 | (tk,tv)::r,σ,H,Q=>tk σ H λx H1=>tv σ H1 λy H2=>fH r σ H2 λps H3=>Q ((x,y)::ps) H3
abbrev VV:List (V×V)->List (Value×Value)->Prop:=Paired λp q=>zU p.1 q.1/\zU p.2 q.2
def rS (X:Cx)(pos:Pos)(keys:List (Option Expr))(values:List Expr)(trs:List (TE×TE)):Prop:=
 ∀(pins:List (Addr×Obj)) (s:Shared) (σ:St) (H:Hp) (Q:List (V×V)->Hp->Prop),z5 X pins σ H s->fH trs σ H Q->
  wpAny (model X.prog X.w) X.A (evalPairs (pairTrees keys values X.env pos)) (λvs s'=> ∃ps H',z5 X pins σ H' s'/\VV ps vs/\Q ps H') X.xe s
theorem zo5 {X:Cx}{pos:Pos} :rS X pos [] [] []:=λpins s σ H Q I h=>pairTrees_nil_walk ⟨[],H,I,.nil,h⟩
theorem zo4 {X:Cx}{pos:Pos}{k v:Expr}{ks:List (Option Expr)}{vs:List Expr}{tk tv:TE}{trs:List (TE×TE)}(hk:PE X k tk)(hv:PE X v tv)(hr:rS X pos ks vs trs):
  rS X pos (some k::ks) (v::vs) ((tk,tv)::trs):=λpins s σ H Q I h=>
 pairTrees_cons_walk (y8 (hk pins s σ H _ I h) λu s1 ⟨x,H1,I1,rx,q1⟩=>y8 (hv pins s1 σ H1 _ I1 q1) λw2 s2 ⟨y,H2,I2,ry,q2⟩=>
  y8 (hr pins s2 σ H2 _ I2 q2) λws s3 ⟨ps,H3,I3,rel,q3⟩=>⟨(x,y)::ps,H3,I3,.cons ⟨rx,ry⟩ rel,q3⟩)
def rF (kvs more:List (zA×V)):List (zA×V):=more.foldl (λacc kv=>wX acc kv.1 kv.2) kvs
theorem KV.merge: ∀{more:List (zA×V)} {rs:List (zA×Value)} {kvs:List (zA×V)} {vs:List (zA×Value)},KV more rs->KV kvs vs->KV (rF kvs more) (merged vs rs):=by
 intro more rs kvs vs r;unfold KV at r
 induction r generalizing kvs vs with
 | nil=>intro q;exact q
 | @cons p q ps qs h t ih=>
  intro r0;have e:KV (wX kvs p.1 p.2) (stored vs q.1 q.2):=by
   have:=r0.put p.1 h.2;rw[<- h.1];exact this
  exact ih e
theorem h8: ∀(more kvs:List (zA×V)),(rF kvs more).length<=kvs.length+more.length
 | [],kvs=>by show kvs.length<=kvs.length+0;omega
 | p::r,kvs=>by
  have h1:=h8 r (wX kvs p.1 p.2);have h2:=h9 kvs p.1 p.2;show(rF (wX kvs p.1 p.2) r).length<=_;rw[List.length_cons];omega
theorem zdt {P:Program}{w:World} : ∀{kvs:List (zA×V)} {ws:List (Value×Value)},VV (kvs.map λkv=>(kV kv.1,kv.2)) ws->∃rs,Carries (yW P w) ws rs/\KV kvs rs
 | [],_,r=>by rw[List.map_nil]at r;cases r;exact⟨[],True.intro,.nil⟩
 | p::kvs,_,r=>by
  rw[List.map_cons]at r;cases r with
  | @cons a b as bs h t=>
   obtain⟨rs,c,q⟩:=zdt (P:=P) (w:=w) t;obtain⟨b1,b2⟩:=b;exact⟨(p.1,b2)::rs,⟨q5 h.1,rfl,c⟩,.cons ⟨rfl,h.2⟩ q⟩
def zqg (trs:List (TE×TE)):TE:=λσ H Q=> ∀p,H p=none->fH trs σ (zQ H p (.dK [])) λps H2=>H2 p=some (.dK [])/\∃kvs:List (zA×V),ps=kvs.map (λkv=>(kV kv.1,kv.2))/\kvs.length<=15/\Q (.ref p) (zQ H2 p (.dK (rF [] kvs)))
theorem znY {X:Cx}{pos:Pos}{keys:List (Option Expr)}{values:List Expr}{trs:List (TE×TE)}(h:rS X pos keys values trs)(hall:keys.all (·.isSome)=true)(hl:keys.length=values.length)(h0:keys≠ [])
  (h15:keys.length<=15):PE X (.Dict keys values pos) (zqg trs):=by
 (first | refine⟨?_⟩ | skip)
 intro pins s σ H Q I q;have hn:=I.hok.fresh (Nat.le_refl s.heap.objs.size);have I1:=I.laid (a:=s.heap.objs.size) (o:= .dK []) (h':=s.heap.push {cls:= .type "dict",data:= .dict #[]}) (t':=s.toks) (λ_ _ q=>Heap.get?_push_of_some _ q) (Nat.le_refl _) (zjT s.heap I.big);refine wpAny_Dict_walk (knd:=yW X.prog X.w) hall hl h0 h15 (y8 (h pins _ σ _ _ I1 (q _ hn)) λws s2 ⟨ps,H2,I2,rel,e,kvs,ep,lk,q2⟩=> ?_);subst ep;obtain⟨rs,c,rk⟩:=zdt (P:=X.prog) (w:=X.w) rel;obtain⟨z,hd,vs0,r0,dd⟩:=pK I2.hok e;cases r0;refine⟨rs,c,dd,λh' dd' hs=>⟨.ref s.heap.objs.size,_,?_,rfl,q2⟩⟩;have hz:(rF [] kvs).length<=sizeLine:=by
  have h1:=h8 kvs [];rw[List.length_nil]at h1;rw[sizeLine_eq];omega
 have he: ∃q,h'.get? s.heap.objs.size=some q:=let⟨q,_,_,hq,_⟩:=dd';⟨q,hq⟩;exact dG I2 (by rw[e];exact True.intro) hs he (dI hz hd (rk.merge .nil) dd')
section
variable {X:Cx} {pins:List (Addr×Obj)} {σ:St} {H:Hp} {s:Shared} {a:Addr} {y d:V} {u r:Value} {o:Option V} {A:Around} {E:Value->Shared->Prop}
theorem zjI {Q:Value->Shared->Prop}(hu:A.units+1 < cLine)(I:z5 X pins σ H s)(g:nH H a y o)(ry:zU y u)(h: ∀w' s',z5 X pins σ H s'->zU (o.getD .non) w'->Q w' s'):
  wpAny (model X.prog X.w) A (call (.builtin "dict.get") [.ref a,u]) Q E s:=by
 rcases g with⟨kvs,k,e,ey,l⟩ | ⟨kvs,k,b,e,ey,eb,l⟩
 ·subst ey
  obtain⟨z,hd,vs,rel,dd⟩:=pL I.hok e;refine call_meetsIn PySem.F.slot_dict_get dd.typeIs PySem.F.entry_dict_get (PySem.F.args_dict_get_2 _ _) (meets_dict_get (yW X.prog X.w) a (q5 ry) hd) ⟨_,dd.mapOf,h _ _ (I.tok _) ?_⟩;rw[l];exact(rel.val k).getD rfl
 ·subst ey
  cases(show u=Value.ref b from ry);obtain⟨z,hd,xs,rel,dd⟩:=nW I.hok e;refine call_meetsIn PySem.F.slot_dict_get dd.typeIs PySem.F.entry_dict_get (PySem.F.args_dict_get_2 _ _) (meetsH_dict_get (tupleKind (yW X.prog X.w)) a b hd) ⟨tupleKind_room_in1 hu,k,xs,mC I.hok eb,dd,h _ _ (I.tok _) ?_⟩;rw[l];exact(rel.val k).getD rfl
theorem zjJ {Q:Value->Shared->Prop}(hu:A.units+1 < cLine)(I:z5 X pins σ H s)(g:nH H a y o)(ry:zU y u)(rd:zU d r)(h: ∀w' s',z5 X pins σ H s'->zU (o.getD d) w'->Q w' s'):
  wpAny (model X.prog X.w) A (call (.builtin "dict.get") [.ref a,u,r]) Q E s:=by
 rcases g with⟨kvs,k,e,ey,l⟩ | ⟨kvs,k,b,e,ey,eb,l⟩
 ·subst ey
  obtain⟨z,hd,vs,rel,dd⟩:=pL I.hok e;refine call_meetsIn PySem.F.slot_dict_get dd.typeIs PySem.F.entry_dict_get (PySem.F.args_dict_get_3 _ _ _) (meets_dict_get_default (yW X.prog X.w) a (q5 ry) hd r) ⟨_,dd.mapOf,h _ _ (I.tok _) ?_⟩;rw[l];exact(rel.val k).getD rd
 ·subst ey
  cases(show u=Value.ref b from ry);obtain⟨z,hd,xs,rel,dd⟩:=nW I.hok e;refine call_meetsIn PySem.F.slot_dict_get dd.typeIs PySem.F.entry_dict_get (PySem.F.args_dict_get_3 _ _ _) (meetsH_dict_get_default (tupleKind (yW X.prog X.w)) a b hd r) ⟨tupleKind_room_in1 hu,k,xs,mC I.hok eb,dd,h _ _ (I.tok _) ?_⟩;rw[l];exact(rel.val k).getD rd
end
section
variable {X:Cx} {o e f:Expr} {apos cpos:Pos} {td ty tx:TE}
end
section
variable {X:Cx} {pins:List (Addr×Obj)} {σ:St} {H:Hp} {s:Shared} {a:Addr} {kvs:List (zA×V)} {A:Around} {E:Value->Shared->Prop}
end
section
variable {X:Cx} {pins:List (Addr×Obj)} {σ:St} {H:Hp} {s:Shared} {a:Addr} {y:V} {u:Value} {A:Around} {E:Value->Shared->Prop}
end
end L2
namespace L2
open PySem PySem.Spec PyProof.Rows
section
variable {X:Cx}
theorem zjx:xB X (.builtin "len") (λxs H Q=> ∃a kvs,xs= [V.ref a]/\H a=some (.dK kvs)/\Q (.int kvs.length) H):=by
 (first | refine⟨?_⟩ | skip)
 intro pins s σ H xs us Q I r h;obtain⟨a,kvs,rfl,ha,q⟩:=h;obtain⟨u,rfl,ru⟩:=vK r;cases ru;exact zjL I (.inl ha) λt s' I'=>⟨.int kvs.length,H,I',⟨t,rfl⟩,q⟩
end
section
variable {κ:Type} [DecidableEq κ]
end
end L2
set_option maxHeartbeats 4000000
namespace L2
open PySem PySem.Spec PyProof.Rows
theorem zaW {X:Cx}{pins:List (Addr×Obj)}{σ:St}{H:Hp}{s:Shared}{D:Addr}{o:HO}(I:z5 X pins σ H s)(hn:H D=none)(hs:X.s₀.heap.objs.size<=D)(hL:D≠X.env.locals)
  (hc: ∀x c,X.env.cells.lookup x=some c->c≠D) (hp: ∀p∈X.pn++pins,p.1≠D) (new:xX X.prog X.w (zQ H D o) s.heap D o):z5 X pins σ (zQ H D o) s:=by
 have low: ∀{b:Addr} {u:Obj},X.s₀.heap.get? b=some u->b≠D:=λe=>Nat.ne_of_lt (Nat.lt_of_lt_of_le (Heap.lt_size e) hs);refine⟨I.ok,I.os,I.bare,⟨I.base.keep,I.base.slot,λb u e n hx=> ?_,I.base.there,λb xs e=> ?_,λb u v e=> ?_,λb ps e=> ?_⟩,I.loc,I.cell,?_,λx c e=> ?_,λp hm=> ?_,λb u e=> ?_,I.len⟩
 ·rw[yP (low e)];exact I.base.free b u e n hx
 ·have q:=I.base.tups b xs e
  rw[yP (uA q hn)];exact q
 ·have q:=I.base.frzs b u v e
  rw[yP (uA q hn)];exact q
 ·obtain⟨more,q⟩:=I.base.tbls b ps e
  exact⟨more,by rw[yP (uA q hn)];exact q⟩
 ·rw[yP (Ne.symm hL)];exact I.free
 ·rw[yP (hc x c e)];exact I.freeC x c e
 ·obtain⟨e,n,r⟩:=I.pin p hm
  exact⟨e,by rw[yP (hp p hm)];exact n,r⟩
 ·by_cases hb:b=D
  ·subst hb;rw[xM]at e;cases e;exact new
  ·rw[yP hb]at e
   exact(I.hok b u e).stay (λc v _ q=>q) (λc q=>by rw[yP (uA q hn)];exact q) λc xs q=>by rw[yP (uA q hn)];exact q
theorem zkS {α β:Type}{l:List α}{f:α->β->Sem (ForInStep β)}{g:α->β->β}(h: ∀x∈l,∀b,f x b=pure (.yield (g x b)))(b:β):forIn l b f=pure (l.foldl (λb x=>g x b) b):=by
 induction l generalizing b with
 | nil=>rfl
 | cons x l ih=>
  rw[List.forIn_cons,h x List.mem_cons_self,pure_bind];exact ih (λy hy=>h y (List.mem_cons_of_mem _ hy)) _
def pJ (cells:List (Str×Addr))(p:Str×NameKind)(cs:List (Str×Addr)):List (Str×Addr):=if p.2== .free then(p.1,(cells.lookup p.1).getD 0)::cs else cs
def vG (names:List (Str×NameKind))(cells:List (Str×Addr)):List (Str×Addr):=names.foldl (λcs p=>pJ cells p cs) []
theorem d9 {scope:Scope}{env:Env}(h: ∀p∈scope.names,p.2= .free->∃c,env.cells.lookup p.1=some c):closureFor scope env=pure (vG scope.names env.cells):=by
 unfold closureFor;dsimp only;rw[zkS (g:=λp cs=>pJ env.cells p cs) (λp hp cs=> ?_)]
 ·rfl
 ·obtain⟨n,k⟩:=p
  unfold pJ;by_cases hk:k= .free
  ·obtain⟨c,e⟩:=h _ hp hk
   subst hk;simp only[cellOf,e,beq_self_eq_true,if_true,Option.getD_some]
   rfl
  ·have:(k==NameKind.free)=false:=by simpa using hk
   simp only[this,Bool.false_eq_true,if_false]
theorem zf6 {cells:List (Str×Addr)} : ∀(names:List (Str×NameKind)) (acc:List (Str×Addr)) (p:Str×Addr),p∈names.foldl (λcs q=>pJ cells q cs) acc->p∈acc∨((p.1,NameKind.free)∈names/\p.2=(cells.lookup p.1).getD 0)
 | [],acc,p,h=> .inl h
 | q::r,acc,p,h=>by
  rw[List.foldl_cons]at h;rcases zf6 r _ p h with h | ⟨h1,h2⟩
  ·unfold pJ at h
   obtain⟨n,k⟩:=q
   split at h
   ·rename_i hk
    rcases List.mem_cons.mp h with e | h
    ·refine .inr ⟨?_,by rw[e]⟩
     have hk':k= .free:=by simpa using hk
     rw[e,hk'];exact List.mem_cons_self
    ·exact .inl h
   ·exact .inl h
  ·exact .inr ⟨List.mem_cons_of_mem _ h1,h2⟩
theorem zdw {cells:List (Str×Addr)}{x:Str} : ∀(names:List (Str×NameKind)) (acc:List (Str×Addr)),((x,NameKind.free)∈names∨∃c,(x,c)∈acc)->∃c,(x,c)∈names.foldl (λcs q=>pJ cells q cs) acc
 | [],acc,h=>by
  rcases h with h | h
  ·cases h
  ·exact h
 | q::r,acc,h=>by
  rw[List.foldl_cons];refine zdw r _ ?_;rcases h with h | ⟨c,h⟩
  ·rcases List.mem_cons.mp h with e | h
   ·refine .inr ⟨(cells.lookup x).getD 0,?_⟩
    rw[<- e];show _∈(if(NameKind.free==NameKind.free)=true then _ else _);rw[if_pos (by rfl)];exact List.mem_cons_self
   ·exact .inl h
  ·refine .inr ⟨c,?_⟩
   unfold pJ
   split
   ·exact List.mem_cons_of_mem _ h
   ·exact h
theorem zf1 {β:Type}{x:Str} : ∀{l:List (Str×β)} {c:β},(x,c)∈l->∃d,l.lookup x=some d
 | [],_,h=>nomatch h
 | (y,d)::r,c,h=>by
  rw[List.lookup_cons];by_cases e:x=y
  ·subst e;exact⟨d,by simp⟩
  ·rcases List.mem_cons.mp h with q | q
   ·cases q;exact absurd rfl e
   ·obtain⟨d',q'⟩:=zf1 q
    have:(x==y)=false:=by simpa using e
    rw[this];exact⟨d',q'⟩
theorem zdx {names:List (Str×NameKind)}{cells:List (Str×Addr)}{x:Str}{c:Addr}(h:(vG names cells).lookup x=some c):(x,NameKind.free)∈names/\c=(cells.lookup x).getD 0:=by
 rcases zf6 names [] (x,c) (PySem.mem_of_lookup h)with h | h
 ·cases h
 ·exact h
theorem zdy {names:List (Str×NameKind)}{cells:List (Str×Addr)}{x:Str}(h:(x,NameKind.free)∈names):(vG names cells).lookup x=some ((cells.lookup x).getD 0):=by
 obtain⟨c,hc⟩:=zdw (cells:=cells) names [] (.inl h);obtain⟨d,hd⟩:=zf1 hc;rw[show(vG names cells).lookup x=some d from hd,(zdx hd).2]
abbrev xR (X:Cx)(scope:Scope)(Nc:List Str)(C:Addr)(s:Shared)(H:Hp)(fp:List Addr)(pins:List (Addr×Obj)):Cx:=
 {X with N:=Nc,s₀:=s,H₀:=H,env:=compEnvC scope (vG scope.names X.env.cells) C X.env,outer:=X.stack,stack:=X.stack,ex:=fp,fn:=λ_=>false,pn:=X.pn++pins,xe:=λ_ _=>False}
structure sY (X:Cx)(scope:Scope)(N' own:List Str):Prop where
 kind:scope.kind= .function
 nocell: ∀y∈scope.names,y.2≠ .cell
 names: ∀y∈scope.names,y.2= .local->scope.names.lookup y.1=some .local
 frees: ∀y∈scope.names,y.2= .free->X.env.scope.names.lookup y.1=some .cell∨X.env.scope.names.lookup y.1=some .free
 len:N'.length=X.N.length
 pre: ∀(i:Nat) (y:Str),N'[i]?=some y->X.N[i]?=some y∨(y,NameKind.free)∉scope.names
 nol: ∀y∈N',scope.names.lookup y≠some .local
theorem gQ {env:Env}{x:Str} : ∀{names:List (Str×NameKind)} {k:NameKind},
  (names.map λ(n,k)=>if(k==NameKind.free&&env.scope.kind== .function&&env.kindOf n==some .cell)then(n,NameKind.cell)else(n,k)).lookup x=some k->
  names.lookup x=some k∨(k= .cell/\names.lookup x=some .free)
 | [],k,h=>by simp at h
 | (n,j)::r,k,h=>by
  have h':List.lookup x ((if(j==NameKind.free&&env.scope.kind== .function&&env.kindOf n==some .cell)=true then(n,NameKind.cell)else(n,j))::
   r.map λ(n,k)=>if(k==NameKind.free&&env.scope.kind== .function&&env.kindOf n==some .cell)then(n,NameKind.cell)else(n,k))=some k:=h
  cases hx:x==n with
  | true=>
   by_cases hc:(j==NameKind.free&&env.scope.kind== .function&&env.kindOf n==some .cell)=true
   ·rw[if_pos hc]at h'
    simp only[List.lookup_cons,hx]at h'⊢
    simp only[Bool.and_eq_true,beq_iff_eq]at hc;cases h';exact .inr ⟨rfl,by rw[hc.1.1]⟩
   ·rw[if_neg hc]at h'
    simp only[List.lookup_cons,hx]at h'⊢
    exact .inl h'
  | false=>
   have q:(r.map λ(n,k)=>if(k==NameKind.free&&env.scope.kind== .function&&env.kindOf n==some .cell)then(n,NameKind.cell)else(n,k)).lookup x=some k:=by
    by_cases hc:(j==NameKind.free&&env.scope.kind== .function&&env.kindOf n==some .cell)=true
    ·rw[if_pos hc]at h';simpa only[List.lookup_cons,hx]using h'
    ·rw[if_neg hc]at h';simpa only[List.lookup_cons,hx]using h'
   simp only[List.lookup_cons,hx];exact gQ q
section
variable {X:Cx} {pins:List (Addr×Obj)} {σ:St} {H:Hp} {s:Shared} {scope:Scope} {N' own:List Str}
theorem sY.cells (S:sY X scope N' own)(I:z5 X pins σ H s): ∀p∈scope.names,p.2= .free->∃c,X.env.cells.lookup p.1=some c:=λp hp hk=>I.ok.has p.1 (S.frees p hp hk)
theorem rA (S:sY X scope N' own)(I:z5 X pins σ H s){x:Str}{c:Addr}(h:(vG scope.names X.env.cells).lookup x=some c):X.env.cells.lookup x=some c:=by
 obtain⟨hm,e⟩:=zdx h;obtain⟨d,hd⟩:=S.cells I _ hm rfl;rw[hd]at e;rw[hd,e]
 rfl
theorem zfg (S:sY X scope N' own)(I:z5 X pins σ H s){C D:Addr}{oD:Obj}{fp:List Addr}{h4:Heap}{tk:Nat}{m:Str->Option Value}(k: ∀b u,s.heap.get? b=some u->h4.get? b=some u)(hC:s.heap.objs.size<=C)(hD:s.heap.objs.size<=D)(hDC:D≠C)(eD:h4.get? D=some oD)(cD: ∀v,oD.data≠ .cell v)
  (ns:h4.Ns C m) (ff: ∀b∈fp,sE X pins H b) (fl: ∀b∈fp,b < s.heap.objs.size):
  z5 (xR X scope (N'++own) C s H fp pins) [(D,oD)] (σ++List.replicate own.length none) H {s with heap:=h4,toks:=tk} :=by
 have nostk: ∀{b:Addr},s.heap.objs.size<=b->b∉wM X.stack:=λ{b} hb hm=>by
  rcases List.mem_cons.mp (I.stkSub b hm)with e | hm
  ·rw[e]at hb;exact absurd (Nat.lt_of_lt_of_le I.lt hb) (Nat.lt_irrefl _)
  ·exact I.nofs hb hm
 have lk: ∀x,((compEnvC scope (vG scope.names X.env.cells) C X.env).kindOf x=some .cell∨(compEnvC scope (vG scope.names X.env.cells) C X.env).kindOf x=some .free)->(x,NameKind.free)∈scope.names:=λx hx=>by
  have q:scope.names.lookup x=some .cell∨scope.names.lookup x=some .free:=by
   rcases hx with hx | hx
   ·rcases gQ (env:=X.env) (names:=scope.names) hx with q | ⟨_,q⟩
    ·exact .inl q
    ·exact .inr q
   ·rcases gQ (env:=X.env) (names:=scope.names) hx with q | ⟨z,_⟩
    ·exact .inr q
    ·cases z
  rcases q with q | q
  ·exact absurd rfl (S.nocell _ (PySem.mem_of_lookup q))
  ·exact PySem.mem_of_lookup q
 refine⟨⟨I.ok.mod,S.kind,I.ok.glob,I.ok.blt,hC,λx y c h1 h2=> ?_,λx hx=> ?_,λx c h=> ?_,I.ok.hd,I.ok.frames,.inl rfl,λb hb=>⟨?_,λx c h=> ?_⟩,I.bs,Nat.le_trans I.ok.bsz I.sz,λb o e hb=> ?_,λb hb hm=> ?_,I.stack,I.stkFree⟩,
  rfl,I.bare,Un.kept k,⟨m,ns,λi x v e1 e2 e3=> ?_⟩,λx c h=> ?_,I.hok.fresh hC,λx c h=> ?_,λp hp=> ?_,I.hok.kept k,?_⟩
 ·exact I.ok.inj x y c (rA S I h1) (rA S I h2)
 ·exact⟨_,zdy (lk x hx)⟩
 ·cases h
 ·have:=fl b hb;intro e;rw[e]at this;exact absurd (Nat.lt_of_lt_of_le this hC) (Nat.lt_irrefl _)
 ·exact(ff b hb).2.2.2.2.1 x c (rA S I h)
 ·rcases(ff b hb).2.2.2.1 with z | z
  ·exact I.ok.noex b o e z
  ·exact absurd (Nat.lt_of_lt_of_le (Heap.lt_size e) (Nat.le_trans I.ok.bsz z)) (Nat.lt_irrefl _)
 ·rcases List.mem_cons.mp (I.stkSub b hm)with e | hm
  ·exact(ff b hb).2.1 e
  ·exact(ff b hb).2.2.1 hm
 ·-- names
  have hi:i < σ.length:=by
   by_cases hi:i < σ.length
   ·exact hi
   ·rw[List.getElem?_append_right (by omega),List.getElem?_replicate]at e2
    split at e2 <;> cases e2
  rw[List.getElem?_append_left hi]at e2;have hN:N'[i]?=some x:=by
   have e1':(N'++own)[i]?=some x:=e1;rw[List.getElem?_append_left (by rw[S.len,<- I.len];exact hi)]at e1';exact e1'
  have e3':((compEnvC scope (vG scope.names X.env.cells) C X.env).kindOf x=some .cell∨(compEnvC scope (vG scope.names X.env.cells) C X.env).kindOf x=some .free)∨(compEnvC scope (vG scope.names X.env.cells) C X.env).kindOf x=some .local:=by
   rcases e3 with z | z | z
   ·exact .inr z
   ·exact .inl (.inl z)
   ·exact .inl (.inr z)
  rcases e3' with e3' | e3'
  ·have hm:=lk x e3'
   rcases S.pre i x hN with hX | hX
   ·have fr:=S.frees _ hm rfl
    obtain⟨m0,hn0,hl0⟩:=I.loc;obtain⟨u,r,l⟩:=hl0 i x v hX e2 (by rcases fr with z | z;exact .inr (.inl z);exact .inr (.inr z));refine⟨u,r,.inr ⟨e3',?_⟩⟩;rcases l with⟨z,_⟩ | ⟨_,c,ec,⟨o,ho,hd⟩⟩
    ·rcases fr with f | f <;> (have z':X.env.scope.names.lookup x=some .local:=z;rw[f]at z';cases z')
    ·refine⟨c,?_,⟨o,k _ _ ho,hd⟩⟩
     show(vG scope.names X.env.cells).lookup x=some c;rw[zdy hm,ec]
     rfl
   ·exact absurd hm hX
  ·-- a local of the block among the outer names:hidden
   rcases gQ (env:=X.env) (names:=scope.names) e3' with q | ⟨z,_⟩
   ·exact absurd q (S.nol x (List.mem_of_getElem? hN))
   ·cases z
 ·obtain⟨v,o,ho,hd⟩:=I.cell x c (rA S I h)
  exact⟨v,o,k _ _ ho,hd⟩
 ·exact I.freeC x c (rA S I h)
 ·have hp':p∈(X.pn++pins)++ [(D,oD)]:=hp
  rcases List.mem_append.mp hp' with hp' | hp'
  ·obtain⟨e,n,ne,nf,d⟩:=I.pin p hp'
   refine⟨k _ _ e,n,Nat.ne_of_lt (Nat.lt_of_lt_of_le (Heap.lt_size e) hC),λhm=> ?_,d⟩;rcases List.mem_cons.mp (I.stkSub p.1 hm)with z | z
   ·exact ne z
   ·exact nf z
  ·have e:p=(D,oD):=by simpa using hp'
   subst e;exact⟨eD,I.hok.fresh hD,hDC,nostk hD,cD⟩
 ·show(σ++List.replicate own.length none).length=(N'++own).length
  rw[List.length_append,List.length_append,List.length_replicate,S.len,I.len]
abbrev dD (ifs:List Expr)(env:Env):Sem Bool:=forIn ifs true λc r=>if r=true then do let ok <- isTrue c env (eval c env);pure (ForInStep.yield ok)else pure (ForInStep.yield r)
theorem zd0 {prog:Program}{w:World}{A:Around}{R:Result->Shared->Prop}{s:Shared}{elt target iter:Expr}{ifs:List Expr}{scope:Scope}{pos:Pos}{it acc:Value}{env:Env}(I:Nat->Shared->Prop)
  (turn: ∀n s,I n s->wpAny (model prog w) A (pyNext it) (λr s₁=>match r with
   | none=>R (.ok .next) s₁
   | some v=>wpAny (model prog w) A (letOwnedTupleGo target it v) (λ_ s₁'=>wpAny (model prog w) A (assign target env v) (λ_ s₂=>
     wpAny (model prog w) A (dD ifs env) (λok s₃=>
      if ok=true then wpAny (model prog w) A (eval elt env) (λx s₄=>
       wpAny (model prog w) A (call (.builtin "list.append") [acc,x]) (λ_ s₅=> ∃m,m < n/\I m s₅) (notedBy (model prog w) A env λe s'=>R (.error e) s') s₄) (notedBy (model prog w) A env λe s'=>R (.error e) s') s₃
      else ∃m,m < n/\I m s₃) (notedBy (model prog w) A env λe s'=>R (.error e) s') s₂) (notedBy (model prog w) A env λe s'=>R (.error e) s') s₁') (notedBy (model prog w) A env λe s'=>R (.error e) s') s₁) (notedBy (model prog w) A env λe s'=>R (.error e) s') s)
  (n:Nat) (h:I n s):
  codeAny (model prog w) A (.compLoop (.ListComp elt [⟨target,iter,ifs,0⟩] scope pos) 0 it acc env) R s:=by
 refine codeAny_loop rfl I (λn s hI=> ?_) n h;show wpAny _ A ((compTurn (.ListComp elt [⟨target,iter,ifs,0⟩] scope pos) 0 it acc env).onRaise (λx=>do noteFrame x env;theTreesLotGoes x)) _ _ s;refine wpAny_noted ?_;rw[compTurn_list];refine wpAny_bind (wpAny_standAt (wpAny_bind (wpAny_mono (turn n s hI) (λr s₁ h₁=> ?_) λ_ _ h'=>h')));cases r with
 | none=>exact wpAny_pure h₁
 | some v=>
  refine wpAny_bind (wpAny_mono h₁ (λ_ s₁' h₁'=> ?_) λ_ _ h'=>h');refine wpAny_bind (wpAny_mono h₁' (λ_ s₂ h₂=>wpAny_bind (wpAny_mono h₂ (λok s₃ h₃=> ?_) λ_ _ h'=>h')) λ_ _ h'=>h');cases ok with
  | false=>exact wpAny_pure ⟨rfl,h₃⟩
  | true=>
   exact wpAny_bind (wpAny_bind (wpAny_mono h₃ (λx s₄ h₄=>wpAny_bind (wpAny_mono h₄ (λ_ s₅ h₅=>wpAny_pure (wpAny_pure ⟨rfl,h₅⟩)) λ_ _ h'=>h')) λ_ _ h'=>h'))
structure PF (X:Cx)(ifs:List Expr)(t:TT):Prop where
 run:
  ∀(pins:List (Addr×Obj)) (s:Shared) (σ:St) (H:Hp) (Q:Bool->Hp->Prop),z5 X pins σ H s->t σ H Q->wpAny (model X.prog X.w) X.A (dD ifs X.env) (TP X pins σ Q) X.xe s
instance {X:Cx} {ifs:List Expr} {t:TT} :CoeFun (PF X ifs t) λ_=>
 ∀(pins:List (Addr×Obj)) (s:Shared) (σ:St) (H:Hp) (Q:Bool->Hp->Prop),z5 X pins σ H s->t σ H Q->wpAny (model X.prog X.w) X.A (dD ifs X.env) (TP X pins σ Q) X.xe s
  :=⟨PF.run⟩
def zq0:TT:=λ_ H Q=>Q true H
theorem zok {X:Cx} :PF X [] zq0:=⟨λ_ _ _ H _ I h=>wpAny_tests_nil ⟨H,I,h⟩⟩
theorem zol {X:Cx}{c:Expr}{t:TT}(h:PT X c t):PF X [c] t:=⟨λpins s σ H Q I q=>wpAny_tests_one (h pins s σ H Q I q)⟩
theorem mJ {α:Type}{M:Model}{A:Around}{E:Value->Shared->Prop}{s:Shared}{t:Sem α}{Q Q':α->Shared->Prop}(h:wpAny M A t Q (λ_ _=>False) s)(k: ∀a s,Q a s->Q' a s):wpAny M A t Q' E s:=wpAny_mono h k λ_ _ z=>z.elim
def zc4 (own:Nat)(J:It)(g:TG)(tt:TT)(te:TE)(Q:VK)(σ:St)(H1:Hp):Prop:= ∃W:Nat->Nat->List V->St->Hp->Prop,(∃m,W 0 m [] (σ++List.replicate own none) H1)/\∀i m ys σ' H',W i m ys σ' H'->
 (J.stop i H'/\ys.length<=sizeLine/\∀D,H' D=none->Q (.ref D) (zQ H' D (.lst ys)))∨
 (J.go i H'/\ys.length < sizeLine/\∃N:List V->St->Hp->Prop,(∀ys σ3 H3,N ys σ3 H3->∃m',m' < m/\W (i+1) m' ys σ3 H3)/\
  ∀x H2,J.yld i H' x H2->g x σ' H2 λσ3 H3=>tt σ3 H3 λb H4=>if b=true then te σ3 H4 λy H5=>N (ys++ [y]) σ3 H5 else N ys σ3 H4)
def zcl (own:Nat)(wi:TI)(g:TG)(tt:TT)(te:TE):TE:=λσ H Q=>wi σ H λJ H1=>zc4 own J g tt te Q σ H1
theorem znX {elt target iter:Expr}{ifs:List Expr}{pos:Pos}{wi:TI}{g:TG}{tt:TT}{te:TE}(S:sY X scope N' own)(hc:X.calm=true)(hi:PI X target iter wi)
  (hg: ∀C s H fp pins,PG (xR X scope (N'++own) C s H fp pins) target g) (ht: ∀C s H fp pins,PF (xR X scope (N'++own) C s H fp pins) ifs tt) (he: ∀C s H fp pins,PE (xR X scope (N'++own) C s H fp pins) elt te)
  (hs: ∀x,foldedSetIterable iter X.env x=pure x:=by intro _;rfl):
  PE X (.ListComp elt [⟨target,iter,ifs,0⟩] scope pos) (zcl own.length wi g tt te):=by
 (first | refine⟨?_⟩ | skip)
 intro pins s σ H Q I h;rw[eval_ListComp];refine wpAny_comprehension_free (use:=none) rfl hs (d9 (S.cells I)) S.kind S.names ?_;refine y8 (hi pins s σ H _ I h) λv s1 h1=>y8 h1 λitv s2 h2=> ?_;obtain⟨it,fp,tn,J,H2,e,I2,T,st2,f2,W,⟨m0,w0⟩,turn⟩:=h2;subst e;have fl: ∀b∈fp,b < s2.heap.objs.size:=λb hb=>by obtain⟨o,e,_⟩:=T.obj _ _ st2 b hb;exact Heap.lt_size e
 refine wpAny_newObj_type (wpAny_newFunctionEnv S.nocell (by intro y hy;simp at hy) (λh4 ns4 sb4=> ?_) S.kind);dsimp only at ns4 sb4⊢
 generalize hH3:s2.heap.push {cls:= .type "list",dict:=none,data:= .seq ([]:List Value).toArray} =h3 at ns4 sb4⊢
 have hC:h3.objs.size=s2.heap.objs.size+1:=by rw[<- hH3,Heap.size_push]
 have hDC:s2.heap.objs.size≠h3.objs.size:=by rw[hC];exact Nat.ne_of_lt (Nat.lt_succ_self _)
 have hCle:s2.heap.objs.size<=h3.objs.size:=by rw[hC];exact Nat.le_succ _
 have eD3:h3.get? s2.heap.objs.size=some {cls:= .type "list",data:= .seq ([]:List Value).toArray} :=hH3▸Heap.get?_push_size _ rfl;have k4: ∀b u,s2.heap.get? b=some u->h4.get? b=some u:=λb u e=>
  (sb4.2 b (Nat.ne_of_lt (Nat.lt_of_lt_of_le (Heap.lt_size e) hCle))).trans (Heap.get?_push_of_some _ (hH3▸Heap.get?_push_of_some _ e))
 have eD4:h4.get? s2.heap.objs.size=some {cls:= .type "list",data:= .seq ([]:List Value).toArray} :=(sb4.2 _ hDC).trans (Heap.get?_push_of_some _ eD3);generalize hDd:s2.heap.objs.size=D at *;generalize hCd:h3.objs.size=C at *;have I4:=zfg S I2 (C:=C) (D:=D) (fp:=fp) (h4:=h4) (tk:=s2.toks+([]:List (Str×Value)).length) k4 (by rw[hDd];exact hCle) (by rw[hDd];exact Nat.le_refl _) hDC eD4 (by intro v z;cases z) ns4 f2 (by rw[hDd];exact fl);have lowC: ∀(b:Addr) (u:Obj),s2.heap.get? b=some u->b≠C:=λb u e=>Nat.ne_of_lt (Nat.lt_of_lt_of_le (Heap.lt_size e) (by rw[hDd];exact hCle));have nofp: ∀b∈fp,b∉wM X.stack:=λb hb hm=>by
  rcases List.mem_cons.mp (I2.stkSub b hm)with z | z
  ·exact(f2 b hb).2.1 z
  ·exact(f2 b hb).2.2.1 z
 have fpD: ∀b∈fp,b≠D:=λb hb=>Nat.ne_of_lt (fl b hb);have stat: ∀{H':Hp} {o:Obj},(∀b∈fp,H' b=none)->∀b∈fp,sE (xR X scope (N'++own) C s2 H2 fp pins) [(D,o)] H' b:=λ{H' o} hn b hb=>
  ⟨hn b hb,Nat.ne_of_lt (Nat.lt_of_lt_of_le (fl b hb) hCle),nofp b hb,.inl hb,λx c e=>(f2 b hb).2.2.2.2.1 x c (rA S I2 e),λp hp=>by
   have hp':p∈(X.pn++pins)++ [(D,o)]:=hp;rcases List.mem_append.mp hp' with z | z
   ·exact(f2 b hb).2.2.2.2.2 p z
   ·have e:p=(D,o):=by simpa using z
    rw[e];exact Ne.symm (fpD b hb)⟩
 have loop: ∀s3:Shared,z5 (xR X scope (N'++own) C s2 H2 fp pins) [(D,{cls:= .type "list",data:= .seq ([]:List Value).toArray})] (σ++List.replicate own.length none) H2 s3->tn 0 s3.heap->
   codeAny (model X.prog X.w) X.A (.compLoop (.ListComp elt [⟨target,iter,ifs,0⟩] scope pos) 0 (.ref it) (.ref D) (compEnvC scope (vG scope.names X.env.cells) C X.env))
    (compPost (model X.prog X.w) X.A X.xe none (EP X pins σ Q) (.ref D) C) s3:=by
  intro s3 I3 st3;refine zd0 (λn s'=> ∃(i:Nat) (ys:List V) (σ':St) (H':Hp) (vals:List Value) (cnt:Nat),z5 (xR X scope (N'++own) C s2 H2 fp pins) [(D,{cls:= .type "list",data:= .seq vals.toArray cnt})] σ' H' s'/\
   tn i s'.heap/\(∀b∈fp,H' b=none)/\zR ys vals/\W i n ys σ' H') ?_ m0 ⟨0,[],_,H2,[],0,I3,st3,λb hb=>(f2 b hb).1,.nil,w0⟩
  rintro n s3 ⟨i,ys,σ3,H3,vals,cnt,I3,st3,fr3,rv,w3⟩;rcases turn i n ys σ3 H3 w3 with⟨stop,hz,q⟩ | ⟨go,hz,N,hN,step⟩
  ·refine y8 (T.done (xR X scope (N'++own) C s2 H2 fp pins) rfl rfl rfl hc i _ s3 σ3 H3 _ I3 (stat fr3) st3 stop) λr s4 ⟨hr,I4⟩=> ?_
   subst hr;obtain⟨m,ns,_⟩:=id I4.loc;refine⟨m,ns,λh' sb=> ?_⟩;have u4:Un (wM X.stack) fp H2 H3 s2.heap s4.heap:=I4.base;have nC:H3 C=none:=I4.free;have keepC: ∀(b:Addr) (u:Obj),b≠C->s4.heap.get? b=some u->h'.get? b=some u:=λb u hb e=>(sb.2 b hb).trans e;have u':Un (wM X.stack) fp H2 H3 s2.heap h':=
    ⟨λb o e n hb hx=>keepC b o (lowC b o e) (u4.keep b o e n hb hx),λb o e n hb hx=>let⟨sl,q⟩:=u4.slot b o e n hb hx;⟨sl,keepC _ _ (lowC b o e) q⟩,u4.free,λb o e hx=>let⟨o',q⟩:=u4.there b o e hx;⟨o',keepC _ _ (lowC b o e) q⟩,u4.tups,u4.frzs,u4.tbls⟩
   have hok':xC X.prog X.w H3 h':=λb u e=>(I4.hok b u e).stay (λc v hc' q=>keepC c v (by
    rintro rfl;rcases hc' with z | z
    ·rw[<- z,nC]at e;cases e
    ·rw[nC]at z;cases z) q) (λ_ q=>q) λ_ _ q=>q
   have I5:z5 X pins σ H3 {s4 with heap:=h'} :=I2.call' (ch:=fp) (s':= {s4 with heap:=h'}) I4.os u' hok' I4.bare λb hb=>⟨(f2 b hb).2.2.2.1,(f2 b hb).2.1,(f2 b hb).2.2.2.2.1,(f2 b hb).2.2.2.2.2⟩;obtain⟨eD,nD,_⟩:=I4.pin (D,_) (List.mem_append_right _ List.mem_cons_self);refine⟨.ref D,zQ H3 D (.lst ys),zaW I5 nD (by rw[<- hDd];exact I2.sz) ?_ ?_ ?_ ⟨hz,vals,cnt,rv,keepC D _ hDC eD⟩,rfl,q D nD⟩
   ·have:=I2.lt;rw[hDd]at this;exact Nat.ne_of_gt this
   ·intro x c e z
    obtain⟨v,o,ho,_⟩:=I2.cell x c e;have:=Heap.lt_size ho;rw[hDd,z]at this;exact Nat.lt_irrefl _ this
   ·intro p hp z
    have:=Heap.lt_size (I2.pin p hp).1;rw[hDd,z]at this;exact Nat.lt_irrefl _ this
  ·refine y8 (T.item (xR X scope (N'++own) C s2 H2 fp pins) rfl rfl rfl hc i _ s3 σ3 H3 _ I3 (stat fr3) st3 go) λr s4 ⟨u,hr,h4⟩=> ?_
   subst hr;refine y8 h4 λ_ s5 ⟨x,H5,I5,r5,y5,st5,fr5⟩=> ?_;have I5':=I5.pinned (stat fr5) (T.obj _ _ st5);have keepT: ∀{σ7:St} {H7:Hp} {s7:Shared} {pl:List (Addr×Obj)},z5 (xR X scope (N'++own) C s2 H2 fp pins) (pl++sV fp s5.heap) σ7 H7 s7->tn (i+1) s7.heap/\∀b∈fp,H7 b=none:=λ{σ7 H7 s7 pl} I7=>
    ⟨T.keep _ _ _ st5 λb hb o e=>(I7.pin (b,o) (List.mem_append_right _ (List.mem_append_right _ (mH hb e)))).1,λb hb=>by
     obtain⟨o,e,d⟩:=T.obj _ _ st5 b hb;exact(I7.pin (b,o) (List.mem_append_right _ (List.mem_append_right _ (mH hb e)))).2.1⟩
   refine mJ (hg C s2 H2 fp pins _ s5 σ3 H5 x u _ I5' r5 (step x H5 y5)) λ_ s6 ⟨σ6,H6,I6,q6⟩=> ?_;refine mJ (ht C s2 H2 fp pins _ s6 σ6 H6 _ I6 q6) λb s7 ⟨H7,I7,q7⟩=> ?_;cases b with
   | false=>
    obtain⟨m',hm,w7⟩:=hN _ _ _ q7;obtain⟨t7,fr7⟩:=keepT I7;exact⟨m',hm,i+1,ys,σ6,H7,vals,cnt,I7.unpinned,t7,fr7,rv,w7⟩
   | true=>
    refine mJ (he C s2 H2 fp pins _ s7 σ6 H7 _ I7 q7) λy s8 ⟨yv,H8,I8,r8,q8⟩=> ?_;obtain⟨m',hm,w8⟩:=hN _ _ _ q8;obtain⟨eD,nD,neD,nfD,cD⟩:=I8.pin (D,_) (List.mem_append_right _ (List.mem_append_left _ List.mem_cons_self));have hvl:=rv.length;refine call_meets F.slot_list_append ⟨_,eD,rfl⟩ F.entry_list_append (F.args_list_append_2 _ _) (PySem.list_append D vals.toArray cnt y (by rw[List.size_toArray];omega)) ⟨eD,?_⟩;have I8':z5 (xR X scope (N'++own) C s2 H2 fp pins) (sV fp s5.heap) σ6 H8 s8:=I8.pins_of λp hp=>I8.pin p (List.mem_append_right _ (List.mem_append_right _ hp));have hno: ∀p∈(X.pn++pins)++sV fp s5.heap,p.1≠D:=λp hp=>by
     rcases List.mem_append.mp hp with z | z
     ·intro q
      have:=Heap.lt_size (I2.pin p z).1;rw[hDd,q]at this;exact Nat.lt_irrefl _ this
     ·exact fpD _ (zbq z).1
    have I9:=I8'.turned (t':=s8.toks) (it:=D) (h':=s8.heap.update D (Obj.mapSeq λx=>x.push y)) (λb o hb e=>(Heap.get?_update_other s8.heap _ (Ne.symm hb)).trans e) nD neD (.inr (by show s2.heap.objs.size<=D;rw[hDd];exact Nat.le_refl _))
     (λx c e z=>by
      obtain⟨v,o,ho,_⟩:=I2.cell x c (rA S I2 e);have:=Heap.lt_size ho;rw[hDd,z]at this;exact Nat.lt_irrefl _ this) hno
    obtain⟨t9,fr9⟩:=keepT (pl:= []) I9;have qD: ∃n',(s8.heap.update D (Obj.mapSeq λx=>x.push y)).get? D=some {cls:= .type "list",data:= .seq (vals++ [y]).toArray n'} :=by
     have q:=PySem.IsL.update (l:=D) (items:=vals.toArray) (n:=cnt) (h:=s8.heap) eD λx=>x.push y;have e:vals.toArray.push y=(vals++ [y]).toArray:=by simp
     rw[<- e];exact⟨_,q⟩
    obtain⟨n',qD⟩:=qD;refine⟨m',hm,i+1,ys++ [yv],σ6,H8,vals++ [y],n',I9.pins_of λp hp=> ?_,t9,fr9,rv.append (.cons r8 .nil),w8⟩;have e:=List.mem_singleton.mp hp;rw[e];exact⟨qD,nD,neD,nfD,by intro v z;cases z⟩
 have t4:tn 0 h4:=T.keep _ _ _ st2 λb _ o e=>k4 b o e;exact codeAny_compStart_list (loop _ I4 t4) (T.self _ 0 _ _ _ t4 (loop _ I4 t4))
end
end L2
namespace L2
open PySem PySem.Spec PyProof.Rows
def i4 (x:Str):It:=⟨λi _=>i < x.cps.size,λi H v H'=>H'=H/\∃c,x.cps[i]?=some c/\v= .str ⟨#[c]⟩,λi _=>i=x.cps.size⟩
theorem zhG {P:Program}{w:World}{K:Frag}{tg:Expr}{n:String}(it:Addr)(x:Str)(t:Tok)(hn: ["enumerate","zip","dict_itemiterator","dict_reverseitemiterator","odict_iterator","itertools.zip_longest","itertools.pairwise"].contains n=false)
  (W: ∀A:Around,A.handled=none->Walks P w A it [it] [it] x.cps.size (SignAt x) (λi h=>h.IsStrIter it n x t i))
  (hself: ∀(A:Around) (i:Nat) (s:Shared) (Q:Value->Shared->Prop) (E:Value->Shared->Prop),s.heap.IsStrIter it n x t i->Q (.ref it) s->wpAny (model P w) A (pyIter (.ref it)) Q E s):
  pF P w K tg (i4 x) [it] it (λi h=>h.IsStrIter it n x t i) where
 mem:=by simp
 obj:=λi h st b hb=>by
  have e:b=it:=by simpa using hb
  subst e;obtain⟨o,e,c,d⟩:=st;exact⟨o,e,λv z=>by rw[d]at z;cases z⟩
 keep:=λi h h' st k=>by
  obtain⟨o,e,r⟩:=st;exact⟨o,k it (by simp) o e,r⟩
 item:=by
  intro X hP hw hK hc i pins s σ H E I hf st hg;subst hP hw hK;obtain⟨f0,f1,f2,f3,f4,f5⟩:=hf it (by simp);refine(W X.A (I.ok.hd hc)).item i s _ _ hg st λv h' tk hv st' kk=> ?_;obtain⟨c,u,ec,rfl⟩:=hv;have I1:z5 X pins σ H {s with heap:=h',toks:=tk} :=I.turned (λb o hb e=>kk b o (by simpa using hb) e) f0 f1 f3 f4 f5;obtain⟨o,e,c',d⟩:=id st';exact⟨_,rfl,h6 (s:= {s with heap:=h',toks:=tk}) e c' d hn ⟨.str ⟨#[c]⟩,H,I1,⟨u,rfl⟩,⟨rfl,c,ec,rfl⟩,st',λb hb=>(hf b hb).1⟩⟩
 done:=by
  intro X hP hw hK hc i pins s σ H E I hf st hg;subst hP hw hK;obtain⟨f0,f1,f2,f3,f4,f5⟩:=hf it (by simp);have hg':i=x.cps.size:=hg;subst hg';exact(W X.A (I.ok.hd hc)).done s _ _ st λh' tk kk=>⟨rfl,I.turned (λb o hb e=>kk b o (by simpa using hb) e) f0 f1 f3 f4 f5⟩
 self:=hself
section
variable {X:Cx} {tg:Expr}
theorem zdm {bs:List Bool} : ∀{us:List Value},zR (bs.map V.bl) us->LSm.BoolsAre us bs:=by
 induction bs with
 | nil=>intro us r;rw[List.map_nil]at r;cases r;exact .nil
 | cons n ns ih=>
  intro us r;rw[List.map_cons]at r;cases r with
  | cons r1 r2=>
   have e:_=Value.bool n:=r1;subst e;exact .cons n (ih r2)
theorem zh5 {bs:List Str} : ∀{us:List Value},zR (bs.map V.str) us->StrsAre us bs:=by
 induction bs with
 | nil=>intro us r;rw[List.map_nil]at r;cases r;exact .nil
 | cons n ns ih=>
  intro us r;rw[List.map_cons]at r;cases r with
  | cons r1 r2=>
   obtain⟨t,e⟩:=r1;subst e;exact .cons n t (ih r2)
theorem zjs (hc:X.calm=true):xB X (.builtin "all") (λxs H Q=> ∃(l:Addr) (bs:List Bool),xs= [.ref l]/\x5 X.K H l (bs.map V.bl)/\Q (.bl (bs.all id)) H):=by
 (first | refine⟨?_⟩ | skip)
 intro pins s σ H xs us Q I r h;obtain⟨l,bs,rfl,hl,q⟩:=h;obtain⟨u,rfl,ru⟩:=vK r;cases ru;obtain⟨its,rv,p,_⟩:=I.list hl;have hlt:l < s.heap.objs.size:=p.lt;refine call_all_walk (wpAny_pyIter_list p.isList ?_);refine⟨s.heap.objs.size,[s.heap.objs.size,l],[s.heap.objs.size],its.toArray.size,_,_,λi=>(bs[i]?).getD true,rfl,Walks.list (A:=X.A.in1) (I.ok.hd hc) _ l (Nat.ne_of_lt hlt) its.toArray,
  ⟨⟨_,Heap.get?_push_size _ rfl,rfl,rfl⟩,p.isList.push _⟩,λi v s' Q' E' hP hQ=> ?_,λh' tk hk=> ?_⟩
 ·obtain⟨b,e,rfl⟩:=(zdm rv).get i v (by simpa using hP)
  simp only[e,Option.getD_some]at hQ;exact wpAny_truthy_bool hQ
 ·have e:((List.range its.toArray.size).all λi=>(bs[i]?).getD true)=bs.all id:=by
   rw[List.size_toArray,(zdm rv).length];exact LSm.range_all bs
  rw[e];exact⟨.bl (bs.all id),H,I.kept (LSm.kept_iter hk),rfl,q⟩
def zpi (K:Frag):V->List V->Hp->VK->Prop:=λx vs H Q=> ∃(sep:Str) (l:Addr) (ys:List Str),x= .str sep/\vs= [.ref l]/\x5 K H l (ys.map V.str)/\(ys.map (·.length)).sum+ys.length * sep.length<=16777216/\Q (.str (Txt.join sep ys)) H
theorem zm3:tI X "str.join" (zpi X.K):=by
 (first | refine⟨?_⟩ | skip)
 intro pins s σ H x xs v us Q I rx rv h;obtain⟨sep,l,ys,rfl,rfl,hl,hz,q⟩:=h;obtain⟨t,rfl⟩:=rx;obtain⟨u,rfl,ru⟩:=zR.one rv;cases ru;obtain⟨its,r,p,_⟩:=I.list hl;exact join_list p.isList (by simpa using zh5 r) hz λt' k=>⟨.str (Txt.join sep ys),H,I.tok _,⟨t',rfl⟩,q⟩
theorem zl7 (sep:Str)(ys:List Str):(Txt.join sep ys).length<=(ys.map (·.length)).sum+ys.length * sep.length:=by
 show(Builtin.Str.glued sep ys).length<=_;rw[StrLaws.glued_eq_join];exact StrLaws.join_length_le sep ys
def zpq:V->Option Int->Option Int->Hp->VK->Prop:=λx lo hi H Q=> ∃z,x= .str z/\z.length<=sizeLine/\((Txt.slice z lo hi).length<=z.length->Q (.str (Txt.slice z lo hi)) H)
theorem zpU:nO X zpq:=by
 (first | refine⟨?_⟩ | skip)
 intro pins s σ H x v vl vu lo hi sl Q I rx hs pl pu h;obtain⟨z,rfl,hz,q⟩:=h;obtain⟨t,rfl⟩:=rx;obtain⟨o,e,c,d⟩:=hs;have fin: ∀t' k,EP X pins σ Q (.str (Txt.slice z lo hi) t') {s with toks:=k} :=λt' k=>⟨.str (Txt.slice z lo hi),H,I.tok k,⟨t',rfl⟩,q (Txt.slice_le z _ _)⟩;refine⟨"str",_,F.slot_str_getitem.lookup,typeIs_str _ _ _,?_⟩;cases pl with
 | none=>
  cases pu with
  | none=>exact wpAny_getItem_str_slice (l:=none) (u:=none) (st:=none) ⟨o,e,c,d⟩ rfl (post_val_or_str ⟨Nat.le_trans (Txt.slice_le z _ _) hz,fin⟩)
  | int j uj=>exact wpAny_getItem_str_slice (l:=none) (u:=some (j,uj)) (st:=none) ⟨o,e,c,d⟩ rfl (post_val_or_str ⟨Nat.le_trans (Txt.slice_le z _ _) hz,fin⟩)
 | int i ui=>
  cases pu with
  | none=>exact wpAny_getItem_str_slice (l:=some (i,ui)) (u:=none) (st:=none) ⟨o,e,c,d⟩ rfl (post_val_or_str ⟨Nat.le_trans (Txt.slice_le z _ _) hz,fin⟩)
  | int j uj=>exact wpAny_getItem_str_slice (l:=some (i,ui)) (u:=some (j,uj)) (st:=none) ⟨o,e,c,d⟩ rfl (post_val_or_str ⟨Nat.le_trans (Txt.slice_le z _ _) hz,fin⟩)
end
end L2
namespace L2
open PySem PySem.Spec PyProof.Rows
def zdv (fsc scope:Scope)(N N':List Str):Bool:=
 scope.kind== .function&&scope.names.all (λy=>y.2 != .cell&&(y.2 != .local||scope.names.lookup y.1==some .local)&&(y.2 != .free||(fsc.names.lookup y.1==some .cell||fsc.names.lookup y.1==some .free)))
  &&N'.length==N.length&&(N'.zip N).all (λp=>p.1==p.2|| !(scope.names.any λq=>q.1==p.1&&q.2== .free))&&N'.all (λy=>scope.names.lookup y !=some .local)
theorem vM {X:Cx}{scope fsc:Scope}{N N' own:List Str}(hX:X.env.scope=fsc)(hN:X.N=N)(h:zdv fsc scope N N'=true):sY X scope N' own:=by
 unfold zdv at h;simp only[Bool.and_eq_true,List.all_eq_true,beq_iff_eq,bne_iff_ne,Bool.or_eq_true,ne_eq]at h;obtain⟨⟨⟨⟨h1,h2⟩,h3⟩,h4⟩,h5⟩:=h;subst hX hN;refine⟨h1,λy hy=>(h2 y hy).1.1,λy hy e=> ?_,λy hy e=> ?_,h3,λi y e=> ?_,λy hy=>h5 y hy⟩
 ·rcases(h2 y hy).1.2 with z | z
  ·exact absurd e z
  ·exact z
 ·rcases(h2 y hy).2 with z | z
  ·exact absurd e z
  ·exact z
 ·have hi:i < N'.length:=(List.getElem?_eq_some_iff.mp e).1
  have e2:X.N[i]?=some X.N[i]:=List.getElem?_eq_getElem (by omega);have m:(y,X.N[i])∈N'.zip X.N:=by
   refine List.mem_iff_getElem?.mpr ⟨i,?_⟩;rw[List.getElem?_zip_eq_some];exact⟨e,e2⟩
  rcases h4 _ m with z | z
  ·left
   rw[e2];have z':y=X.N[i]:=z;rw[<- z']
  ·right
   intro q;have z':(!(scope.names.any λq=>q.1==y&&q.2== .free))=true:=z;rw[Bool.not_eq_true',List.any_eq_false]at z';exact z' _ q (by simp)
def lF (p:Addr)(H H':Hp):Prop:= ∀b o,H b=some o->b≠p->H' b=some o
theorem wK.but {p:Addr}{H H':Hp}(a:wK H H'):lF p H H':=λb o h _=>a b o h
theorem zqI {H:Hp}{p:Addr}{o:HO}(h:H p=none):wK H (zQ H p o):=λb o' q=>by rw[yP (uA q h)];exact q
theorem zcX {α:Type}(xs:List α){d:Int}(h0:0<=d)(h1:d < xs.length): ∃y,y∈xs/\atI xs d=some y:=by
 have hn:d.toNat < xs.length:=by omega
 refine⟨xs[d.toNat],List.getElem_mem hn,?_⟩;unfold atI wD;rw[if_pos h0,if_pos h1];exact List.getElem?_eq_getElem hn
end L2
namespace L2
open PySem PySem.Spec PyProof.Rows
section
variable {X:Cx}
end
section
variable {prog:Program} {w:World} {A:Around} {J:Addr} {fp wr:List Addr} {n:Nat} {P:Nat->Value->Prop} {Sn:Nat->Heap->Prop}
end
end L2
namespace L2
open PySem PySem.Spec PyProof.Rows
section
variable {prog:Program} {w:World} {A:Around} {E:Value->Shared->Prop} {s:Shared}
end
section
variable {X:Cx} {e e2:Expr} {t:TA} {tk:TA} {p pos kpos:Pos}
end
end L2
namespace L2
open PySem PySem.Spec PyProof.Rows
theorem zjR:typeLookup (.type "dict") "__len__" =pure (some (.builtin "dict.__len__")):=by rw[typeLookup_type,builtinLookup_eq_fast];kernel_rfl
section
variable {prog:Program} {w:World} {A:Around} {E:Value->Shared->Prop} {s:Shared}
theorem zjG {d:Addr}{kvs:List (zA×Value)}{Q:List Value->Shared->Prop}(hh:A.handled=none)(hd:(d==sysModules)=false)(hm:s.heap.DictOf (yW prog w) d kvs)(hn:kvs.length<=sizeLine)
  (hQ: ∀s' acc,(∀b o,s.heap.get? b=some o->s'.heap.get? b=some o)->s'.gens=s.gens->s'.drawn=s.drawn->s'.os=s.os->ItemsOf (λi v=> ∃k x,kvs[i]?=some (k,x)/\(yW prog w).is k v=true) acc kvs.length->Q acc.toList s'):
  wpAny (model prog w) A (collect (.ref d)) Q E s:=by
 have hdl:d < s.heap.objs.size:=by obtain⟨o,es,ep,ho,_⟩:=id hm;exact Heap.lt_size ho
 unfold collect;refine wpAny_bind (wpAny_runValue (codeAny_builtin F.entry_proto_collect ?_));rw[Around.under_plainId F.plain_proto_collect _];show wpAny _ A.in1 (newList [] >>= λl=>again (.builtin "list.__iadd__" ⟨[l,.ref d],[]⟩)) _ _ s;refine wpAny_bind (wpAny_newObj_type ?_);refine wpAny_pure ⟨plainId_quiet F.plain_list_iadd _,codeAny_builtin F.entry_list_iadd ?_⟩;rw[Around.under_plainId F.plain_list_iadd _];show wpAny _ A.in1 (Builtin.List.listExtendWith (.ref s.heap.objs.size) (.ref d) (.ref s.heap.objs.size)) _ _ _;generalize hH:s.heap.push {cls:= .type "list",data:= .seq ([]:List Value).toArray} =H;have hHs:H.objs.size=s.heap.objs.size+1:=by rw[<- hH,Heap.size_push]
 have kH: ∀b o,s.heap.get? b=some o->H.get? b=some o:=λb o e=>hH▸Heap.get?_push_of_some _ e;have hm1:H.DictOf (yW prog w) d kvs:=hm.at λo e=>kH d o e;obtain⟨ep,at1⟩:=hm1.dictAt;have hS:H.get? s.heap.objs.size=some {cls:= .type "list",data:= .seq ([]:List Value).toArray} :=hH▸Heap.get?_push_size _ rfl;unfold Builtin.List.listExtendWith;have hT:Shared.TypeIs {s with heap:=H} (.ref d) "dict" :=Heap.DictOf.typeIs (s:= {s with heap:=H}) hm1;refine wpAny_bind (wpAny_typeOf hT ?_);have h1:Builtin.List.listSameRef (.ref s.heap.objs.size) (.ref d)=false:=by
  have:s.heap.objs.size≠d:=Nat.ne_of_gt hdl;simp[Builtin.List.listSameRef,this]
 have h2:(Value.type "dict" ==Value.type "list")=false:=by decide
 have h3:(Value.type "dict" ==Value.type "tuple")=false:=by decide
 simp only[h1,h2,h3,Bool.or_false,Bool.false_eq_true,if_false];refine wpAny_bind (wpAny_pyIter_dict (s:= {s with heap:=H}) hd at1 ?_);refine wpAny_bind (wpAny_holding ?_);unfold Builtin.List.listLengthHint;have hT2:Shared.TypeIs {s with heap:=H.push {cls:= .type "dict_keyiterator",data:= .fields #[.ref d,.int 0 0,.int kvs.length 0,.int ep 0]}} (.ref d) "dict" :=by
  obtain⟨o,ho,hc⟩:=hT;exact⟨o,Heap.get?_push_of_some _ ho,hc⟩
 refine wpAny_bind (wpAny_specialOf hT2 zjR ?_)
 wp_delta
 refine wpAny_bind (wpAny_isInstance (b:=true) hT2 (by rw[isSubtype_type];kernel_rfl) ?_);show wpAny _ A.in1 (typeOf (Value.ref d) >>= _) _ _ _;refine wpAny_bind (wpAny_typeOf hT2 ?_);refine wpAny_pure ?_;rw[if_pos (by decide)];refine wpAny_bind (wpAny_rule ?_);generalize hG:H.push {cls:= .type "dict_keyiterator",data:= .fields #[.ref d,.int 0 0,.int kvs.length 0,.int ep 0]} =G at hT2⊢
 have hI:G.get? H.objs.size=some {cls:= .type "dict_keyiterator",data:= .fields #[.ref d,.int 0 0,.int kvs.length 0,.int ep 0]} :=hG▸Heap.get?_push_size _ rfl;have kG: ∀b o,H.get? b=some o->G.get? b=some o:=λb o e=>hG▸Heap.get?_push_of_some _ e;have hS2:=kG _ _ hS;refine wpAny_bind ?_;show wpAny _ A.in1 (updateSeq s.heap.objs.size (·.push .none) >>= λ_=>updateSeq s.heap.objs.size (·.pop)) _ _ {s with heap:=G};refine wpAny_bind (wpAny_updateSeq (s:= {s with heap:=G}) hS2 rfl ?_);have hS3:=Heap.get?_update_self (Obj.mapSeq (·.push .none)) hS2 rfl;refine(wpAny_updateSeq (s:= {s with heap:=G.update s.heap.objs.size (Obj.mapSeq (·.push .none))}) hS3 rfl ?_);have hS4:=Heap.get?_update_self (Obj.mapSeq (·.pop)) hS3 rfl;generalize hG2:(G.update s.heap.objs.size (Obj.mapSeq (·.push .none))).update s.heap.objs.size (Obj.mapSeq (·.pop))=G2 at hS4⊢
 have kG2: ∀b o,b≠s.heap.objs.size->G.get? b=some o->G2.get? b=some o:=λb o hb e=>by
  rw[<- hG2];exact(Heap.get?_update_other _ _ (Ne.symm hb)).trans ((Heap.get?_update_other _ _ (Ne.symm hb)).trans e)
 have nI:H.objs.size≠s.heap.objs.size:=by rw[hHs];exact Nat.succ_ne_self _
 have nd:d≠s.heap.objs.size:=Nat.ne_of_lt hdl;have ndI:d≠H.objs.size:=by rw[hHs];exact Nat.ne_of_lt (Nat.lt_succ_of_lt hdl)
 have W:=Walks.dictKeys (knd:=yW prog w) (A:=A.in1) hh H.objs.size d ndI kvs ep;have st0:G2.IsKeyIter H.objs.size d 0 kvs.length ep/\G2.DictAt (yW prog w) d kvs ep:=⟨⟨_,kG2 _ _ nI hI,rfl,rfl⟩,at1.at' λo e=>kG2 d o nd (kG d o e)⟩;have hSf:s.heap.objs.size∉ [H.objs.size,d]:=by
  intro z;rcases List.mem_cons.mp z with z | z
  ·exact nI z.symm
  ·exact nd (List.mem_singleton.mp z).symm
 refine wpAny_pure ⟨plainId_quiet F.plain_extend_loop _,codeAny_extend_loopS W.toS hn _ hSf _ kvs.length 0 {s with heap:=G2} #[] _ rfl (Nat.zero_le _) st0 hS4 (ItemsOf.nil _) λs' acc' c' hm' hS' hacc=> ?_⟩;show wpAny _ A (load s.heap.objs.size >>= _) _ _ s';refine wpAny_bind (wpAny_load hS' ?_);refine wpAny_pure (hQ s' acc' (λb ob e=>hm'.heap b ob (λhb=> ?_) (kG2 b ob (Nat.ne_of_lt (Heap.lt_size e)) (kG b ob (kH b ob e)))) hm'.gens hm'.drawn hm'.os hacc);have hlt:=Heap.lt_size e;rcases List.mem_cons.mp hb with h | h
 ·exact absurd hlt (h▸Nat.lt_irrefl _)
 ·rw[List.mem_singleton.mp h,hHs]at hlt;exact absurd hlt (Nat.not_lt.mpr (Nat.le_succ _))
theorem zjF {d:Addr}{kvs:List (zA×Value)}{Q₁:Value->Shared->Prop}(hh:A.handled=none)(hd:(d==sysModules)=false)(hm:s.heap.DictOf (yW prog w) d kvs)(hn:kvs.length<=sizeLine)
  (h: ∀(s':Shared) (acc:Array Value),(∀b o,s.heap.get? b=some o->s'.heap.get? b=some o)->s'.gens=s.gens->s'.drawn=s.drawn->s'.os=s.os->ItemsOf (λi v=> ∃k x,kvs[i]?=some (k,x)/\(yW prog w).is k v=true) acc kvs.length->
   Q₁ (.ref s'.heap.objs.size) {s' with heap:=s'.heap.push {cls:= .type "tuple",data:= .seq acc}}):
  codeAny (model prog w) A (.call (.builtin "tuple.__new__") ⟨[.type "tuple",.ref d],[]⟩) (wants Q₁ E) s:=by
 refine codeAny_of_tree ?_;show wpAny _ A.in1 (do checkBuiltinCall "tuple.__new__" ⟨[.type "tuple",.ref d],[]⟩;again (.builtin "tuple.__new__" ⟨[.type "tuple",.ref d],[]⟩)) _ _ s;refine wpAny_bind (wpAny_of_eq (F.newCall_tuple_1 _) (wpAny_pure ⟨plainId_quiet F.plain_tuple_new _,codeAny_builtin F.entry_tuple_new ?_⟩));rw[Around.under_plainId F.plain_tuple_new _];have hsub:=sub_tuple_self;have hinit:=init_tuple_lookup;have hmh:=madeHere_tuple;have hTI:s.TypeIs (.ref d) "dict" :=hm.typeIs
 wp_walk using wpAny_typeOf hTI,zjG (A:=A.in1) hh hd hm hn
 intro s' acc k1 k2 k3 k4 hacc;show wpAny _ _ (Builtin.Tuple.tupleExact acc.toList.toArray >>= λv=>ret v) _ _ _;unfold Builtin.Tuple.tupleExact;refine wpAny_bind (wpAny_newObj_type ?_ (by show acc.toList.toArray.size<=sizeLine;simp only[Array.toArray_toList];rw[hacc.1];exact hn));refine wpAny_pure ?_;have e:acc.toList.toArray=acc:=by simp
 rw[e];exact h s' acc k1 k2 k3 k4 hacc
theorem zj6 {d:Addr}{kvs:List (zA×Value)}{Q:Value->Shared->Prop}(hh:A.handled=none)(hd:(d==sysModules)=false)(hm:s.heap.DictOf (yW prog w) d kvs)(hn:kvs.length<=sizeLine)
  (h: ∀(s':Shared) (acc:Array Value),(∀b o,s.heap.get? b=some o->s'.heap.get? b=some o)->s'.gens=s.gens->s'.drawn=s.drawn->s'.os=s.os->ItemsOf (λi v=> ∃k x,kvs[i]?=some (k,x)/\(yW prog w).is k v=true) acc kvs.length->
   Q (.ref s'.heap.objs.size) {s' with heap:=s'.heap.push {cls:= .type "tuple",data:= .seq acc}}):
  wpAny (model prog w) A (call (.type "tuple") [.ref d]) Q E s:=by
 refine callType_codes (Q₁:=λobj s₁=>s₁.TypeIs obj "tuple" /\Q obj s₁) F.called_tuple (F.typeCall_tuple_1 _) F.entry_object_init
  (zjF hh hd hm hn λs' acc k1 k2 k3 k4 hacc=>⟨⟨_,Heap.get?_push_size _ rfl,rfl⟩,h s' acc k1 k2 k3 k4 hacc⟩) λobj s₁ h₁=> ?_
 exact⟨h₁.1,F.args_object_init_2 obj _,object_init_meets F.called_tuple.init.lookup F.called_tuple.made (by decide) prog w A.in1 _ s₁ ⟨h₁.1,rfl,h₁.2⟩⟩
end
theorem zc1: ∀{xs:List V} {us:List Value},xs.length=us.length->(∀(j:Nat) (v:Value) (x:V),us[j]?=some v->xs[j]?=some x->zU x v)->zR xs us
 | [],[],_,_=> .nil
 | x::xs,u::us,h,r=> .cons (r 0 u x rfl rfl) (zc1 (by simpa using h) λj v y a b=>r (j+1) v y a b)
theorem kP {kvs:List (zA×V)}{vs:List (zA×Value)}(r:KV kvs vs):kvs.length=vs.length:=Paired.length r
theorem zbc: ∀{kvs:List (zA×V)} {vs:List (zA×Value)} {i:Nat} {k:zA} {x:Value},KV kvs vs->vs[i]?=some (k,x)->∃y,kvs[i]?=some (k,y)
 | _,_,0,k,x,.cons (a:=p) r _,h=>by
  rw[List.getElem?_cons_zero]at h;rw[Option.some.inj h]at r;have e:p.1=k:=r.1;exact⟨p.2,by rw[List.getElem?_cons_zero,<- e]⟩
 | _,_,i+1,k,x,.cons _ r,h=>by
  obtain⟨y,e⟩:=zbc (i:=i) r (by simpa using h);exact⟨y,by simpa using e⟩
section
variable {X:Cx}
theorem zj5 (hc:X.calm=true):xB X (.type "tuple") (λxs H Q=> ∃(d:Addr) (kvs:List (zA×V)),xs= [.ref d]/\H d=some (.dK kvs)/\∀p,H p=none->Q (.ref p) (zQ H p (.tup (kvs.map λq=>kV q.1)))):=by
 intro pins s σ H xs us Q I r h;obtain⟨d,kvs,rfl,hd,q⟩:=h;obtain⟨u,rfl,ru⟩:=vK r;cases ru;obtain⟨hz,hsys,vs,kv,dd⟩:=pK I.hok hd;have hl:=kP kv;refine zj6 (I.ok.hd hc) hsys dd (by rw[<- hl];exact hz) λs' acc k1 k2 k3 k4 hacc=> ?_;obtain⟨hp,g,dr,tk,os⟩:=s';obtain⟨hp0,g0,dr0,tk0,os0⟩:=s;dsimp only at k1 k2 k3 k4;subst k2 k3 k4;have I1:z5 X pins σ H ⟨hp,g,dr,tk,os⟩:=I.kept (t':=tk) (h':=hp) k1;refine⟨.ref hp.objs.size,_,I1.laid (t':=tk) (o:= .tup (kvs.map λq=>kV q.1)) (λb o e=>Heap.get?_push_of_some _ e) (Nat.le_refl _) ⟨by rw[List.length_map];exact hz,acc.toList,zc1 ?_ λj v x hv hx=> ?_,by simpa using uI.new _ _⟩,rfl,q _ I1.fresh⟩
 ·rw[List.length_map,hl];exact hacc.1.symm.trans (Array.length_toList).symm
 ·obtain⟨k,y,e1,e2⟩:=hacc.2 j v (by simpa using hv)
  obtain⟨z,e3⟩:=zbc kv e1;rw[List.getElem?_map,e3]at hx;have e4:kV k=x:=Option.some.inj hx;subst e4;rcases vO e2 with⟨i,t,rfl,rfl⟩ | ⟨z',t,rfl,rfl⟩
  ·exact⟨t,rfl⟩
  ·exact⟨t,rfl⟩
end
end L2
namespace L2
open PySem PySem.Spec PyProof.Rows
namespace RV
end RV
section
variable {prog:Program} {w:World} {A:Around} {E:Value->Shared->Prop} {s:Shared}
end
section
variable {X:Cx} {tg:Expr}
end
end L2
namespace L2
open PySem PySem.Spec PyProof.Rows
section
variable {X:Cx} {pins:List (Addr×Obj)} {σ:St} {H:Hp} {s:Shared}
theorem zgi {α β:Type}{R:α->β->Prop} : ∀{l:List α} {m:List β} {j:Nat} {a:α} {b:β},Paired R l m->l[j]?=some a->m[j]?=some b->R a b
 | _,_,0,a,b,.cons r _,h1,h2=>by
  rw[List.getElem?_cons_zero]at h1 h2;rw[<- Option.some.inj h1,<- Option.some.inj h2];exact r
 | _,_,j+1,a,b,.cons _ r,h1,h2=>zgi (j:=j) r (by simpa using h1) (by simpa using h2)
theorem fS {xs:List V}{its:List Value}(r:zR xs its){j:Nat}(h:j < its.toArray.size): ∃x,xs[j]?=some x/\zU x its.toArray[j]:=by
 have hj:j < xs.length:=by rw[r.length];simpa using h
 obtain⟨u,e,ru⟩:=r.get (i:=j) (x:=xs[j]) (by simp[hj]);refine⟨xs[j],by simp[hj],?_⟩;have:its[j]?=some its.toArray[j]:=by simp
 rw[this]at e;rw[Option.some.inj e];exact ru
end
end L2
namespace L2
open PySem PySem.Spec PyProof.Rows
section
variable {X:Cx}
theorem zc2: ∀{us:List Value} {ss:List Str},StrsAre us ss->zR (ss.map V.str) us
 | _,_,.nil=> .nil
 | _,_,.cons _ t r=> .cons ⟨t,rfl⟩ (zc2 r)
theorem zj3:xB X (.builtin "sorted") (λxs H Q=> ∃(l:Addr) (ss:List Str),xs= [.ref l]/\x5 X.K H l (ss.map V.str)/\ss.length < 64/\∀p ss',H p=none->ss'.Perm ss->sortedS ss'=true->Q (.ref p) (zQ H p (.lst (ss'.map V.str)))):=by
 intro pins s σ H xs us Q I r h;obtain⟨l,ss,rfl,hl,h64,q⟩:=h;obtain⟨u,rfl,ru⟩:=vK r;cases ru;obtain⟨its,rv,p,_⟩:=I.list hl;have hlen:=rv.length;rw[List.length_map]at hlen;refine sorted_strs p.isList (zh5 rv) (by omega) λout ss' h1 h2 h3=> ?_;obtain⟨e,he⟩:=sortedAll_at s.heap its out;have hn:H (s.heap.objs.size+1)=none:=I.hok.fresh (Nat.le_succ _);refine⟨.ref (s.heap.objs.size+1),_,I.laid (t':=s.toks) (o:= .lst (ss'.map V.str)) (λb u z=>sortedAll_old z) (Nat.le_succ _) ⟨?_,out.toList,e,zc2 h1,?_⟩,rfl,q _ ss' hn h2 h3⟩
 ·rw[List.length_map,h2.length_eq]
  exact Nat.le_trans (Nat.le_of_lt h64) (by decide)
 ·rw[Array.toArray_toList];exact he
theorem zgd:yN X (binaryOp .Mult) (λx y H Q=> ∃(z:Str) (n:Int),x= .str z/\y= .int n/\((n=0/\Q (.str Str.empty) H)∨(n=1/\Q (.str z) H))):=by
 intro pins s σ H x y v u Q I rx ry h;obtain⟨z,n,rfl,rfl,h⟩:=h;obtain⟨t,rfl⟩:=rx;obtain⟨t',rfl⟩:=ry;rcases h with⟨rfl,q⟩ | ⟨rfl,q⟩
 ·exact PySem.P.mul_str_none (by decide) (by decide) ⟨.str Str.empty,H,I.tok _,⟨_,rfl⟩,q⟩
 ·refine PySem.P.mul_str (by decide) (λ_ h=>by cases h) (λ_ h=>by cases h) ?_
  rw[if_neg (by decide),if_pos (show((1:Int)==1||z.length==0)=true from rfl)];exact⟨.str z,H,I,⟨_,rfl⟩,q⟩
end
end L2
namespace L2
open PySem PySem.Spec PyProof.Rows
def Rw (H:Hp)(p:Addr)(xs:List Str):Prop:=H p=some (.tup (xs.map V.str))
section
variable {prog:Program} {w:World} {A:Around} {E:Value->Shared->Prop} {s:Shared}
theorem zlc {t sl:Addr}{items:Array Value}{vl vu:Value}{lo hi:Option Int}{Q:Value->Shared->Prop}(ht:IsTup s.heap t items)(hs:s.heap.IsSliceOf sl vl vu .none)(pl:IsPart vl lo)(pu:IsPart vu hi)
  (hw:HT.sIx items.size 0 lo=0/\HT.sIx items.size items.size hi=items.size) (h:Q (.ref t) s):wpAny (model prog w) A (getItem (.ref t) (.ref sl)) Q E s:=by
 obtain⟨os,hos,hcs,hds⟩:=id hs;have hTs:s.TypeIs (.ref sl) "slice" :=⟨os,hos,hcs⟩;unfold getItem
 try with_reducible refine wpAny_holding ?_
 first | refine wpAny_bind (wpAny_pure ?_) | skip
 refine wpAny_bind (wpAny_sequenceKey ht.typeIs (by decide) ?_);refine wpAny_bind (wpAny_callSpecial?_slot (name:=Str.ofString "__getitem__") ht.typeIs PyProof.Rows.slot_tuple_getitem
  (wpAny_call_entry PyProof.Rows.slot_tuple_getitem ht.typeIs entry_tuple_getitem ?_ (args_tuple_getitem _ _)))
 show wpAny _ _ (Builtin.Tuple.tupleItemsOf (.ref t) >>= _) _ _ s;refine wpAny_bind (tupleItemsOf_ ht ?_);refine wpAny_bind (wpAny_typeOf hTs ?_);rw[if_pos (by decide)];refine wpAny_bind (HT.sliceApplied_gen hs pl pu ?_);have hyes:((((HT.sIx items.size 0 lo:Nat):Int)==0&&(1:Int)==1&&(HT.sIx items.size items.size hi - HT.sIx items.size 0 lo)==items.size)=true):=by
  rw[hw.1,hw.2];simp
 show wpAny _ _ (if(((HT.sIx items.size 0 lo:Nat):Int)==0&&(1:Int)==1&&(HT.sIx items.size items.size hi - HT.sIx items.size 0 lo)==items.size)=true then _ else _) _ _ s;rw[if_pos hyes];unfold Builtin.Tuple.tupleIsExact;refine wpAny_bind (wpAny_bind (wpAny_typeOf ht.typeIs (wpAny_pure ?_)));rw[if_pos (by decide)];refine wpAny_bind (wpAny_rule ?_)
 first
  | exact wpAny_pure ⟨_,rfl,wpAny_pure h⟩
  | exact wpAny_bind (wpAny_pure (wpAny_pure ⟨_,rfl,wpAny_pure h⟩))
  | exact wpAny_bind (wpAny_pure ⟨_,rfl,wpAny_pure h⟩)
end
section
variable {X:Cx}
def zkX (K:Frag)(n:Nat)(t:uN):TG:=λv σ H Q=> ∃a xs,v= .ref a/\x5 K H a xs/\xs.length=n/\t xs σ H Q
theorem zon {es:List Expr}{k:Nat}{t:uN}{n:Nat}{pos:Pos}(hc:X.calm=true)(h:vU X es t)
  (hn:(assignEach es X.env).length=n:=by rfl) (hst:(assignEach es X.env).findIdx? (·.1)=none:=by rfl):PG X (.Tuple es k pos) (zkX X.K n t):=⟨by
 intro pins s σ H v u Q I r hw;obtain⟨a,xs,e1,hq,hl,hw⟩:=hw;subst e1;cases r;obtain⟨its,rv,ht,hz⟩:=I.list hq;rw[assign_Tuple];refine wpAny_bind (wpAny_standAt ?_);unfold unpack;rw[show(assignEach es X.env).length=its.toArray.size from by simp[hn,<- hl,rv.length],hst];refine wpAny_bind (wpAny_holding (PySem.W.kun_itemsOf (I.ok.hd hc) ht.isList λh' hx=> ?_));have I1:z5 X pins σ H {s with heap:=h'} :=I.kept (t':=s.toks) λb o e=>hx b o (Nat.ne_of_lt (Heap.lt_size e)) e;exact h pins _ σ H xs _ Q I1 (by simpa using rv) hw⟩
variable {a b c d:Expr} {ta tb tc td:TE} {pos:Pos}
end
end L2
namespace L2
open PySem PySem.Spec PyProof.Rows
namespace RV
end RV
section
variable {prog:Program} {w:World} {A:Around} {E:Value->Shared->Prop} {s:Shared}
end
section
variable {X:Cx}
end
end L2
namespace L2
open PySem PySem.Spec PyProof.Rows
def wI (f:Addr)(o:Obj):Heap->Prop:=λh=>h.get? f=some o
def uG (c:Addr)(q:Str):Heap->Prop:=λh=> ∃o vs t,h.get? c=some o/\o.data= .fields vs/\vs[1]?=some (.str q t)
def less (H:Hp)(c:Addr):Hp:=λb=>if b=c then none else H b
def eW (H K:Hp)(c:Addr):Hp:=λb=>if b=c then K c else H b
end L2
namespace L2
open PySem PySem.Spec PyProof.Rows
section
variable {X:Cx}
def zqe (P:Program)(w:World)(K:Frag)(mg:Str->Option Value)(base:Heap)(k i:Nat)(ps:List Str)(t:TA):TE:=λσ H Q=> ∃(f:Addr) (o:Obj) (fd:FuncData),σ[i]?=some (some (.ref f))/\o.data= .func fd/\t σ H λvs H1=> ∃(sp:Sp),
 H1 f=some (.ext (wI f o))/\zJ P w K mg base zI k f fd ps sp/\yH K fd ps []/\sp vs H1 Q E0
theorem znV {k i:Nat}{x:Str}{p pos:Pos}{e:Expr}{es:List Expr}{ps:List Str}{t:TA}(hr:zX k X.A)(hN:X.N[i]?=some x)(hv:lW X.env.scope x)(hp:i8 zI X E0)(ha:PA X (e::es) t)
  (hd:(x==("__debug__" :Str))=false:=by decide) (hcd:(x==("__classdict__" :Str))=false:=by decide) (he:starEach (e::es) X.env=(false,eval e X.env)::starEach es X.env:=by rfl):
  PE X (.Call (.Name x p) (e::es) [] pos) (zqe X.prog X.w X.K X.mg X.base k i ps t):=⟨λpins s σ H Q I h=>by
 obtain⟨f,o,fd,ef,hdat,h⟩:=h;refine wpAny_Call_Name_kw (y8 ((zbz hN hv hd hcd:PE X (.Name x p) (fI i)) pins s σ H (λv H0=>v= .ref f/\t σ H0 λvs H1=> ∃(sp:Sp),H1 f=some (.ext (wI f o))/\zJ X.prog X.w X.K X.mg X.base zI k f fd ps sp/\yH X.K fd ps []/\sp vs H1 Q E0) I ⟨.ref f,ef,rfl,h⟩) λu s0 ⟨v,H0,I0,r0,e0,q0⟩=> ?_);subst e0;cases r0;refine PyProof.Rows.callWith_def hdat (y8 (ha pos pins s0 σ H0 _ I0 q0) λus s1 ⟨vs,H1,I1,r,sp,hf,F,hb,q⟩=>⟨(I1.hok f _ hf).1,?_⟩) he;exact zgO (us:=us) (vs:=vs) (dvs:= []) (ds:= []) (E:=E0) F hr hb .nil hp I1 r (by rw[List.append_nil];exact q)⟩
open PySem.W in
def rV (T:Addr)(pos:Pos)(q:Str)(H:Hp):Prop:= ∃ps,H T=some (.tbl ps)/\(ps= #[]∨∃c',ps= #[rawInt pos.line,rawInt pos.col,.ref c']/\H c'=some (.ext (uG c' q)))
end
end L2
namespace L2
open PySem PySem.Spec PyProof.Rows
def i6 (T:Addr)(H:Hp):Prop:=H T=some (.tbl #[])/\∀b,b≠T->H b=none∨∃o xs,H b=some (.frz o (.lst xs))
open PySem.W in
theorem zlO {P:Program}{w:World}{K:Frag}{mg mb:Str->Option Value}{k:Nat}{fa a T c0:Addr}{fd:FuncData}{x:Str}{sp:Sp}{s₁:Shared}{vs:List Value}{ns:List Int}
  (KX:K.In s₁.heap) (hns:s₁.heap.Ns mainGlobals mg) (hb:s₁.heap.Ns builtinsNs mb) (hbb: ∀x:Str,x≠ "__name__" ->mb x=bootBuiltins x) (hlim:s₁.heap.NoLimit) (hg:s₁.gens= #[])
  (ha:s₁.heap.get? a=some {cls:= .type "list",data:= .seq vs.toArray}) (hi:IntsAre vs ns) (hl:ns.length<=sizeLine) (hr:zX k callerA)
  (hC:CodeHd s₁.heap c0 T) (hT:s₁.heap.get? T=some (tabObj #[])) (hTK:K.lookup T=none) (hbm: ∃bm ob,mg "__builtins__" =some (.ref bm)/\bm≠builtinsNs/\s₁.heap.get? bm=some ob/\ob.cls= .type "module" /\ob.dict=some builtinsNs/\ob.data= .plain)
  (F: ∀base:Heap,K.In base->base.Ns mainGlobals mg->base.BuiltinsAt mg T->zJ P w K mg base zI k fa fd [x] sp) (hbind: ∀(s:Shared) (u:Value),BindsTo s fd ⟨[u],[]⟩ [(x,u)])
  (hsp: ∀H:Hp,i6 T H->x5 K H a (ns.map V.int)->sp [.ref a] H (λv _=>v= .bl true) E0):
  codeAny (model P w) callerA (.call (.ref fa) ⟨[.ref a],[]⟩) (λr s'=>r= .ok (.ret (.bool true))/\OldK s₁.heap s'.heap/\s'.os=s₁.os/\AllBare s'.gens) s₁:=by
 have rv:=zim hi;have lenV:=hi.length;have naT:a≠T:=λz=>by rw[z,hT]at ha;cases ha
 have core: ∀H:Hp,i6 T H->x5 K H a (ns.map V.int)->xC P w H s₁.heap->(∀b,H b≠none->b=a∨b=T)->(H a≠none->K.lookup a=none)->
   codeAny (model P w) callerA (.call (.ref fa) ⟨[.ref a],[]⟩) (λr s'=>r= .ok (.ret (.bool true))/\OldK s₁.heap s'.heap/\s'.os=s₁.os/\AllBare s'.gens) s₁:=by
  intro H hO hS hok hA hK;have base_of: ∀{b:Addr} {o:Obj},s₁.heap.get? b=some o->H b=none->(sN s₁.heap H).get? b=some o:=λe n=>zlf e n;have free_of: ∀{b:Addr} {o:Obj},s₁.heap.get? b=some o->(∀its n,o.data≠ .seq its n)->(∀fs,o.data≠ .fields fs)->H b=none:=λ{b o} e d1 d2=>by
   cases q:H b with
   | none=>rfl
   | some u=>
    rcases hA b (by rw[q];simp)with z | z
    ·rw[z,ha]at e;cases e;exact absurd rfl (d1 _ _)
    ·rw[z,hT]at e;cases e;exact absurd rfl (d2 _)
  have nsK: ∀{b:Addr} {m:Str->Option Value},s₁.heap.Ns b m->(sN s₁.heap H).Ns b m:=λ{b m} ⟨o,es,ep,e,d,r⟩=>⟨o,es,ep,base_of e (free_of e (λits n z=>by rw[z]at d;cases d) (λfs z=>by rw[z]at d;cases d)),d,r⟩;have hKb:K.In (sN s₁.heap H):=λb o e=>base_of (KX b o e) (by
   cases q:H b with
   | none=>rfl
   | some u=>
    rcases hA b (by rw[q];simp)with z | z
    ·subst z;rw[hK (by rw[q];simp)]at e;cases e
    ·subst z;rw[hTK]at e;cases e)
  have hM:Mod K mg (sN s₁.heap H):=⟨hKb,nsK hns,⟨mb,nsK hb,hbb⟩,let⟨mc,h1,h2⟩:=hlim;⟨mc,nsK h1,h2⟩⟩;have hB:(sN s₁.heap H).BuiltinsAt mg T:=by
   obtain⟨bm,ob,b1,b2,b3,b4,b5,b6⟩:=hbm;refine⟨bm,ob,b1,b2,λz=> ?_,λz=> ?_,base_of b3 (free_of b3 (λits n z=>by rw[b6]at z;cases z) (λfs z=>by rw[b6]at z;cases z)),b4,b5,b6⟩
   ·obtain⟨o,es,ep,e,d,_⟩:=hns
    rw[<- z,b3]at e;cases e;rw[b6]at d;cases d
   ·rw[z,hT]at b3;cases b3;cases b6
  have e0:lG P w K mg (sN s₁.heap H) callerA [] s₁ H:=⟨rfl,hM,λb o e=>zmV e,Nat.le_of_eq (zlg _ _),trivial,λb hb=>absurd (show b∈([]:List Addr)from hb) (by simp),hok,.of_eq hg⟩;refine codeAny_mono ((F _ hKb (nsK hns) hB).run callerA [] s₁ H ⟨[.ref a],[]⟩ [.ref a] [.ref a] _ _ hr e0 (hbind s₁ (.ref a)) (.cons rfl .nil) (hsp H hO hS)) λr s' h=> ?_;cases r with
  | error e=>exact h.elim
  | ok fl=>
   cases fl with
   | next=>exact False.elim h
   | brk=>exact False.elim h
   | cont=>exact False.elim h
   | ret u=>
    obtain⟨v,H',os,bare,un,hok',r',q⟩:=h;have q':v= .bl true:=q;subst q';obtain rfl:u=Value.bool true:=r';refine⟨rfl,⟨λb o e=> ?_,λb o e=>un.there b o e (by simp)⟩,os,bare⟩;by_cases zT:b=T
    ·subst zT
     obtain⟨more,e2⟩:=un.tbls b #[] hO.1;rw[hT]at e;cases e;have e3:s'.heap.get? b=some {cls:= .none,data:= .fields (#[]++more)} :=hok' b _ e2;obtain⟨oc,vc,f,tf,fl,tg,i1,tx,tt,c1,c2,c3,c4,_⟩:=hC;exact .inr (.inl ⟨⟨c0,oc,vc,c1,c2,c3,c4⟩,rfl,#[],more,rfl,e3⟩)
    ·refine .inl ?_
     rcases hO.2 b zT with z | ⟨ob,xs,z⟩
     ·exact un.keep b o e z (by intro z;exact absurd (show b∈([]:List Addr)from z) (by simp)) (by simp)
     ·have z2:=un.frzs b ob _ z
      obtain⟨e1,_⟩:=hok b _ z;obtain⟨e2,_⟩:=hok' b _ z2;rw[e]at e1;cases e1;exact e2
 cases hk:K.lookup a with
 | some o=>
  have e:=KX a o hk;rw[ha]at e;cases e;refine core (λb=>if b=T then some (.tbl #[])else none) ⟨if_pos rfl,λb n=> .inl (if_neg n)⟩ (.inr ⟨_,vs.toArray,_,hk,rfl,rfl,rfl,by rw[List.size_toArray,lenV];exact hl,by simpa using rv⟩) (λb u z=> ?_) (λb z=> ?_) λz=>absurd (if_neg naT) z
  ·by_cases hb:b=T
   ·have z':=(if_pos hb).symm.trans z
    cases z';rw[hb];exact hT
   ·have z':=(if_neg hb).symm.trans z
    cases z'
  ·by_cases hb:b=T
   ·exact .inr hb
   ·exact absurd (if_neg hb) z
 | none=>
  refine core (λb=>if b=T then some (.tbl #[])else if b=a then some (.frz {cls:= .type "list",data:= .seq vs.toArray} (.lst (ns.map V.int)))else none) ⟨if_pos rfl,λb n=> ?_⟩ (.inl (.inr ⟨{cls:= .type "list",data:= .seq vs.toArray},(if_neg naT).trans (if_pos rfl)⟩)) (λb u z=> ?_) (λb z=> ?_) λ_=>hk
  ·by_cases hb:b=a
   ·exact .inr ⟨_,_,(if_neg n).trans (if_pos hb)⟩
   ·exact .inl ((if_neg n).trans (if_neg hb))
  ·by_cases hbT:b=T
   ·have z':=(if_pos hbT).symm.trans z
    cases z';rw[hbT];exact hT
   ·have z:=(if_neg hbT).symm.trans z
    by_cases hb:b=a
    ·have z':=(if_pos hb).symm.trans z
     cases z';subst hb;exact⟨ha,by rw[List.length_map];exact hl,vs,_,rv,ha⟩
    ·have z':=(if_neg hb).symm.trans z
     cases z'
  ·by_cases hbT:b=T
   ·exact .inr hbT
   ·by_cases hb:b=a
    ·exact .inl hb
    ·exact absurd ((if_neg hbT).trans (if_neg hb)) z
open PySem.W in
theorem walk_ofT {l:PySem.W.OpenLaw}{n k:Nat}{q:Program}{loose:List Str}{XP:(Str->Option Value)->Heap->Prop}{YP:World->Heap->Prop}{d:DefRec}{K:Params->Frag}{sp:Addr->World->Sp}{x tn:Str}
  (hn:l.most=some n) (hn2:n<=sizeLine) (hdf:d.params.defaults= []) (hr:zX k callerA) (hrec: ∃e,(recsOf q).find? (λe=>e.name==tn)=some e)
  (hY: ∀(w:World) (h:Heap),YP w h->(K w.params).In h)
  (F: ∀(w:World) (mg:Str->Option Value) (fa:Addr) (h:Heap),(K w.params).In h->h.Ns mainGlobals mg->mg d.name=some (.ref fa)->
   ∃(fd:FuncData) (c0 T:Addr),tabIn (K w.params) tn=some (c0,T)/\(K w.params).lookup T=none/\(∀(s:Shared) (u:Value),BindsTo s fd ⟨[u],[]⟩ [(x,u)])/\
    ∀base:Heap,(K w.params).In base->base.Ns mainGlobals mg->base.BuiltinsAt mg T->zJ l.prog w (K w.params) mg base zI k fa fd [x] (sp T w))
  (hsp: ∀(w:World) (T:Addr) (H:Hp) (a:Addr) (ns:List Int),ns.length<=n->i6 T H->x5 (K w.params) H a (ns.map V.int)->sp T w [.ref a] H (λv _=>v= .bl true) E0):
  PySem.W.WalkO q loose XP YP l.row.toRowW d [] (λf vs=>PySem.call f vs):=by
 refine Att.attach_call hn hdf λw s₀ s₁ mg mb fa o pm cd doc a vs ns G Y ho hd hcd hmg hobj hints hlen hg=> ?_;have KX:=hY w _ Y;obtain⟨fd,c0,T,ht,htk,hb,hF⟩:=F w mg fa _ KX G.T.g hmg;obtain⟨e,he⟩:=hrec;obtain⟨hC,hT⟩:=tab_of G.T KX he ht;exact zlO KX G.T.g G.T.b G.T.builtins G.T.nolimit hg hobj hints (Nat.le_trans hlen hn2) hr hC hT htk G.T.bmain hF hb (λH hO hS=>hsp w T H a ns hlen hO hS)
structure sZ (K:Frag)(x qual:Str)(st:Stmt)(f:Addr)(fd:FuncData)(c0:Addr):Prop where
 ex: ∃(oc:Value) (od:Option Addr) (kV doc pm:Value) (an:Option Addr) (ct:Value) (osl:Array (Option Value)),
  fd=fnOf x qual (yR st) (yM st) (zK st) .none kV doc pm an (.ref c0) ct/\K.lookup f=some ⟨oc,od,.func fd,osl⟩/\codeIn K (.ref c0) qual=true
 kp:keepIn K (.ref f)=true
theorem sZ.ok {P:Program}{w:World}{K:Frag}{mg:Str->Option Value}{base:Heap}{x qual:Str}{st:Stmt}{f c0:Addr}{fd:FuncData}{N ps:List Str}{k:Nat}{sp:Sp}(F:sZ K x qual st f fd c0)(S:yX N ps (zK st))(len: ∀vs H Q E,sp vs H Q E->vs.length=ps.length)
  (hbody: ∀(A:Around) (outer:List Env) (s:Shared) (H:Hp) (vs:List V) (Q:VK) (E:XK),zX k (A.deeper (envOfC qual (zK st) s.heap.objs.size f (.ref c0)))->sp vs H Q E->
   ∃t,xQ (sK zI P w K mg base N qual (zK st) f (.ref c0) A outer s H E).nox (yM st) t/\t {nx:=λ_ H'=>Q .non H',rt:=Q} (start N vs) H):zJ P w K mg base zI (k+1) f fd ps sp:=by
 obtain⟨oc,od,kV,doc,pm,an,ct,osl,rfl,lk,hcd⟩:=F.ex;refine zeR lk hcd S len λA outer s H vs Q E hr hsp=> ?_;obtain⟨t,h,q⟩:=hbody A outer s H vs Q E hr hsp;exact⟨t,h.nox,q⟩
end L2
namespace L2
open PySem PySem.Spec PyProof.Rows
section
variable {X:Cx} {pins:List (Addr×Obj)} {σ:St} {H:Hp} {s:Shared} {scope:Scope} {N' own:List Str}
theorem zo_ {elt target iter:Expr}{ifs:List Expr}{pos spos pos':Pos}{i0:Nat}{x:Str}{wi:TI}{g:TG}{tt:TT}{te:TE}(hN:X.N.Nodup)(hi0:X.N[i0]?=some x)(hx:rR X.env.scope x)(S:sY X scope N' own)(hc:X.calm=true)(hi:PI X target iter wi)
  (hg: ∀C s H fp pins,PG (xR X scope (N'++own) C s H fp pins) target g) (ht: ∀C s H fp pins,PF (xR X scope (N'++own) C s H fp pins) ifs tt) (he: ∀C s H fp pins,PE (xR X scope (N'++own) C s H fp pins) elt te)
  (hs: ∀x,foldedSetIterable iter X.env x=pure x:=by intro _;rfl) (hsw:swapsWith (.ListComp elt [⟨target,iter,ifs,0⟩] scope pos) (some (.Name x pos')) spos.line X.env=pure true:=by rfl)
  (hf:X.fn x=true∨X.env.scope.names.lookup x=some .local:=by first | exact .inl rfl | exact .inr rfl | assumption):
  PS X (.Assign [.Name x pos'] (.ListComp elt [⟨target,iter,ifs,0⟩] scope pos) spos) (fG (zcl own.length wi g tt te) (iY i0)):=by
 refine⟨?_⟩;intro pins s σ H D0 I h;rw[exec_Assign_Name_used _ _ _ _ hsw];refine wpAny_bind (wpAny_standAt (wpAny_bind ?_));show wpAny _ X.A (do let _ <- comprehension (.ListComp elt [⟨target,iter,ifs,0⟩] scope pos) scope X.env _ (newList []) false (eval iter X.env) (some (assign (.Name x pos') X.env))) _ _ s;refine wpAny_bind (wpAny_mono (wpAny_comprehension_free (use:=some (assign (.Name x pos') X.env)) (Q:=λ_ s'=>SP X pins D0 .next s') rfl hs (d9 (S.cells I)) S.kind S.names ?_) (λ_ s' hq=>wpAny_pure (wpAny_pure hq)) λ_ _ e=>e);refine y8 (hi pins s σ H _ I h) λv s1 h1=>y8 h1 λitv s2 h2=> ?_;obtain⟨it,fp,tn,J,H2,e,I2,T,st2,f2,W,⟨m0,w0⟩,turn⟩:=h2;subst e;have fl: ∀b∈fp,b < s2.heap.objs.size:=λb hb=>by obtain⟨o,e,_⟩:=T.obj _ _ st2 b hb;exact Heap.lt_size e
 refine wpAny_newObj_type (wpAny_newFunctionEnv S.nocell (by intro y hy;simp at hy) (λh4 ns4 sb4=> ?_) S.kind);dsimp only at ns4 sb4⊢
 generalize hH3:s2.heap.push {cls:= .type "list",dict:=none,data:= .seq ([]:List Value).toArray} =h3 at ns4 sb4⊢
 have hC:h3.objs.size=s2.heap.objs.size+1:=by rw[<- hH3,Heap.size_push]
 have hDC:s2.heap.objs.size≠h3.objs.size:=by rw[hC];exact Nat.ne_of_lt (Nat.lt_succ_self _)
 have hCle:s2.heap.objs.size<=h3.objs.size:=by rw[hC];exact Nat.le_succ _
 have eD3:h3.get? s2.heap.objs.size=some {cls:= .type "list",data:= .seq ([]:List Value).toArray} :=hH3▸Heap.get?_push_size _ rfl;have k4: ∀b u,s2.heap.get? b=some u->h4.get? b=some u:=λb u e=>
  (sb4.2 b (Nat.ne_of_lt (Nat.lt_of_lt_of_le (Heap.lt_size e) hCle))).trans (Heap.get?_push_of_some _ (hH3▸Heap.get?_push_of_some _ e))
 have eD4:h4.get? s2.heap.objs.size=some {cls:= .type "list",data:= .seq ([]:List Value).toArray} :=(sb4.2 _ hDC).trans (Heap.get?_push_of_some _ eD3);generalize hDd:s2.heap.objs.size=D at *;generalize hCd:h3.objs.size=C at *;have I4:=zfg S I2 (C:=C) (D:=D) (fp:=fp) (h4:=h4) (tk:=s2.toks+([]:List (Str×Value)).length) k4 (by rw[hDd];exact hCle) (by rw[hDd];exact Nat.le_refl _) hDC eD4 (by intro v z;cases z) ns4 f2 (by rw[hDd];exact fl);have lowC: ∀(b:Addr) (u:Obj),s2.heap.get? b=some u->b≠C:=λb u e=>Nat.ne_of_lt (Nat.lt_of_lt_of_le (Heap.lt_size e) (by rw[hDd];exact hCle));have nofp: ∀b∈fp,b∉wM X.stack:=λb hb hm=>by
  rcases List.mem_cons.mp (I2.stkSub b hm)with z | z
  ·exact(f2 b hb).2.1 z
  ·exact(f2 b hb).2.2.1 z
 have fpD: ∀b∈fp,b≠D:=λb hb=>Nat.ne_of_lt (fl b hb);have stat: ∀{H':Hp} {o:Obj},(∀b∈fp,H' b=none)->∀b∈fp,sE (xR X scope (N'++own) C s2 H2 fp pins) [(D,o)] H' b:=λ{H' o} hn b hb=>
  ⟨hn b hb,Nat.ne_of_lt (Nat.lt_of_lt_of_le (fl b hb) hCle),nofp b hb,.inl hb,λx c e=>(f2 b hb).2.2.2.2.1 x c (rA S I2 e),λp hp=>by
   have hp':p∈(X.pn++pins)++ [(D,o)]:=hp;rcases List.mem_append.mp hp' with z | z
   ·exact(f2 b hb).2.2.2.2.2 p z
   ·have e:p=(D,o):=by simpa using z
    rw[e];exact Ne.symm (fpD b hb)⟩
 have loop: ∀s3:Shared,z5 (xR X scope (N'++own) C s2 H2 fp pins) [(D,{cls:= .type "list",data:= .seq ([]:List Value).toArray})] (σ++List.replicate own.length none) H2 s3->tn 0 s3.heap->
   codeAny (model X.prog X.w) X.A (.compLoop (.ListComp elt [⟨target,iter,ifs,0⟩] scope pos) 0 (.ref it) (.ref D) (compEnvC scope (vG scope.names X.env.cells) C X.env))
    (compPost (model X.prog X.w) X.A X.xe (some (assign (.Name x pos') X.env)) (λ_ s'=>SP X pins D0 .next s') (.ref D) C) s3:=by
  intro s3 I3 st3;refine zd0 (λn s'=> ∃(i:Nat) (ys:List V) (σ':St) (H':Hp) (vals:List Value) (cnt:Nat),z5 (xR X scope (N'++own) C s2 H2 fp pins) [(D,{cls:= .type "list",data:= .seq vals.toArray cnt})] σ' H' s'/\
   tn i s'.heap/\(∀b∈fp,H' b=none)/\zR ys vals/\W i n ys σ' H') ?_ m0 ⟨0,[],_,H2,[],0,I3,st3,λb hb=>(f2 b hb).1,.nil,w0⟩
  rintro n s3 ⟨i,ys,σ3,H3,vals,cnt,I3,st3,fr3,rv,w3⟩;rcases turn i n ys σ3 H3 w3 with⟨stop,hz,q⟩ | ⟨go,hz,N,hN,step⟩
  ·refine y8 (T.done (xR X scope (N'++own) C s2 H2 fp pins) rfl rfl rfl hc i _ s3 σ3 H3 _ I3 (stat fr3) st3 stop) λr s4 ⟨hr,I4⟩=> ?_
   subst hr;obtain⟨m,ns,_⟩:=id I4.loc;have u4:Un (wM X.stack) fp H2 H3 s2.heap s4.heap:=I4.base;have nC:H3 C=none:=I4.free;have I5:z5 X pins σ H3 s4:=I2.call' (ch:=fp) I4.os u4 I4.hok I4.bare λb hb=>⟨(f2 b hb).2.2.2.1,(f2 b hb).2.1,(f2 b hb).2.2.2.2.1,(f2 b hb).2.2.2.2.2⟩;obtain⟨eD,nD,_⟩:=I4.pin (D,_) (List.mem_append_right _ List.mem_cons_self);have lL:X.env.locals < D:=by have:=I2.lt;rw[hDd]at this;exact this
   have lcl: ∀x c,X.env.cells.lookup x=some c->c < D:=λx c e=>by
    obtain⟨v,o,ho,_⟩:=I2.cell x c e;have:=Heap.lt_size ho;rw[hDd]at this;exact this
   have lp: ∀p∈X.pn++pins,p.1 < D:=λp hp=>by have:=Heap.lt_size (I2.pin p hp).1;rw[hDd]at this;exact this
   have lDC:D < C:=Nat.lt_of_le_of_ne hCle hDC;have I6:z5 X pins σ (zQ H3 D (.lst ys)) s4:=zaW I5 nD (by rw[<- hDd];exact I2.sz) (Nat.ne_of_gt lL) (λx c e=>Nat.ne_of_lt (lcl x c e)) (λp hp=>Nat.ne_of_lt (lp p hp)) ⟨hz,vals,cnt,rv,eD⟩;refine wpAny_assign_Name (zh3 I6 hN hi0 hx (v:= .ref D) rfl (λs5 I7 ⟨a,sba,ha⟩=> ?_) hf);have nCa:C≠a:=by
    rcases ha with z | z
    ·rw[z];exact Nat.ne_of_gt (Nat.lt_trans lL lDC)
    ·exact Nat.ne_of_gt (Nat.lt_trans (lcl _ _ z) lDC)
   obtain⟨oC,esC,epC,eC,rC⟩:=ns;refine⟨m,⟨oC,esC,epC,(sba.2 C nCa).trans eC,rC⟩,λh' sb=> ?_⟩;refine⟨_,_,I7.turned (t':=s5.toks) (it:=C) (λb o hb e=>(sb.2 b hb).trans e) (by rw[yP (Nat.ne_of_gt lDC)];exact nC) (Nat.ne_of_gt (Nat.lt_trans lL lDC)) (.inr (Nat.le_trans (by rw[<- hDd];exact I2.sz) (Nat.le_of_lt lDC))) (λx c e=>Nat.ne_of_lt (Nat.lt_trans (lcl x c e) lDC)) (λp hp=>Nat.ne_of_lt (Nat.lt_trans (lp p hp) lDC)),q D nD⟩
  ·refine y8 (T.item (xR X scope (N'++own) C s2 H2 fp pins) rfl rfl rfl hc i _ s3 σ3 H3 _ I3 (stat fr3) st3 go) λr s4 ⟨u,hr,h4⟩=> ?_
   subst hr;refine y8 h4 λ_ s5 ⟨x,H5,I5,r5,y5,st5,fr5⟩=> ?_;have I5':=I5.pinned (stat fr5) (T.obj _ _ st5);have keepT: ∀{σ7:St} {H7:Hp} {s7:Shared} {pl:List (Addr×Obj)},z5 (xR X scope (N'++own) C s2 H2 fp pins) (pl++sV fp s5.heap) σ7 H7 s7->tn (i+1) s7.heap/\∀b∈fp,H7 b=none:=λ{σ7 H7 s7 pl} I7=>
    ⟨T.keep _ _ _ st5 λb hb o e=>(I7.pin (b,o) (List.mem_append_right _ (List.mem_append_right _ (mH hb e)))).1,λb hb=>by
     obtain⟨o,e,d⟩:=T.obj _ _ st5 b hb;exact(I7.pin (b,o) (List.mem_append_right _ (List.mem_append_right _ (mH hb e)))).2.1⟩
   refine mJ (hg C s2 H2 fp pins _ s5 σ3 H5 x u _ I5' r5 (step x H5 y5)) λ_ s6 ⟨σ6,H6,I6,q6⟩=> ?_;refine mJ (ht C s2 H2 fp pins _ s6 σ6 H6 _ I6 q6) λb s7 ⟨H7,I7,q7⟩=> ?_;cases b with
   | false=>
    obtain⟨m',hm,w7⟩:=hN _ _ _ q7;obtain⟨t7,fr7⟩:=keepT I7;exact⟨m',hm,i+1,ys,σ6,H7,vals,cnt,I7.unpinned,t7,fr7,rv,w7⟩
   | true=>
    refine mJ (he C s2 H2 fp pins _ s7 σ6 H7 _ I7 q7) λy s8 ⟨yv,H8,I8,r8,q8⟩=> ?_;obtain⟨m',hm,w8⟩:=hN _ _ _ q8;obtain⟨eD,nD,neD,nfD,cD⟩:=I8.pin (D,_) (List.mem_append_right _ (List.mem_append_left _ List.mem_cons_self));have hvl:=rv.length;refine call_meets F.slot_list_append ⟨_,eD,rfl⟩ F.entry_list_append (F.args_list_append_2 _ _) (PySem.list_append D vals.toArray cnt y (by rw[List.size_toArray];omega)) ⟨eD,?_⟩;have I8':z5 (xR X scope (N'++own) C s2 H2 fp pins) (sV fp s5.heap) σ6 H8 s8:=I8.pins_of λp hp=>I8.pin p (List.mem_append_right _ (List.mem_append_right _ hp));have hno: ∀p∈(X.pn++pins)++sV fp s5.heap,p.1≠D:=λp hp=>by
     rcases List.mem_append.mp hp with z | z
     ·intro q
      have:=Heap.lt_size (I2.pin p z).1;rw[hDd,q]at this;exact Nat.lt_irrefl _ this
     ·exact fpD _ (zbq z).1
    have I9:=I8'.turned (t':=s8.toks) (it:=D) (h':=s8.heap.update D (Obj.mapSeq λx=>x.push y)) (λb o hb e=>(Heap.get?_update_other s8.heap _ (Ne.symm hb)).trans e) nD neD (.inr (by show s2.heap.objs.size<=D;rw[hDd];exact Nat.le_refl _))
     (λx c e z=>by
      obtain⟨v,o,ho,_⟩:=I2.cell x c (rA S I2 e);have:=Heap.lt_size ho;rw[hDd,z]at this;exact Nat.lt_irrefl _ this) hno
    obtain⟨t9,fr9⟩:=keepT (pl:= []) I9;have qD: ∃n',(s8.heap.update D (Obj.mapSeq λx=>x.push y)).get? D=some {cls:= .type "list",data:= .seq (vals++ [y]).toArray n'} :=by
     have q:=PySem.IsL.update (l:=D) (items:=vals.toArray) (n:=cnt) (h:=s8.heap) eD λx=>x.push y;have e:vals.toArray.push y=(vals++ [y]).toArray:=by simp
     rw[<- e];exact⟨_,q⟩
    obtain⟨n',qD⟩:=qD;refine⟨m',hm,i+1,ys++ [yv],σ6,H8,vals++ [y],n',I9.pins_of λp hp=> ?_,t9,fr9,rv.append (.cons r8 .nil),w8⟩;have e:=List.mem_singleton.mp hp;rw[e];exact⟨qD,nD,neD,nfD,by intro v z;cases z⟩
 have t4:tn 0 h4:=T.keep _ _ _ st2 λb _ o e=>k4 b o e;exact codeAny_compStart_list (loop _ I4 t4) (T.self _ 0 _ _ _ t4 (loop _ I4 t4))
end
end L2
namespace L2
open PySem PySem.Spec PyProof.Rows PySem.W
section
variable {n:Nat} {rk:Nat->Nat} {cmp:Nat->Nat->(Bool->Shared->Prop)->Shared->Prop} {s:Shared} {p:Array Nat}
def Rk (rk:Nat->Nat)(p:Array Nat)(k:Nat):Nat:=rk (p.getD k 0)
def Pm (n:Nat)(p:Array Nat):Prop:=p.Perm (List.range n).toArray
def Up (rk:Nat->Nat)(p:Array Nat)(m:Nat):Prop:= ∀i j,i < j->j < m->Rk rk p i < Rk rk p j
def jQ (rk:Nat->Nat)(p:Array Nat)(m:Nat):Prop:= ∀i j,i < j->j < m->Rk rk p j < Rk rk p i
def sH (rk:Nat->Nat)(n:Nat):Prop:= ∀i j,i < n->j < n->rk i=rk j->i=j
def sC (cmp:Nat->Nat->(Bool->Shared->Prop)->Shared->Prop)(rk:Nat->Nat)(n:Nat)(s:Shared):Prop:=
 ∀(i j:Nat) (C:Bool->Shared->Prop),i < n->j < n->i≠j->C (decide (rk i < rk j)) s->cmp i j C s
theorem Pm.size (h:Pm n p):p.size=n:=by
 have:=Array.Perm.size_eq h;simpa using this
theorem kN {k:Nat}(hk:k < p.size):p.getD k 0=p[k]:=by simp[Array.getD,hk]
theorem Pm.lt (h:Pm n p){k:Nat}(hk:k < n):p.getD k 0 < n:=by
 have hs:=h.size;have hk':k < p.size:=by omega
 rw[kN hk'];have hm:p[k]∈p.toList:=by simp
 have:=(Array.perm_iff_toList_perm.mp h).mem_iff.mp hm;simpa using this
theorem Pm.neq (h:Pm n p){i j:Nat}(hi:i < n)(hj:j < n)(hij:i≠j):p.getD i 0≠p.getD j 0:=by
 intro e2;have hs:=h.size;rw[kN (show i < p.size by omega),kN (show j < p.size by omega)]at e2;have hn:p.toList.Nodup:=(Array.perm_iff_toList_perm.mp h).nodup_iff.mpr (by simpa using List.nodup_range);have hi':i < p.toList.length:=by simpa using(show i < p.size by omega)
 have hj':j < p.toList.length:=by simpa using(show j < p.size by omega)
 have hw:=List.pairwise_iff_getElem.mp hn;rcases Nat.lt_or_gt_of_ne hij with hlt | hgt
 ·exact hw i j hi' hj' hlt (by simpa using e2)
 ·exact hw j i hj' hi' hgt (by simpa using e2.symm)
theorem Pm.ne (h:Pm n p)(hu:sH rk n){i j:Nat}(hi:i < n)(hj:j < n)(hij:i≠j):Rk rk p i≠Rk rk p j:=λe=>h.neq hi hj hij (hu _ _ (h.lt hi) (h.lt hj) e)
theorem pQ (p:Array Nat)(k:Nat):p.getD k 0=(p[k]?).getD 0:=by
 unfold Array.getD
 split
 ·rename_i h;simp[h]
 ·rename_i h;simp[h]
theorem zgK {src d:Nat}(hs:src < p.size)(hd:d<=src)(k:Nat):
  Rk rk (bubble p src d) k=if k=src - d then Rk rk p src else if src - d < k/\k<=src then Rk rk p (k - 1)else Rk rk p k:=by
 unfold Rk;rw[pQ,getElem?_bubble hs d hd k];by_cases h1:k=src - d
 ·rw[if_pos h1,if_pos h1,pQ]
 ·rw[if_neg h1,if_neg h1]
  by_cases h2:src - d < k/\k<=src
  ·rw[if_pos h2,if_pos h2,pQ]
  ·rw[if_neg h2,if_neg h2,pQ]
theorem zgL {j:Nat}(hj:j<=p.size)(k:Nat):Rk rk (kas_rev p 0 j) k=if k < j then Rk rk p (j - 1 - k)else Rk rk p k:=by
 unfold Rk kas_rev;rw[pQ,getElem?_mirror_all hj k];simp only[Nat.zero_le,true_and,Nat.zero_add]
 split
 ·rw[pQ]
 ·rw[pQ]
theorem Pm.bubble (h:Pm n p)(a d:Nat):Pm n (bubble p a d):=Array.Perm.trans (bubble_perm p a d) h
theorem Pm.rev (h:Pm n p)(j:Nat):Pm n (kas_rev p 0 j):=Array.Perm.trans (mirror_perm p 0 j _) h
theorem lZ {α:Type}{i j:Nat}{k:Bool->KasT α}{Q:α->Shared->Prop}(hc:sC cmp rk n s)(hi:i < n)(hj:j < n)(hij:i≠j)(h1:rk i < rk j->(k true).kasWp cmp Q s)(h2: ¬ rk i < rk j->(k false).kasWp cmp Q s):(KasT.ask i j k).kasWp cmp Q s:=by
 refine hc i j _ hi hj hij ?_;by_cases h:rk i < rk j
 ·rw[decide_eq_true h];exact h1 h
 ·rw[decide_eq_false h];exact h2 h
theorem eQ (hc:sC cmp rk n s)(hu:sH rk n)(hp:Pm n p){Q:Nat->Shared->Prop} : ∀(f m:Nat),1<=m->m+f=n->Up rk p m->(∀r,m<=r->r<=n->Up rk p r->(r=n∨Rk rk p r < Rk rk p (r - 1))->Q r s)->(kas_asc p f m).kasWp cmp Q s
 | 0,m,_,e,u,h=>h m (Nat.le_refl _) (by omega) u (.inl (by omega))
 | f+1,m,h1,e,u,h=>by
  refine lZ hc (hp.lt (by omega)) (hp.lt (by omega)) (hp.neq (by omega) (by omega) (by omega)) (λlt=> ?_) λnl=> ?_
  ·rw[if_pos rfl]
   exact h m (Nat.le_refl _) (by omega) u (.inr lt)
  ·rw[if_neg (by simp)]
   have hne:Rk rk p m≠Rk rk p (m - 1):=hp.ne hu (by omega) (by omega) (by omega);have hlt:Rk rk p (m - 1) < Rk rk p m:=by
    have: ¬ Rk rk p m < Rk rk p (m - 1):=nl;omega
   refine eQ hc hu hp f (m+1) (by omega) (by omega) (λi j hij hj=> ?_) λr a b c d=>h r (by omega) b c d;by_cases hjm:j < m
   ·exact u i j hij hjm
   ·have ej:j=m:=by omega
    subst ej;by_cases hi:i=j - 1
    ·subst hi;exact hlt
    ·exact Nat.lt_trans (u i (j - 1) (by omega) (by omega)) hlt
theorem zd8 (hc:sC cmp rk n s)(hu:sH rk n)(hp:Pm n p){Q:Array Nat×Nat×Nat->Shared->Prop} : ∀(f m:Nat),1<=m->m+f=n->jQ rk p m->(∀r,m<=r->r<=n->jQ rk p r->Q (p,r,0) s)->(kas_desc f p m 0).kasWp cmp Q s
 | 0,m,_,e,u,h=>h m (Nat.le_refl _) (by omega) u
 | f+1,m,h1,e,u,h=>by
  refine lZ hc (hp.lt (by omega)) (hp.lt (by omega)) (hp.neq (by omega) (by omega) (by omega)) (λlt=> ?_) λnl=> ?_
  ·rw[if_pos rfl,if_neg (by omega)]
   have hlt:Rk rk p m < Rk rk p (m - 1):=lt;refine zd8 hc hu hp f (m+1) (by omega) (by omega) (λi j hij hj=> ?_) λr a b c=>h r (by omega) b c;by_cases hjm:j < m
   ·exact u i j hij hjm
   ·have ej:j=m:=by omega
    subst ej;by_cases hi:i=j - 1
    ·subst hi;exact hlt
    ·exact Nat.lt_trans hlt (u i (j - 1) (by omega) (by omega))
  ·rw[if_neg (by simp)]
   have hne:Rk rk p m≠Rk rk p (m - 1):=hp.ne hu (by omega) (by omega) (by omega);refine lZ hc (hp.lt (by omega)) (hp.lt (by omega)) (hp.neq (by omega) (by omega) (by omega)) (λlt=> ?_) λnl2=> ?_
   ·rw[if_pos rfl]
    exact h m (Nat.le_refl _) (by omega) u
   ·exfalso
    have h3: ¬ Rk rk p m < Rk rk p (m - 1):=nl;have h4: ¬ Rk rk p (m - 1) < Rk rk p m:=nl2;omega
theorem zjU {m:Nat}(hm:m<=p.size)(d:jQ rk p m):Up rk (kas_rev p 0 m) m:=by
 intro i j hij hj;rw[zgL hm,zgL hm,if_pos (by omega),if_pos hj];exact d (m - 1 - j) (m - 1 - i) (by omega) (by omega)
theorem zq1 (hc:sC cmp rk n s)(hu:sH rk n)(hp:Pm n p){Q:Nat×Array Nat->Shared->Prop}{m:Nat}(h1:1<=m)(hm:m<=n)(d:jQ rk p m)(h: ∀r p',1<=r->r<=n->Pm n p'->Up rk p' r->Q (r,p') s):(kas_tail3 m n p).kasWp cmp Q s:=by
 unfold kas_tail3;rw[KasT.kasWp_bind];exact eQ hc hu (hp.rev m) (n - m) m h1 (by omega) (zjU (by rw[hp.size];exact hm) d) λr a b c _=>h r _ (by omega) b (hp.rev m) c
theorem zjQ (hc:sC cmp rk n s)(hu:sH rk n)(hp:Pm n p){Q:Nat×Array Nat->Shared->Prop}(h2:2<=n)(hlt:Rk rk p 1 < Rk rk p 0)(h: ∀r p',1<=r->r<=n->Pm n p'->Up rk p' r->Q (r,p') s):(kas_descPart 1 n p).kasWp cmp Q s:=by
 unfold kas_descPart;rw[KasT.kasWp_bind];refine zd8 hc hu hp (n - 2) 2 (by omega) (by omega) (λi j hij hj=> ?_) λr a b c=> ?_
 ·have e1:j=1:=by omega
  have e0:i=0:=by omega
  subst e1 e0;exact hlt
 ·show KasT.kasWp cmp (if 0 > 0 then kas_tail3 r n (kas_rev p (r - (0+1)) r)else kas_tail3 r n p) Q s
  rw[if_neg (Nat.lt_irrefl 0)];exact zq1 hc hu hp (by omega) b c h
theorem zjH (hc:sC cmp rk n s)(hu:sH rk n)(hp:Pm n p){Q:Nat×Array Nat->Shared->Prop}(h2:2<=n)(h: ∀r p',1<=r->r<=n->Pm n p'->Up rk p' r->Q (r,p') s):(kas_count n p).kasWp cmp Q s:=by
 unfold kas_count;rw[KasT.kasWp_bind];refine eQ hc hu hp (n - 1) 1 (by omega) (by omega) (λi j hij hj=>absurd hj (by omega)) λr a b c d=> ?_;by_cases e:r=n
 ·rw[if_pos (by rw[e];exact beq_self_eq_true n)]
  exact h r p a b hp c
 ·rw[if_neg (by simpa using e)]
  have hr:Rk rk p r < Rk rk p (r - 1):=d.resolve_left e;by_cases h1:r > 1
  ·rw[if_pos h1]
   refine lZ hc (hp.lt (by omega)) (hp.lt (by omega)) (hp.neq (by omega) (by omega) (by omega)) (λlt=> ?_) λnl=> ?_
   ·rw[if_pos rfl];exact h r p a b hp c
   ·exact absurd (c 0 (r - 1) (by omega) (by omega)) nl
  ·rw[if_neg h1]
   have e1:r=1:=by omega
   subst e1;exact zjQ hc hu hp h2 hr h
theorem zb0 (hc:sC cmp rk n s)(hu:sH rk n)(hp:Pm n p){Q:Nat->Shared->Prop}{k:Nat}(hk:k < n)(u:Up rk p k)(h: ∀l,l<=k->(∀i,i < l->Rk rk p i < Rk rk p k)->(∀i,l<=i->i < k->Rk rk p k < Rk rk p i)->Q l s):
  ∀(f l r:Nat),l<=r->r<=k->r - l<=f->(∀i,i < l->Rk rk p i < Rk rk p k)->(∀i,r<=i->i < k->Rk rk p k < Rk rk p i)->(kas_place p k f l r).kasWp cmp Q s
 | 0,l,r,a,b,c,x,y=>h l (by omega) x λi hi hk'=>y i (by omega) hk'
 | f+1,l,r,a,b,c,x,y=>by
  unfold kas_place;by_cases e:l≥r
  ·rw[if_pos e]
   exact h l (by omega) x λi hi hk'=>y i (by omega) hk'
  ·rw[if_neg e]
   refine lZ hc (hp.lt hk) (hp.lt (by omega)) (hp.neq hk (by omega) (by omega)) (λlt=> ?_) λnl=> ?_
   ·rw[if_pos rfl]
    have lt':Rk rk p k < Rk rk p ((l+r) / 2):=lt;refine zb0 hc hu hp hk u h f l ((l+r) / 2) (by omega) (by omega) (by omega) x λi hi hk'=> ?_;by_cases ei:i=(l+r) / 2
    ·subst ei;exact lt'
    ·exact Nat.lt_trans lt' (u _ i (by omega) hk')
   ·rw[if_neg (by simp)]
    have hne:Rk rk p k≠Rk rk p ((l+r) / 2):=hp.ne hu hk (by omega) (by omega);have lt':Rk rk p ((l+r) / 2) < Rk rk p k:=by
     have: ¬ Rk rk p k < Rk rk p ((l+r) / 2):=nl;omega
    refine zb0 hc hu hp hk u h f ((l+r) / 2+1) r (by omega) b (by omega) (λi hi=> ?_) y;by_cases ei:i=(l+r) / 2
    ·subst ei;exact lt'
    ·exact Nat.lt_trans (u i _ (by omega) (by omega)) lt'
theorem zdg (hc:sC cmp rk n s)(hu:sH rk n){Q:Array Nat->Shared->Prop}(h: ∀p',Pm n p'->Up rk p' n->Q p' s): ∀(f:Nat) (p:Array Nat) (k:Nat),Pm n p->Up rk p k->k+f=n->(kas_bin f p k).kasWp cmp Q s
 | 0,p,k,hp,u,e=>h p hp (by have:k=n:=by omega
                            subst this;exact u)
 | f+1,p,k,hp,u,e=>by
  unfold kas_bin;rw[KasT.kasWp_bind];have hk:k < n:=by omega
  have hs:=hp.size;refine zb0 hc hu hp hk u (λl hl x y=> ?_) k 0 k (by omega) (Nat.le_refl _) (by omega) (λi hi=>absurd hi (by omega)) λi hi hk'=>absurd hi (by omega);refine zdg hc hu h f _ (k+1) (hp.bubble k (k - l)) (λi j hij hj=> ?_) (by omega);rw[zgK (by omega) (by omega),zgK (by omega) (by omega)];have ekl:k - (k - l)=l:=by omega
  rw[ekl];by_cases i1:i=l
  ·rw[if_pos i1,if_neg (by omega),if_pos (by omega)]
   exact y (j - 1) (by omega) (by omega)
  ·rw[if_neg i1]
   by_cases i2:l < i
   ·rw[if_pos (by omega),if_neg (by omega),if_pos (by omega)]
    exact u (i - 1) (j - 1) (by omega) (by omega)
   ·rw[if_neg (by omega)]
    by_cases j1:j=l
    ·rw[if_pos j1];exact x i (by omega)
    ·rw[if_neg j1]
     by_cases j2:l < j
     ·rw[if_pos (by omega)]
      by_cases e2:i=j - 1
      ·omega
      ·exact u i (j - 1) (by omega) (by omega)
     ·rw[if_neg (by omega)]
      exact u i j hij (by omega)
theorem zpY (hc:sC cmp rk n s)(hu:sH rk n){Q:Array Nat->Shared->Prop}(h2:2<=n)(h: ∀p',Pm n p'->Up rk p' n->Q p' s):(kas_sort n).kasWp cmp Q s:=by
 unfold kas_sort;rw[KasT.kasWp_bind];refine zjH hc hu (Array.Perm.refl _) h2 λr p' a b hp u=> ?_;show((if r < n then kas_bin (n - max r 1) p' (max r 1)else KasT.ret p')).kasWp cmp Q s;have em:max r 1=r:=by omega
 rw[em];by_cases e:r < n
 ·rw[if_pos e];exact zdg hc hu h _ _ _ hp u (by omega)
 ·rw[if_neg e]
  have er:r=n:=by omega
  subst er;exact h p' hp u
end
end L2
namespace L2
open PySem PySem.Spec PyProof.Rows PySem.W
def rM (ks:List (List Nat))(i:Nat):Nat:=ks.countP λk=>decide (k < ks.getD i [])
theorem zd2 {a b:List Nat}(h:a < b): ∀l:List (List Nat),(l.countP λk=>decide (k < a))<=l.countP λk=>decide (k < b)
 | []=>Nat.le_refl _
 | x::l=>by
  rw[List.countP_cons,List.countP_cons];have ih:=zd2 h l;by_cases e:x < a
  ·have e2:x < b:=List.lt_trans e h
   rw[if_pos (decide_eq_true e),if_pos (decide_eq_true e2)];omega
  ·rw[if_neg (by simpa using e)];omega
theorem dB {a b:List Nat}(h:a < b): ∀l:List (List Nat),a∈l->(l.countP λk=>decide (k < a)) < l.countP λk=>decide (k < b)
 | [],m=>nomatch m
 | x::l,m=>by
  rw[List.countP_cons,List.countP_cons];by_cases ex:x=a
  ·subst ex
   have:=zd2 h l;rw[if_neg (by simpa using List.lt_irrefl x),if_pos (decide_eq_true h)];omega
  ·have ih:=dB h l ((List.mem_cons.mp m).resolve_left λe=>ex e.symm)
   by_cases e:x < a
   ·have e2:x < b:=List.lt_trans e h
    rw[if_pos (decide_eq_true e),if_pos (decide_eq_true e2)];omega
   ·rw[if_neg (by simpa using e)];omega
theorem fK (a b:List Nat):a < b∨a=b∨b < a:=by
 by_cases h1:a < b
 ·exact .inl h1
 ·by_cases h2:b < a
  ·exact .inr (.inr h2)
  ·exact .inr (.inl (strKind.total a b (decide_eq_false h1) (decide_eq_false h2)))
theorem zeT {ks:List (List Nat)}{i:Nat}(hi:i < ks.length):ks.getD i []∈ks:=by
 rw[List.getD_eq_getElem?_getD,List.getElem?_eq_getElem hi];exact List.getElem_mem hi
theorem gR {ks:List (List Nat)}{i j:Nat}(hi:i < ks.length)(hj:j < ks.length):rM ks i < rM ks j↔ks.getD i [] < ks.getD j []:=by
 rcases fK (ks.getD i []) (ks.getD j [])with h | h | h
 ·exact⟨λ_=>h,λ_=>dB h ks (zeT hi)⟩
 ·unfold rM;rw[h]
  exact⟨λx=>absurd x (Nat.lt_irrefl _),λx=>absurd x (List.lt_irrefl _)⟩
 ·have:=dB h ks (zeT hj)
  unfold rM;exact⟨λx=>absurd x (by omega),λx=>absurd (List.lt_trans h x) (List.lt_irrefl _)⟩
theorem zpz {ks:List (List Nat)}(hn:ks.Nodup):sH (rM ks) ks.length:=by
 intro i j hi hj e;have e2:ks.getD i []=ks.getD j []:=by
  rcases fK (ks.getD i []) (ks.getD j [])with h | h | h
  ·have:=(gR hi hj).mpr h;omega
  ·exact h
  ·have:=(gR hj hi).mpr h;omega
 rw[List.getD_eq_getElem?_getD,List.getD_eq_getElem?_getD,List.getElem?_eq_getElem hi,List.getElem?_eq_getElem hj]at e2;have e3:ks[i]=ks[j]:=e2;have hw:=List.pairwise_iff_getElem.mp hn;rcases Nat.lt_trichotomy i j with h | h | h
 ·exact absurd e3 (hw i j hi hj h)
 ·exact h
 ·exact absurd e3.symm (hw j i hj hi h)
theorem zgq {α:Type}(es:List α)(d:α){p:Array Nat}(hp:Pm es.length p):(p.toList.map λi=>es.getD i d).Perm es:=by
 have h1:=(Array.perm_iff_toList_perm.mp hp).map λi=>es.getD i d;have h2:((List.range es.length).toArray.toList.map λi=>es.getD i d)=es:=by
  apply List.ext_getElem
  ·simp
  ·intro i a b
   simp[List.getD_eq_getElem?_getD,b]
 rw[h2]at h1;exact h1
theorem zoI {α:Type}(es:List α)(d:α)(f:α->List Nat){p:Array Nat}(hp:Pm es.length p)(u:Up (rM (es.map f)) p es.length):(p.toList.map λi=>es.getD i d).Pairwise λa b=>f a < f b:=by
 rw[List.pairwise_iff_getElem];intro i j hi hj hij;have hs:=hp.size;have hi':i < es.length:=by simpa [hs]using hi
 have hj':j < es.length:=by simpa [hs]using hj
 have h1:=u i j hij hj';have l1:=hp.lt hi';have l2:=hp.lt hj';have h2:=(gR (ks:=es.map f) (by simpa using l1) (by simpa using l2)).mp h1;simp only[List.getElem_map,Array.getElem_toList];rw[kN (by omega)]at h2 l1;rw[kN (by omega)]at h2 l2;simpa [List.getD_eq_getElem?_getD,l1,l2]using h2
end L2
namespace L2
open PySem PySem.Spec PyProof.Rows PySem.W
section
variable {prog:Program} {w:World} {A:Around} {E:Value->Shared->Prop} {s:Shared}
def lP (h:Heap)(e:Str×Addr):Prop:= ∃t x,h.get? e.2=some ({cls:= .type "tuple",data:= .seq #[.str e.1 t,x]} :Obj)
def yV (es:List (Str×Addr)):List Value:=es.map λe=>Value.ref e.2
theorem zhF {h:Heap} : ∀(es:List (Str×Addr)),(∀e∈es,lP h e)->∃fs,KatTups h (yV es) fs/\fs.length=es.length/\∀v∈fs,∃x t,v=Value.str x t
 | [],_=>⟨[],KatTups.nil,rfl,λ_ m=>nomatch m⟩
 | e::es,H=>by
  obtain⟨fs,h1,h2,h3⟩:=zhF es λx m=>H x (.tail _ m);obtain⟨t,x,hx⟩:=H e (.head _);refine⟨.str e.1 t::fs,KatTups.cons hx rfl rfl rfl h1,by simp[h2],λv m=> ?_⟩;rcases List.mem_cons.mp m with rfl | m
  ·exact⟨_,_,rfl⟩
  ·exact h3 v m
theorem zgE {es:List (Str×Addr)}{i:Nat}(hi:i < es.length):(yV es).getD i Value.none=Value.ref es[i].2:=by
 unfold yV;simp[List.getD_eq_getElem?_getD,hi]
theorem ziV {es:List (Str×Addr)}(ht: ∀e∈es,lP s.heap e)(hn:(es.map λe=>e.1.cps.toList).Nodup):
  sC (kas_ask prog w A (tuples' true) (yV es)) (rM (es.map λe=>e.1.cps.toList)) es.length s:=by
 intro i j C hi hj hij hC;unfold kas_ask;rw[zgE hi,zgE hj];obtain⟨t,x,hx⟩:=ht es[i] (List.getElem_mem hi);obtain⟨u,y,hy⟩:=ht es[j] (List.getElem_mem hj);refine kat_lt hx rfl hy rfl ?_;refine kat_cons (eqBool_str ?_);have hne:es[i].1.cps.toList≠es[j].1.cps.toList:=by
  have hw:=List.pairwise_iff_getElem.mp hn;rcases Nat.lt_or_gt_of_ne hij with h | h
  ·exact λe=>by
    have:=hw i j (by simpa using hi) (by simpa using hj) h;simp only[List.getElem_map]at this;exact this e
  ·exact λe=>by
    have:=hw j i (by simpa using hj) (by simpa using hi) h;simp only[List.getElem_map]at this;exact this e.symm
 have hk:(es[i].1==es[j].1)=false:=by
  rw[beq_eq_false_iff_ne];intro e;exact hne (by rw[e])
 rw[hk];refine kat_no ?_;refine strKind_oneLt prog w A _ s _ _ es[i].1.cps.toList es[j].1.cps.toList rfl rfl ?_;have e:=gR (ks:=es.map λe=>e.1.cps.toList) (i:=i) (j:=j) (by simpa using hi) (by simpa using hj);have g1:(es.map λe=>e.1.cps.toList).getD i []=es[i].1.cps.toList:=by simp[List.getD_eq_getElem?_getD,hi]
 have g2:(es.map λe=>e.1.cps.toList).getD j []=es[j].1.cps.toList:=by simp[List.getD_eq_getElem?_getD,hj]
 rw[g1,g2]at e;rw[decide_eq_decide.mpr e]at hC;exact hC
theorem znL {es:List (Str×Addr)}{p:Array Nat}(hp:Pm es.length p):(p.toList.map λi=>(yV es).getD i Value.none)=yV (p.toList.map λi=>es.getD i (Str.empty,0)):=by
 unfold yV;rw[List.map_map];refine List.map_congr_left λi m=> ?_;have hi:i < es.length:=by
  have:=(Array.perm_iff_toList_perm.mp hp).mem_iff.mp m;simpa using this
 simp[List.getD_eq_getElem?_getD,hi]
theorem zlX {a:Addr}{es:List (Str×Addr)}{n:Nat}{P:Fin->Shared->Prop}(ho:s.heap.get? a=some (seqObj "list" (yV es).toArray n))
  (ht: ∀e∈es,lP s.heap e) (hna: ∀e∈es,e.2≠a) (hn:(es.map λe=>e.1.cps.toList).Nodup) (h64:es.length < 64)
  (h: ∀(p:Array Nat),Pm es.length p->((p.toList.map λi=>es.getD i (Str.empty,0)).Pairwise λa b=>a.1.cps.toList < b.1.cps.toList)->P (.done (.ret .none)) {s with heap:=sortedHeap s.heap a (yV es) (yV (p.toList.map λi=>es.getD i (Str.empty,0))).toArray}):
  wpAny (model prog w) A (Builtin.«list.sort» ⟨[.ref a],[]⟩) P E s:=by
 have hlen:(yV es).length=es.length:=by unfold yV;simp
 rw[list_sort_plain];have ha:a < s.heap.objs.size:=Heap.lt_size ho;refine wpAny_bind (listItems_at ho rfl ?_);refine wpAny_bind (listUpdate_at ho rfl ?_ (by rw[List.size_toArray,sizeLine_eq,hlen];omega) (Nat.zero_le _));obtain⟨e1,ho1⟩: ∃e1,(s.heap.update a (Obj.mapSeq λ_=> #[])).get? a=some (seqObj "list" #[] e1):=⟨_,get?_update_seq ho (λ_=> #[])⟩;refine wpAny_bind (seqEpoch_at ho1 rfl ?_);refine wpAny_bind (wpAny_newTuple ?_ (by show(yV es).length<=_;rw[sizeLine_eq,hlen];omega));refine wpAny_bind (wpAny_newList ?_ (Nat.zero_le _));refine wpAny_holding ?_;have keep: ∀b o,b≠a->s.heap.get? b=some o->(((s.heap.update a (Obj.mapSeq λ_=> #[])).push (seqObj "tuple" (yV es).toArray 0)).push (seqObj "list" #[] 0)).get? b=some o:=λb o hb q=>by
  refine Heap.get?_push_of_some _ (Heap.get?_push_of_some _ ?_);rw[Heap.get?_update_ne _ _ _ _ hb];exact q
 have ho6:(((s.heap.update a (Obj.mapSeq λ_=> #[])).push (seqObj "tuple" (yV es).toArray 0)).push (seqObj "list" #[] 0)).get? a=some (seqObj "list" #[] e1):=
  Heap.get?_push_of_some _ (Heap.get?_push_of_some _ ho1)
 show wpAny (model prog w) A _ P E {s with heap:=((s.heap.update a (Obj.mapSeq λ_=> #[])).push (seqObj "tuple" (yV es).toArray 0)).push (seqObj "list" #[] 0)};dsimp only;have hsz:(yV es).toArray.size=es.length:=by rw[List.size_toArray,hlen]
 by_cases h2:(yV es).toArray.size < 2
 ·rw[if_pos h2,if_pos h2]
  refine wpAny_bind (wpAny_pure ?_);rw[StateT.run_pure];refine wpAny_bind (wpAny_pure ?_);dsimp only;refine wpAny_bind (seqEpoch_at ho6 rfl ?_);have eo:Array.map (λx=>x.2) (arrOf (SortSt.mk' general' ((yV es).toArray.zip (yV es).toArray) #[] 7 none))=(yV es).toArray:=by
   show Array.map (λx=>x.2) ((yV es).toArray.zip (yV es).toArray)=_;apply Array.toList_inj.mp;simp[List.map_snd_zip]
  refine wpAny_bind (listUpdate_at ho6 rfl ?_ (Nat.zero_le _) (by show(Array.map (λx=>x.2) (arrOf (SortSt.mk' general' ((yV es).toArray.zip (yV es).toArray) #[] 7 none))).size<=_;rw[eo,hsz,sizeLine_eq];omega));simp only[bne_self_eq_false,Bool.false_eq_true,if_false];refine wpAny_pure ?_;have er:((List.range es.length).toArray.toList.map λi=>es.getD i (Str.empty,0))=es:=by
   apply List.ext_getElem
   ·simp
   ·intro i a b
    simp[List.getD_eq_getElem?_getD,b]
  have g:=h (List.range es.length).toArray (Array.Perm.refl _) (by
   rw[er,List.pairwise_iff_getElem];intro i j hi hj hij;omega)
  unfold sortedHeap at g;rw[er]at g;rw[eo];exact g
 ·rw[if_neg h2,if_neg h2]
  have h2':2<=es.length:=by omega
  have ht': ∀e∈es,lP (((s.heap.update a (Obj.mapSeq λ_=> #[])).push (seqObj "tuple" (yV es).toArray 0)).push (seqObj "list" #[] 0)) e:=λe m=>by
   obtain⟨t,x,hx⟩:=ht e m;exact⟨t,x,keep _ _ (hna e m) hx⟩
  obtain⟨fs,t1,t2,t3⟩:=zhF es ht';refine wpAny_bind (kat_kind (T:= .type "str") t1 (by omega) (λv m=> ?_) rfl ?_)
  ·obtain⟨x,t,rfl⟩:=t3 v m
   exact .now
  refine wpAny_bind (wpAny_mono (kat_run (ks:=yV es) (vs:=yV es) (Q:=λst' s'=>s'= {s with heap:=((s.heap.update a (Obj.mapSeq λ_=> #[])).push (seqObj "tuple" (yV es).toArray 0)).push (seqObj "list" #[] 0)} /\∃p:Array Nat,arrOf st'=p.map (kas_item ((yV es).toArray.zip (yV es).toArray))/\failedOf st'=none/\Pm es.length p/\Up (rM (es.map λe=>e.1.cps.toList)) p es.length)
   (G:=λp s'=>s'= {s with heap:=((s.heap.update a (Obj.mapSeq λ_=> #[])).push (seqObj "tuple" (yV es).toArray 0)).push (seqObj "list" #[] 0)} /\Pm es.length p/\Up (rM (es.map λe=>e.1.cps.toList)) p es.length)
   rfl (by omega) (by omega) (λp' st' s' a1 a2 a3 a4=>⟨a4.1,p',a2,a3,a4.2.1,a4.2.2⟩) ?_) ?_ λ_ _ e=>e)
  ·rw[hlen]
   exact zpY (ziV ht' hn) (by simpa using zpz hn) h2' λp' x y=>⟨rfl,x,y⟩
  rintro⟨⟨⟩,st'⟩ s' ⟨rfl,p,har,hf,hp,hu⟩;dsimp only;have hout:=kat_snds rfl har;rw[znL hp]at hout;have hperm:=zgq es (Str.empty,0) hp;refine wpAny_bind (seqEpoch_at ho6 rfl ?_);refine wpAny_bind (listUpdate_at ho6 rfl ?_ (Nat.zero_le _) (by
   rw[hout,List.size_toArray];unfold yV;rw[List.length_map,hperm.length_eq,sizeLine_eq];omega))
  rw[hf];simp only[bne_self_eq_false,Bool.false_eq_true,if_false];refine wpAny_pure ?_;have g:=h p hp (zoI es (Str.empty,0) (λe=>e.1.cps.toList) hp hu);unfold sortedHeap at g;rw[hout];exact g
end
end L2
namespace L2
open PySem PySem.Spec PyProof.Rows PySem.W
section
variable {X:Cx} {pins:List (Addr×Obj)} {σ:St} {H H':Hp} {s:Shared} {h':Heap}
theorem z5.laidM {t':Nat}(I:z5 X pins σ H s)(k: ∀b u,s.heap.get? b=some u->h'.get? b=some u)(keepH: ∀b o,H b=some o->H' b=some o)(free: ∀b o,s.heap.get? b=some o->H b=none->H' b=none)
  (new: ∀b o,H b=none->H' b=some o->xX X.prog X.w H' h' b o):z5 X pins σ H' {s with heap:=h',toks:=t'} :=by
 refine I.un ⟨λb u q _ _ _=>k b u q,λb u q _ _ _=>⟨u.slots,k b u q⟩,λb u q n _=>free b u q n,λb u q _=>⟨u,k b u q⟩,λb xs q=>keepH b _ q,λb o u q=>keepH b _ q,λb ps q=>⟨#[],by rw[keepH b _ q];simp⟩⟩ ?_;intro b o e;cases hb:H b with
 | some u=>
  have e2:=keepH b u hb;rw[e2]at e;cases e;exact(I.hok b _ hb).stay (λc v _ q=>k c v q) (λc q=>keepH c _ q) λc xs q=>keepH c _ q
 | none=>exact new b o hb e
def pU (v d:Addr):HO:= .ext λh=>h.IsItemsView v d
theorem zm2:tI X "dict.items" (λx ys H Q=> ∃(d:Addr) (kvs:List (zA×V)),x= .ref d/\ys= []/\H d=some (.dK kvs)/\∀v,H v=none->Q (.ref v) (zQ H v (pU v d))):=by
 intro pins s σ H x ys v us Q I rx r h;obtain⟨d,kvs,rfl,rfl,hd,q⟩:=h;cases r;cases rx;obtain⟨hz,hsys,vs,kv,dd⟩:=pK I.hok hd;refine call_meetsIn PySem.F.slot_dict_items dd.typeIs PySem.F.entry_dict_items (PySem.F.args_dict_items_1 _) (meets_dict_items (yW X.prog X.w) d hsys) ⟨⟨vs,dd⟩,?_⟩;refine⟨.ref s.heap.objs.size,_,I.laid (t':=s.toks) (o:=pU s.heap.objs.size d) (λb o e=>Heap.get?_push_of_some _ e) (Nat.le_refl _) ⟨⟨_,Heap.get?_push_size _ rfl,rfl,rfl⟩,⟨_,Heap.get?_push_size _ rfl⟩,?_⟩,rfl,q _ I.fresh⟩;rintro h1 h2 ⟨o,e1,e2,e3⟩ kk;exact⟨o,kk o e1,e2,e3⟩
def p4 (ss:List (Str×V)):List (zA×V):=ss.map λq=>(Sum.inr q.1,q.2)
def lA (as:List Addr)(ss:List (Str×V))(b:Addr):Option HO:=((as.zip ss).find? λq=>decide (q.1=b)).map λq=>HO.tup [.str q.2.1,q.2.2]
def rB (H:Hp)(as:List Addr)(ss:List (Str×V))(L:Addr)(out:List Addr):Hp:=λb=>if b=L then some (.lst (out.map V.ref))else(lA as ss b).or (H b)
theorem zcr {as:List Addr}{ss:List (Str×V)}{b:Addr}(h: ¬ b∈as):lA as ss b=none:=by
 unfold lA;rw[Option.map_eq_none_iff,List.find?_eq_none];intro q hq e;have:q.1=b:=by simpa using e
 exact h (this▸(List.of_mem_zip (a:=q.1) (b:=q.2) hq).1)
theorem zhE: ∀{as:List Addr} {ss:List (Str×V)} {i:Nat} (hi:i < as.length) (hl:as.length=ss.length),as.Pairwise (· < ·)->lA as ss as[i]=some (.tup [.str (ss[i]'(by omega)).1,(ss[i]'(by omega)).2])
 | [],_,i,hi,_,_=>absurd hi (by simp)
 | a::as,[],i,hi,hl,_=>by simp at hl
 | a::as,q::ss,0,hi,hl,_=>by
  unfold lA;simp
 | a::as,q::ss,i+1,hi,hl,hw=>by
  have hi':i < as.length:=by simpa using hi
  have hw':=List.pairwise_cons.mp hw;have hne: ¬ a=as[i]:=Nat.ne_of_lt (hw'.1 _ (List.getElem_mem hi'));have ih:=zhE (as:=as) (ss:=ss) (i:=i) hi' (by simpa using hl) hw'.2;unfold lA at ih⊢
  simp only[List.getElem_cons_succ,List.zip_cons_cons,List.find?_cons];rw[decide_eq_false hne];exact ih
theorem zlD {P:Program}{w:World}{x:Str}{u:Value}(h:(yW P w).is (Sum.inr x) u=true): ∃t,u= .str x t:=by
 have h':sP (Sum.inr x) u=true:=h;rcases vO h' with⟨i,t,e,rfl⟩ | ⟨z',t,e,rfl⟩
 ·cases e
 ·cases e;exact⟨t,rfl⟩
theorem zfu: ∀{kvs:List (zA×V)} {vs:List (zA×Value)} {i:Nat} {k:zA} {x:Value},KV kvs vs->vs[i]?=some (k,x)->∃y,kvs[i]?=some (k,y)/\zU y x
 | _,_,_,_,_,.nil,e=>by simp at e
 | (k',y)::_,(k2,x2)::_,0,k,x,.cons r _,e=>by
  simp at e;obtain⟨rfl,rfl⟩:=e;obtain⟨e1,e2⟩:=r;dsimp only at e1 e2;subst e1;exact⟨y,rfl,e2⟩
 | _,_,i+1,k,x,.cons _ t,e=>by
  obtain⟨y,h1,h2⟩:=zfu (i:=i) t (by simpa using e);exact⟨y,by simpa using h1,h2⟩
theorem zbv {α β γ:Type}{R:β->γ->Prop}{f:α->β}{g:α->γ} : ∀l:List α,(∀i∈l,R (f i) (g i))->Paired R (l.map f) (l.map g)
 | [],_=> .nil
 | a::l,h=> .cons (h a (.head _)) (zbv l λi m=>h i (.tail _ m))
def wL (ss:List (Str×V))(as:List Addr):List (Str×Addr):=ss.zipWith (λq a=>(q.1,a)) as
theorem zkd {ss:List (Str×V)}{as:List Addr}(hl:as.length=ss.length):(wL ss as).length=ss.length:=by unfold wL;simp[hl]
theorem zdL: ∀{ss:List (Str×V)} {as:List Addr},as.length=ss.length->yV (wL ss as)=as.map Value.ref
 | [],[],_=>rfl
 | _::_,[],h=>by simp at h
 | [],_::_,h=>by simp at h
 | q::ss,a::as,h=>by
  have ih:=zdL (ss:=ss) (as:=as) (by simpa using h);unfold yV wL at ih⊢
  simp only[List.zipWith_cons_cons,List.map_cons,ih]
theorem zdK: ∀{ss:List (Str×V)} {as:List Addr},as.length=ss.length->(wL ss as).map (λe=>e.1.cps.toList)=ss.map λq=>q.1.cps.toList
 | [],[],_=>rfl
 | _::_,[],h=>by simp at h
 | [],_::_,h=>by simp at h
 | q::ss,a::as,h=>by
  have ih:=zdK (ss:=ss) (as:=as) (by simpa using h);unfold wL at ih⊢
  simp only[List.zipWith_cons_cons,List.map_cons,ih]
theorem dJ {ss:List (Str×V)}{as:List Addr}(hl:as.length=ss.length){i:Nat}(hi:i < ss.length):(wL ss as).getD i (Str.empty,0)=((ss.getD i (Str.empty,V.non)).1,as.getD i 0):=by
 have h1:i < as.length:=by omega
 unfold wL;simp[List.getD_eq_getElem?_getD,List.getElem?_zipWith,hi,h1]
theorem zj2 (hc:X.calm=true):xB X (.builtin "sorted") (λxs H Q=> ∃(v d:Addr) (ss:List (Str×V)),xs= [.ref v]/\H v=some (pU v d)/\H d=some (.dK (p4 ss))/\ss.length < 64/\
  ∀(L:Addr) (as:List Addr) (ss':List (Str×V)) (H':Hp),ss'.Perm ss->(ss'.Pairwise λa b=>a.1.cps.toList < b.1.cps.toList)->H L=none->H' L=some (.lst (as.map V.ref))->
   Paired (λa (q:Str×V)=>H' a=some (.tup [.str q.1,q.2])) as ss'->(∀b,H b≠none->H' b=H b)->Q (.ref L) H'):=by
 intro pins s σ H xs us Q I r h;obtain⟨v,d,ss,rfl,hv,hd,h64,q⟩:=h;obtain⟨u,rfl,ru⟩:=vK r;cases ru;obtain⟨hz,hsys,vs,kv,dd⟩:=pK I.hok hd;have hl0:=kP kv;have hlen:ss.length=vs.length:=by rw[<- hl0];unfold p4;rw[List.length_map]
 obtain⟨o,es0,ep,e1,e2,e3,e4,e5,e6⟩:=id dd;have hview:s.heap.IsItemsView v d:=(I.hok v _ hv).1;refine Calls.call_function_entry kind_sorted plain_sorted entry_sorted (args_sorted1 _) ?_;unfold Builtin.«sorted»;refine wpAny_bind (m:=checkCount "sorted" 1 1 _) (wpAny_pure ?_);refine wpAny_bind (kdx_collect (A:=X.A.in1) (knd:=yW X.prog X.w) (kvs:=vs) (ep:=ep) (I.ok.hd hc) hview ⟨o,es0,e1,e2,e3,e4,e5,e6⟩ (by rw[<- hl0];exact hz) λh' tk as hk hl hG=> ?_);have hal:as.length=ss.length:=by omega
 have hkeys:ss.map (·.1) |>.Nodup:=by
  have e7:=kv.keys;rw[<- e7]at e6;unfold p4 at e6;rw[List.map_map]at e6;have e8:(ss.map (·.1)).map (Sum.inr:Str->zA)=ss.map ((λx=>x.1) ∘ λq:Str×V=>((Sum.inr q.1:zA),q.2)):=by rw[List.map_map];rfl
  rw[<- e8]at e6;exact List.Pairwise.of_map (R:=λa b=>a≠b) _ (λa b hab e=>hab (by rw[e])) e6
 have hR:=zdL hal;have hE:=zkd hal;have hnk:((wL ss as).map λe=>e.1.cps.toList).Nodup:=by
  rw[zdK hal];have e9:(ss.map λq=>q.1.cps.toList)=(ss.map (·.1)).map λk:Str=>k.cps.toList:=by rw[List.map_map];rfl
  rw[e9];refine List.Pairwise.map _ (λa b hab e=>hab ?_) hkeys;cases a;cases b;simp only at e;rw[Array.toList_inj.mp e]
 have I1:z5 X pins σ H {s with heap:=h',toks:=tk} :=I.kept hk;refine wpAny_bind (wpAny_newList ?_ (by rw[List.length_map,hl,<- hl0];exact hz));have hoL:(h'.push {cls:= .type "list",data:= .seq (as.map Value.ref).toArray}).get? h'.objs.size=some (seqObj "list" (yV (wL ss as)).toArray 0):=by
  rw[hR];exact Heap.get?_push_size _ rfl
 have entry: ∀e∈wL ss as,∃i,∃(hi:i < ss.length),e=(ss[i].1,as[i]'(by omega)):=λe m=>by
  obtain⟨i,hi,rfl⟩:=List.getElem_of_mem m;have hi':i < ss.length:=by rw[<- hE];exact hi
  have hi2:i < as.length:=by omega
  have e0:(wL ss as)[i]?=some (ss[i].1,as[i]):=by
   unfold wL;simp[List.getElem?_zipWith,hi',hi2]
  exact⟨i,hi',(List.getElem?_eq_some_iff.mp e0).2⟩
 have pair: ∀i (hi:i < ss.length),∃t x,zU ss[i].2 x/\h'.get? (as[i]'(by omega))=some ({cls:= .type "tuple",data:= .seq #[.str ss[i].1 t,x]} :Obj):=λi hi=>by
  obtain⟨key,k,x,g1,g2,g3⟩:=hG.pairs i (as[i]'(by omega)) (List.getElem?_eq_getElem (by omega));obtain⟨y,g4,g5⟩:=zfu kv g1;unfold p4 at g4;rw[List.getElem?_map,List.getElem?_eq_getElem hi]at g4;simp only[Option.map_some,Option.some.injEq,Prod.mk.injEq]at g4;obtain⟨rfl,rfl⟩:=g4;obtain⟨t,rfl⟩:=zlD g2;exact⟨t,x,g5,g3⟩
 have ht: ∀e∈wL ss as,lP (h'.push {cls:= .type "list",data:= .seq (as.map Value.ref).toArray}) e:=λe m=>by
  obtain⟨i,hi,rfl⟩:=entry e m;obtain⟨t,x,_,g⟩:=pair i hi;exact⟨t,x,Heap.get?_push_of_some _ g⟩
 have hna: ∀e∈wL ss as,e.2≠h'.objs.size:=λe m=>by
  obtain⟨i,hi,rfl⟩:=entry e m;obtain⟨t,x,_,g⟩:=pair i hi;exact Nat.ne_of_lt (Heap.lt_size g)
 refine wpAny_bind (wpAny_holding (wpAny_call_entry slot_list_sort ⟨_,hoL,rfl⟩ entry_list_sort (zlX (n:=0) hoL ht hna hnk (by omega) λp hp hpw=>⟨_,rfl,?_⟩) (args_list_sort _)));rw[hE]at hp;have inb: ∀i∈p.toList,i < ss.length:=λi m=>by
  have:=(Array.perm_iff_toList_perm.mp hp).mem_iff.mp m;simpa using this
 have asl: ∀b∈as,s.heap.objs.size < b/\b < h'.objs.size:=λb m=>⟨hG.above b m,hG.there m⟩;have keepH: ∀b o,H b=some o->rB H as ss h'.objs.size (p.toList.map λi=>as.getD i 0) b=some o:=λb o e=>by
  have b1:b < s.heap.objs.size:=(I.hok b o e).lt;have b2:b < h'.objs.size:=(I1.hok b o e).lt;unfold rB;rw[if_neg (Nat.ne_of_lt b2),zcr λm=>absurd (asl b m).1 (Nat.not_lt.mpr (Nat.le_of_lt b1))];exact e
 have tupH: ∀i (hi:i < ss.length),rB H as ss h'.objs.size (p.toList.map λi=>as.getD i 0) (as[i]'(by omega))=some (.tup [.str ss[i].1,ss[i].2]):=λi hi=>by
  unfold rB;rw[if_neg (Nat.ne_of_lt (asl _ (List.getElem_mem _)).2),zhE (by omega) hal hG.rise]
  rfl
 have hLn:H h'.objs.size=none:=I1.hok.fresh (Nat.le_refl _);have hoS: ∀b o,b≠h'.objs.size->h'.get? b=some o->(sortedHeap (h'.push {cls:= .type "list",data:= .seq (as.map Value.ref).toArray}) h'.objs.size (yV (wL ss as)) (yV (p.toList.map λi=>(wL ss as).getD i (Str.empty,0))).toArray).get? b=some o:=λb o hb e=>by
  rw[sortedHeap_old hb (Heap.lt_size (Heap.get?_push_of_some _ e))];exact Heap.get?_push_of_some _ e
 have hout:yV (p.toList.map λi=>(wL ss as).getD i (Str.empty,0))=(p.toList.map λi=>as.getD i 0).map Value.ref:=by
  unfold yV;rw[List.map_map,List.map_map];exact List.map_congr_left λi m=>by
   show Value.ref ((wL ss as).getD i (Str.empty,0)).2=_;rw[dJ hal (inb i m)]
   rfl
 refine wpAny_pure ⟨_,rfl,.ref h'.objs.size,rB H as ss h'.objs.size (p.toList.map λi=>as.getD i 0),I.laidM (t':=tk) (λb u e=>hoS b u (Nat.ne_of_lt (Heap.lt_size (hk b u e))) (hk b u e)) keepH (λb o e n=> ?_) (λb o n e=> ?_),rfl,
  q _ (p.toList.map λi=>as.getD i 0) (p.toList.map λi=>ss.getD i (Str.empty,V.non)) _ (zgq ss _ hp) ?_ hLn ?_ (zbv _ λi m=> ?_) λb hb=> ?_⟩
 ·unfold rB
  rw[if_neg (Nat.ne_of_lt (Heap.lt_size (hk b o e))),zcr λm=>absurd (asl b m).1 (Nat.not_lt.mpr (Nat.le_of_lt (Heap.lt_size e)))];exact n
 ·by_cases hb:b=h'.objs.size
  ·subst hb
   unfold rB at e;rw[if_pos rfl]at e;cases e;obtain⟨c,hc'⟩:=sortedHeap_at (out:=(yV (p.toList.map λi=>(wL ss as).getD i (Str.empty,0))).toArray) hoL;refine⟨?_,(p.toList.map λi=>as.getD i 0).map Value.ref,c,?_,?_⟩
   ·rw[List.length_map,List.length_map,Array.length_toList,hp.size]
    rw[sizeLine_eq];omega
   ·exact zbv _ λi _=>rfl
   ·rw[<- hout];exact hc'
  ·have e':=e
   unfold rB at e';rw[if_neg hb,n]at e';by_cases m:b∈as
   ·obtain⟨i,hi,rfl⟩:=List.getElem_of_mem m
    have hi':i < ss.length:=by omega
    rw[tupH i hi']at e;cases e;obtain⟨t,x,g1,g2⟩:=pair i hi';exact⟨by rw[sizeLine_eq];simp,[.str ss[i].1 t,x],.cons ⟨t,rfl⟩ (.cons g1 .nil),_,hoS _ _ hb g2,rfl,_,rfl,rfl⟩
   ·rw[zcr m]at e'
    cases e'
 ·rw[List.pairwise_map]at hpw⊢
  refine List.Pairwise.imp_of_mem (λ{i j} mi mj hij=> ?_) hpw;rw[dJ hal (inb i mi),dJ hal (inb j mj)]at hij;exact hij
 ·unfold rB;rw[if_pos rfl]
 ·have hi:=inb i m
  have hi2:i < as.length:=by omega
  have g1:as.getD i 0=as[i]:=by simp[List.getD_eq_getElem?_getD,hi2]
  have g2:ss.getD i (Str.empty,V.non)=ss[i]:=by simp[List.getD_eq_getElem?_getD,hi]
  rw[g1,g2];exact tupH i hi
 ·cases hb':H b with
  | none=>exact absurd hb' hb
  | some o=>exact keepH b o hb'
end
end L2
namespace L2
open PySem PySem.Spec PyProof.Rows PySem.W
section
variable {X:Cx}
theorem zdr (hc:X.calm=true):xB X (.type "list") (λxs H Q=> ∃(d:Addr) (kvs:List (zA×V)),xs= [.ref d]/\H d=some (.dK kvs)/\∀p,H p=none->Q (.ref p) (zQ H p (.lst (kvs.map λq=>kV q.1)))):=by
 intro pins s σ H xs us Q I r h;obtain⟨d,kvs,rfl,hd,q⟩:=h;obtain⟨u,rfl,ru⟩:=vK r;cases ru;obtain⟨hz,hsys,vs,kv,dd⟩:=pK I.hok hd;have hl:=kP kv;obtain⟨o,es0,ep,e1,e2,e3,e4,e5,e6⟩:=id dd;refine kdl_call (kdl_dict (knd:=yW X.prog X.w) (kvs:=vs) (ep:=ep) hsys) (I.ok.hd hc) ⟨o,es0,e1,e2,e3,e4,e5,e6⟩ (by rw[<- hl];exact hz) λh' tk acc c k1 k2 hacc=> ?_;refine⟨.ref s.heap.objs.size,_,I.laid (t':=tk) (o:= .lst (kvs.map λq=>kV q.1)) k1 (Nat.le_refl _) ⟨by rw[List.length_map];exact hz,acc.toList,c,zc1 ?_ λj v x hv hx=> ?_,?_⟩,rfl,q _ I.fresh⟩
 ·rw[List.length_map,hl];exact hacc.1.symm.trans (Array.length_toList).symm
 ·obtain⟨k,y,e1,e2⟩:=hacc.2 j v (by simpa using hv)
  obtain⟨z,e3⟩:=zbc kv e1;rw[List.getElem?_map,e3]at hx;have e4:kV k=x:=Option.some.inj hx;subst e4;rcases vO e2 with⟨i,t,rfl,rfl⟩ | ⟨z',t,rfl,rfl⟩
  ·exact⟨t,rfl⟩
  ·exact⟨t,rfl⟩
 ·rw[Array.toArray_toList];exact k2
end
end L2
namespace L2
open PySem PySem.Spec PyProof.Rows PySem.W
section
variable {prog:Program} {w:World} {A:Around} {E:Value->Shared->Prop} {s:Shared}
theorem zq8:typeLookup (.type "tuple") "keys" =pure none:=by rw[typeLookup_type,builtinLookup_eq_fast];kernel_rfl
theorem zlI {a:Addr}{xs:Array Value}{k:Nat}{sl:Array (Option Value)}{u:Tok}{Q:Value->Shared->Prop}
  (hx:s.heap.get? a=some {cls:= .type "tuple",dict:=none,data:= .seq xs k,slots:=sl}) (hA:A.handled=none)
  (h: ∀h' tk e,Heap.NewExcOf s.heap h' e "AttributeError" ->E (.ref e) {s with heap:=h',toks:=tk}):
  wpAny (model prog w) A (getAttrBy (.ref a) (.str "keys" u) false) Q E s:=by
 obtain⟨hp,g,d,tk,os⟩:=s;have hT: ∀tk',(⟨hp,g,d,tk',os⟩:Shared).TypeIs (.ref a) "tuple" :=λ_=>⟨_,hx,rfl⟩;have f1:=sub_AttributeError;have f3:=F.slot_tuple_getattribute.lookup;have f4:=F.slot_tuple_getattribute.bind (.ref a);have f5:=am_tuple_getattr_none;unfold getAttrBy
 repeat(any_goals (first | assumption | exact hT _ | ((with_reducible show wpAny _ _ (call (Value.builtin "tuple.__getattribute__") _ _) _ _ _);refine call_meets F.slot_tuple_getattribute (hT _) am_entry_tuple_getattribute (F.args_tuple_getattribute_2 _ _) (meets_getattribute_miss_tuple a xs k sl "keys" _ zq8 (by decide+kernel) (by size_fits)) ⟨hx,hA,λh' tk' e hx'=> ?_⟩) | wp_step))
 obtain⟨t',u',he⟩:=hx'.there;show wpAny _ _ (getattributeRaised _ _ _ _ _ _ _) _ _ _;unfold getattributeRaised
 repeat(any_goals (first | assumption | wp_step))
 exact h _ _ _ hx'.of
theorem zlJ {a:Addr}{xs:Array Value}{k:Nat}{sl:Array (Option Value)}{Q:Option Value->Shared->Prop}
  (hx:s.heap.get? a=some {cls:= .type "tuple",dict:=none,data:= .seq xs k,slots:=sl}) (hA:A.handled=none)
  (h: ∀h' tk,(∀b o,s.heap.get? b=some o->h'.get? b=some o)->Q none {s with heap:=h',toks:=tk}):
  wpAny (model prog w) A (getAttr? (.ref a) "keys") Q E s:=by
 unfold getAttr? getAttrBy?;refine wpAny_bind (wpAny_mkText ?_);refine wpAny_bind (wpAny_attempt ?_);refine zlI hx hA λh' tk e x=> ?_;obtain⟨o,xs',he,hc,_⟩:=x.there;refine wpAny_bind (wpAny_isInstance (T:= "AttributeError") ⟨_,he,hc⟩ sub_AttributeError ?_);rw[if_pos rfl];exact wpAny_pure (h h' tk x.keeps)
end
end L2
namespace L2
open PySem PySem.Spec PyProof.Rows PySem.W
theorem zdJ:entryFor table "dict.update.loop" =some Builtin.«dict.update.loop»:=entryFor_of_tree (by kernel_rfl)
theorem gF:plainId "dict.update.loop" =true:=by decide+kernel
section
variable {prog:Program} {w:World} {A:Around} {E:Value->Shared->Prop} {s:Shared}
theorem znO {b:Addr}{key x:Value}{Q:List Value->Shared->Prop}(hb:IsTup s.heap b #[key,x])(h:Q [key,x] s):wpAny (model prog w) A (Builtin.Dict.pairItems (.ref b)) Q E s:=by
 obtain⟨o,ho,hc,n,hd⟩:=hb;unfold Builtin.Dict.pairItems;refine wpAny_bind (wpAny_typeOf (T:= "tuple") ⟨_,ho,hc⟩ ?_);rw[if_pos (by decide)];exact wpAny_bind (wpAny_seqItems ho hd (wpAny_pure h))
theorem zcq {h h':Heap}{b:Addr}{xs:Array Value}(x:IsTup h b xs)(k: ∀o,h.get? b=some o->h'.get? b=some o):IsTup h' b xs:=let⟨o,ho,r⟩:=x;⟨o,k o ho,r⟩
theorem zd1 {K:Type}[DecidableEq K]{knd:KeyKind prog w K}{D I t:Addr}{items:Array Value}{res:Value}{R:Result->Shared->Prop}(hh:A.handled=none)(hIt:I≠t)(hDt:D≠t)(hDI:D≠I):
  ∀(zB:List (K×Addr×Value)) (i:Nat) (kvs:List (K×Value)) (z:Int) (tok:Tok) (s:Shared),IsTupIter s.heap I t i->IsTup s.heap t items->s.heap.DictOf knd D kvs->
   items.toList.drop i=zB.map (λq=>Value.ref q.2.1)->(∀q∈zB,(∃key,knd.is q.1 key=true/\IsTup s.heap q.2.1 #[key,q.2.2])/\q.2.1≠I/\q.2.1≠D)->kvs.length+zB.length<=sizeLine->
   (∀h' tk,h'.DictOf knd D (merged kvs (zB.map λq=>(q.1,q.2.2)))->(∀b o,b≠I->b≠D->s.heap.get? b=some o->h'.get? b=some o)->R (.ok (.ret res)) {s with heap:=h',toks:=tk})->
   codeAny (model prog w) A (.builtin "dict.update.loop" ⟨[.ref D,.ref I,.int z tok,res],[]⟩) R s
 | [],i,kvs,z,tok,s,hit,ht,hm,hd,hq,hsz,h=>by
  refine codeAny_builtin zdJ ?_;rw[Around.under_plainId gF _];have hx:items[i]?=none:=by
   rw[<- Array.getElem?_toList];have:items.toList.length<=i:=List.drop_eq_nil_iff.mp hd;exact List.getElem?_eq_none_iff.mpr this
  show wpAny _ A.in1 (pyNext (.ref I) >>= _) _ _ _;refine wpAny_bind (next_tuple_end (A:=A.in1) hh hit ht hx λh1 k1=> ?_);show wpAny _ A.in1 (Builtin.Dict.addKeywords D [] >>= λ_=>ret res) _ _ _;refine wpAny_bind (wpAny_pure (wpAny_pure ?_));exact h h1 s.toks (hm.at λo e=>k1 D o hDI e) λb o b1 _ e=>k1 b o b1 e
 | q::zB,i,kvs,z,tok,s,hit,ht,hm,hd,hq,hsz,h=>by
  refine codeAny_builtin zdJ ?_;rw[Around.under_plainId gF _];obtain⟨⟨key,hk,hb⟩,hbI,hbD⟩:=hq q (.head _);have hx:items[i]?=some (Value.ref q.2.1):=by
   rw[<- Array.getElem?_toList];have:=congrArg (λl=>l[0]?) hd;simpa using this
  have hd':items.toList.drop (i+1)=zB.map (λq=>Value.ref q.2.1):=by
   have:=congrArg List.tail hd;simpa using this
  show wpAny _ A.in1 (pyNext (.ref I) >>= _) _ _ _;refine wpAny_bind (next_tuple_item (A:=A.in1) hit ht hx λh1 it1 sb1=> ?_);have hb1:IsTup h1 q.2.1 #[key,q.2.2]:=zcq hb λo e=>(sb1.2 _ hbI).trans e;have hm1:h1.DictOf knd D kvs:=hm.at λo e=>(sb1.2 D hDI).trans e;dsimp only;refine wpAny_bind (wpAny_holding ?_);refine wpAny_bind (wpAny_tryCatch (znO (s:= {s with heap:=h1}) hb1 ?_));dsimp only;refine wpAny_holding (wpAny_dictSet_pairs (s:= {s with heap:=h1}) hk hm1 (λh2 hm2 sb2=> ?_) (by have:=hsz;simp only[List.length_cons]at this;omega));refine wpAny_pure ⟨plainId_quiet gF _,?_⟩;have hlen:(stored kvs q.1 q.2.2).length<=kvs.length+1:=by
   unfold stored
   split <;> simp
  refine zd1 hh hIt hDt hDI zB (i+1) (stored kvs q.1 q.2.2) _ _ _ (let⟨o,ho,r⟩:=it1;⟨o,(sb2.2 I (Ne.symm hDI)).trans ho,r⟩) ?_ hm2 hd' (λq' m=> ?_) (by simp only[List.length_cons]at hsz;omega) λh' tk a b=> ?_
  ·obtain⟨o,ho,r⟩:=ht
   exact⟨o,(sb2.2 t (Ne.symm hDt)).trans ((sb1.2 t (Ne.symm hIt)).trans ho),r⟩
  ·obtain⟨⟨key',hk',hb'⟩,hbI',hbD'⟩:=hq q' (.tail _ m)
   exact⟨⟨key',hk',zcq hb' λo e=>(sb2.2 _ hbD').trans ((sb1.2 _ hbI').trans e)⟩,hbI',hbD'⟩
  ·refine h h' tk a λc o c1 c2 e=>b c o c1 c2 ((sb2.2 c c2).trans ((sb1.2 c c1).trans e))
theorem zjt {K:Type}[DecidableEq K]{knd:KeyKind prog w K}{t:Addr}{n:Nat}{sl:Array (Option Value)}{zB:List (K×Addr×Value)}{Q:Value->Shared->Prop}(hh:A.handled=none)
  (ht:s.heap.get? t=some {cls:= .type "tuple",dict:=none,data:= .seq (zB.map λq=>Value.ref q.2.1).toArray n,slots:=sl})
  (hq: ∀q∈zB,∃key,knd.is q.1 key=true/\IsTup s.heap q.2.1 #[key,q.2.2]) (hsz:zB.length<=sizeLine)
  (h: ∀h' tk,h'.DictOf knd s.heap.objs.size (merged [] (zB.map λq=>(q.1,q.2.2)))->(∀b o,s.heap.get? b=some o->h'.get? b=some o)->Q (.ref s.heap.objs.size) {s with heap:=h',toks:=tk}):
  wpAny (model prog w) A (call (.type "dict") [.ref t]) Q E s:=by
 refine callType_codes (Q₁:=λobj s₁=>obj= .ref s.heap.objs.size/\s₁= {s with heap:=s.heap.push {cls:= .type "dict",data:= .dict #[]}}) F.kt_called_dict (F.kt_typeCall_dict_1 _) F.entry_dict_init (kt_code_dict_new _ ⟨rfl,rfl⟩) ?_;rintro obj s₁ ⟨rfl,rfl⟩;have hnew:(s.heap.push {cls:= .type "dict",data:= .dict #[]}).DictOf knd s.heap.objs.size []:=Heap.DictOf.new s.heap;have ht1:(s.heap.push {cls:= .type "dict",data:= .dict #[]}).get? t=some {cls:= .type "tuple",dict:=none,data:= .seq (zB.map λq=>Value.ref q.2.1).toArray n,slots:=sl} :=Heap.get?_push_of_some _ ht;refine⟨hnew.typeIs,F.args_dict_init_2 _ _,?_⟩;unfold Builtin.«dict.__init__»;refine wpAny_bind ?_;unfold Builtin.Dict.selfAndRest;refine wpAny_bind (wpAny_notOrdered_dict hnew.typeIs ?_);show wpAny _ _ (pure (s.heap.objs.size,[Value.ref t])) _ _ _;refine wpAny_pure ?_;show wpAny _ _ (Builtin.Dict.updateFrom "dict.__init__" s.heap.objs.size (.ref t) [] .none) _ _ _;unfold Builtin.Dict.updateFrom;refine wpAny_bind (wpAny_typeOf (T:= "tuple") ⟨_,ht1,rfl⟩ ?_);rw[if_pos (by decide)];refine wpAny_bind (zlJ ht1 hh λh1 tk k1=> ?_);rw[if_pos (show(none:Option Value).isNone=true from rfl)];refine wpAny_bind (wpAny_rule ?_);have ht2:=k1 _ _ ht1;have hD1:h1.DictOf knd s.heap.objs.size []:=hnew.at λo e=>k1 _ o e;refine wpAny_bind (iter_tuple (s:= {s with heap:=h1,toks:=tk}) ⟨_,ht2,rfl,_,rfl⟩ ?_);have lD:s.heap.objs.size < h1.objs.size:=by obtain⟨o,es,ep,ho,_⟩:=id hD1;exact Heap.lt_size ho
 have lt:t < s.heap.objs.size:=Heap.lt_size ht;refine wpAny_pure ⟨plainId_quiet gF _,?_⟩;refine zd1 (A:=A.in1) (knd:=knd) (t:=t) (items:=(zB.map λq=>Value.ref q.2.1).toArray) hh (Nat.ne_of_gt (Nat.lt_trans lt lD)) (Nat.ne_of_gt lt) (Nat.ne_of_lt lD) zB 0 [] _ _ {s with heap:=h1.push {cls:= .type "tuple_iterator",data:= .fields #[.ref t,.int 0 0]},toks:=tk} ⟨_,Heap.get?_push_size _ rfl,rfl,rfl⟩ ⟨_,Heap.get?_push_of_some _ ht2,rfl,_,rfl⟩ (hD1.push _) (by simp) (λq m=> ?_) (by simpa using hsz) λh' tk' a b=> ?_
 ·obtain⟨key,hk,hb⟩:=hq q m
  have lb:q.2.1 < s.heap.objs.size:=hb.lt;exact⟨⟨key,hk,zcq hb λo e=>Heap.get?_push_of_some _ (k1 _ _ (Heap.get?_push_of_some _ e))⟩,Nat.ne_of_lt (Nat.lt_trans lb lD),Nat.ne_of_lt lb⟩
 ·refine⟨rfl,h h' tk' a λc o e=> ?_⟩
  have lc:=Heap.lt_size e;exact b c o (Nat.ne_of_lt (Nat.lt_trans lc lD)) (Nat.ne_of_lt lc) (Heap.get?_push_of_some _ (k1 _ _ (Heap.get?_push_of_some _ e)))
end
end L2
namespace L2
open PySem PySem.Spec PyProof.Rows PySem.W
section
variable {X:Cx} {pins:List (Addr×Obj)} {σ:St} {H:Hp} {s:Shared}
def eK (K:Frag)(H:Hp):List Addr->List (zA×V)->Prop:=Paired λa (q:zA×V)=>x4 K H a [kV q.1,q.2]
theorem zgD: ∀{as:List Addr} {its:List Value},zR (as.map V.ref) its->its=as.map Value.ref
 | [],_,.nil=>rfl
 | a::as,_,.cons r t=>by
  cases r;rw[zgD t];rfl
theorem zgG {pins:List (Addr×Obj)}{σ:St}(ok:z5 X pins σ H s): ∀{as:List Addr} {ps:List (zA×V)},eK X.K H as ps->
  ∃zB:List (zA×Addr×Value),zB.map (·.2.1)=as/\KV ps (zB.map λq=>(q.1,q.2.2))/\∀q∈zB,∃key,(yW X.prog X.w).is q.1 key=true/\IsTup s.heap q.2.1 #[key,q.2.2]
 | _,_,.nil=>⟨[],rfl,.nil,λ_ m=>nomatch m⟩
 | a::as,q::ps,.cons e t=>by
  obtain⟨zB,r1,r2,r3⟩:=zgG ok t;obtain⟨its,rv,tp,_⟩:=ok.tuple e;obtain⟨u1,u2,rfl,g1,g2⟩:=rv.two;refine⟨(q.1,a,u2)::zB,by rw[List.map_cons,r1],.cons ⟨rfl,g2⟩ r2,λq' m=> ?_⟩;rcases List.mem_cons.mp m with rfl | m
  ·exact⟨u1,q5 g1,tp⟩
  ·exact r3 q' m
theorem zdp (hc:X.calm=true):xB X (.type "dict") (λxs H Q=> ∃(t:Addr) (as:List Addr) (ps:List (zA×V)),xs= [.ref t]/\x4 X.K H t (as.map V.ref)/\eK X.K H as ps/\∀p,H p=none->Q (.ref p) (zQ H p (.dK (rF [] ps)))):=by
 intro pins s σ H xs us Q I r h;obtain⟨t,as,ps,rfl,ht,hp,q⟩:=h;obtain⟨u,rfl,ru⟩:=vK r;cases ru;obtain⟨its,rv,⟨o,e1,e3,n,e4,hd⟩,hz⟩:=I.tupleD ht;cases zgD rv;obtain⟨zB,r1,r2,r3⟩:=zgG I hp;have hl:=kP r2;rw[List.length_map]at hl;have hz':zB.length<=sizeLine:=by
  rw[List.length_map,<- r1,List.length_map]at hz;exact hz
 obtain⟨c,dct,dat,sl⟩:=o;dsimp only at hd e3 e4;subst hd e3 e4;have ea:as.map Value.ref=zB.map λq=>Value.ref q.2.1:=by rw[<- r1,List.map_map];rfl
 rw[ea]at e1;refine zjt (knd:=yW X.prog X.w) (I.ok.hd hc) e1 r3 hz' λh' tk dd k=> ?_;refine⟨.ref s.heap.objs.size,_,I.laid (t':=tk) (o:= .dK (rF [] ps)) k (Nat.le_refl _) ?_,rfl,q _ I.fresh⟩;refine dI ?_ (beq_eq_false_iff_ne.mpr (Ne.symm (Nat.ne_of_lt I.big))) (KV.merge r2 .nil) dd;have:=h8 ps [];simp only[List.length_nil,Nat.zero_add]at this;exact Nat.le_trans this (by rw[hl];exact hz')
end
end L2
namespace L2
open PySem PySem.Spec PyProof.Rows PySem.W
section
variable {X:Cx} {es:List Expr} {t:TA} {pos:Pos}
end
end L2
namespace L2
open PySem PySem.Spec PyProof.Rows PySem.W
def y9:List (Str×Int)->Str->Int
 | [],_=>0
 | q::l,x=>if q.1=x then q.2 else y9 l x
def lR (l:List (Str×Int)):Prop:=l.Pairwise λa b=>a.1.cps.toList < b.1.cps.toList
structure vT (l:List (Str×Int)):Prop where
 rise:lR l
 nz: ∀q∈l,q.2≠0
theorem p8: ∀{l:List (Str×Int)} {x:Str},(∀q∈l,q.1≠x)->y9 l x=0
 | [],_,_=>rfl
 | q::l,x,h=>by
  unfold y9;rw[if_neg (h q (.head _))];exact p8 λr m=>h r (.tail _ m)
theorem pY {a b:Str}(h:a.cps.toList < b.cps.toList):a≠b:=λe=>by
 rw[e]at h;exact List.lt_irrefl _ h
theorem zh4 {a b:Str}(h:a.cps.toList=b.cps.toList):a=b:=by
 cases a;cases b;simp only at h;rw[Array.toList_inj.mp h]
theorem vT.tail {q:Str×Int}{l:List (Str×Int)}(h:vT (q::l)):vT l:=⟨(List.pairwise_cons.mp h.rise).2,λr m=>h.nz r (.tail _ m)⟩
theorem vT.head {q:Str×Int}{l:List (Str×Int)}(h:vT (q::l)): ∀r∈l,q.1.cps.toList < r.1.cps.toList:=(List.pairwise_cons.mp h.rise).1
theorem zdb: ∀{a b:List (Str×Int)},vT a->vT b->(∀x,y9 a x=y9 b x)->a=b
 | [],[],_,_,_=>rfl
 | [],q::b,_,hb,h=>by
  have:=h q.1;unfold y9 at this;rw[if_pos rfl]at this;exact absurd this.symm (hb.nz q (.head _))
 | p::a,[],ha,_,h=>by
  have:=h p.1;unfold y9 at this;rw[if_pos rfl]at this;exact absurd this (ha.nz p (.head _))
 | p::a,q::b,ha,hb,h=>by
  have noA: ∀x:Str,x.cps.toList < p.1.cps.toList->y9 (p::a) x=0:=λx hx=>p8 λr m=>by
   rcases List.mem_cons.mp m with rfl | m
   ·exact(pY hx).symm
   ·exact(pY (List.lt_trans hx (ha.head r m))).symm
  have noB: ∀x:Str,x.cps.toList < q.1.cps.toList->y9 (q::b) x=0:=λx hx=>p8 λr m=>by
   rcases List.mem_cons.mp m with rfl | m
   ·exact(pY hx).symm
   ·exact(pY (List.lt_trans hx (hb.head r m))).symm
  have vA:y9 (p::a) p.1=p.2:=by unfold y9;rw[if_pos rfl]
  have vB:y9 (q::b) q.1=q.2:=by unfold y9;rw[if_pos rfl]
  rcases fK p.1.cps.toList q.1.cps.toList with hl | he | hl
  ·have:=h p.1
   rw[vA,noB _ hl]at this;exact absurd this (ha.nz p (.head _))
  ·have e1:p.1=q.1:=zh4 he
   have e2:p.2=q.2:=by rw[<- vA,<- vB,h,e1]
   have e3:p=q:=Prod.ext e1 e2;subst e3;rw[zdb ha.tail hb.tail λx=> ?_];by_cases hx:p.1=x
   ·subst hx
    rw[p8 λr m=>(pY (ha.head r m)).symm,p8 λr m=>(pY (hb.head r m)).symm]
   ·have:=h x
    unfold y9 at this;rw[if_neg hx,if_neg hx]at this;exact this
  ·have:=h q.1
   rw[vB,noA _ hl]at this;exact absurd this.symm (hb.nz q (.head _))
theorem fO: ∀{l:List (Str×Int)} {q:Str×Int},(l.map (·.1)).Nodup->q∈l->y9 l q.1=q.2
 | p::l,q,hn,m=>by
  have hn':=List.nodup_cons.mp hn;unfold y9;rcases List.mem_cons.mp m with rfl | m
  ·rw[if_pos rfl]
  ·have:p.1≠q.1:=λe=>hn'.1 (by
    show p.1∈l.map (·.1);rw[e];exact List.mem_map_of_mem m)
   rw[if_neg this];exact fO hn'.2 m
theorem zgI {l:List (Str×Int)}(h:lR l):(l.map (·.1)).Nodup:=List.Pairwise.map _ (λ_ _ r=>pY r) h
theorem zra {a b:List (Str×Int)}(hp:a.Perm b)(hn:(b.map (·.1)).Nodup)(x:Str):y9 a x=y9 b x:=by
 have hna:(a.map (·.1)).Nodup:=(hp.map (·.1)).nodup_iff.mpr hn;by_cases h: ∃q∈b,q.1=x
 ·obtain⟨q,m,rfl⟩:=h
  rw[fO hn m,fO hna (hp.mem_iff.mpr m)]
 ·rw[p8 λq m e=>h ⟨q,hp.mem_iff.mp m,e⟩,p8 λq m e=>h ⟨q,m,e⟩]
theorem zih: ∀{l:List (Str×Int)},(l.map (·.1)).Nodup->∀x,y9 (l.filter λq=>decide (q.2≠0)) x=y9 l x
 | [],_,_=>rfl
 | q::l,hn,x=>by
  have hn':=List.nodup_cons.mp hn;have ih:=zih hn'.2 x;rw[List.filter_cons];by_cases h:q.2=0
  ·rw[if_neg (by simpa using h),ih]
   conv=>rhs;unfold y9
   by_cases e:q.1=x
   ·rw[if_pos e,h]
    exact p8 λr m e2=>hn'.1 (by
     show q.1∈l.map (·.1);rw[e,<- e2];exact List.mem_map_of_mem m)
   ·rw[if_neg e]
  ·rw[if_pos (by simpa using h)]
   unfold y9;rw[ih]
theorem zdc {a b:List (Str×Int)}(hp:a.Perm b)(hr:lR a):vT (a.filter λq=>decide (q.2≠0))/\∀x,y9 (a.filter λq=>decide (q.2≠0)) x=y9 b x:=by
 have hna:=zgI hr;have hnb:(b.map (·.1)).Nodup:=(hp.map (·.1)).nodup_iff.mp hna;refine⟨⟨List.Pairwise.filter _ hr,λq m=> ?_⟩,λx=> ?_⟩
 ·have:=(List.mem_filter.mp m).2
  simpa using this
 ·rw[zih hna,zra hp hnb]
end L2
namespace L2
open PySem PySem.Spec PyProof.Rows PySem.W
def wE:List (Str×Int)->Str->Int->List (Str×Int)
 | [],x,m=> [(x,m)]
 | q::l,x,m=>if q.1=x then(q.1,m)::l else q::wE l x m
theorem zb4: ∀{l:List (Str×Int)} {x:Str} {m:Int},¬ x∈l.map (·.1)->wE l x m=l++ [(x,m)]
 | [],_,_,_=>rfl
 | q::l,x,m,h=>by
  rw[List.map_cons,List.mem_cons,not_or]at h;unfold wE;rw[if_neg (λe=>h.1 e.symm),zb4 h.2];rfl
theorem zg1: ∀{l:List (Str×Int)} {x y:Str} {m:Int},y∈(wE l x m).map (·.1)↔y=x∨y∈l.map (·.1)
 | [],x,y,m=>by simp[wE]
 | q::l,x,y,m=>by
  unfold wE;by_cases e:q.1=x
  ·subst e;rw[if_pos rfl];simp
  ·rw[if_neg e,List.map_cons,List.mem_cons,zg1,List.map_cons,List.mem_cons]
   constructor
   ·rintro(h | h | h)
    ·exact .inr (.inl h)
    ·exact .inl h
    ·exact .inr (.inr h)
   ·rintro(h | h | h)
    ·exact .inr (.inl h)
    ·exact .inl h
    ·exact .inr (.inr h)
theorem zg2: ∀{l:List (Str×Int)} {x:Str} {m:Int},(l.map (·.1)).Nodup->((wE l x m).map (·.1)).Nodup
 | [],x,m,_=>by simp[wE]
 | q::l,x,m,hn=>by
  have hn':=List.nodup_cons.mp hn;unfold wE;by_cases e:q.1=x
  ·rw[if_pos e];exact hn
  ·rw[if_neg e,List.map_cons]
   refine List.nodup_cons.mpr ⟨λz=> ?_,zg2 hn'.2⟩;rcases zg1.mp z with z | z
   ·exact e z
   ·exact hn'.1 z
theorem zoC (l:List (Str×Int))(x:Str)(m:Int):(wE l x m).length<=l.length+1:=by
 induction l with
 | nil=>simp[wE]
 | cons q l ih=>
  unfold wE;by_cases e:q.1=x
  ·rw[if_pos e];simp
  ·rw[if_neg e];simpa using ih
def wN (a:List (Str×Int)):List (Str×Int)->List (Str×Int)
 | []=>a
 | q::b=>wN (wE a q.1 (y9 a q.1+q.2)) b
theorem iA: ∀{b a:List (Str×Int)},(a.map (·.1)).Nodup->((wN a b).map (·.1)).Nodup
 | [],_,h=>h
 | q::b,a,h=>iA (b:=b) (a:=wE a q.1 (y9 a q.1+q.2)) (zg2 h)
theorem lX: ∀(b a:List (Str×Int)),(wN a b).length<=a.length+b.length
 | [],_=>Nat.le_refl _
 | q::b,a=>by
  have h1:=lX b (wE a q.1 (y9 a q.1+q.2));have h2:=zoC a q.1 (y9 a q.1+q.2);show(wN (wE a q.1 (y9 a q.1+q.2)) b).length<=_;rw[List.length_cons];omega
end L2
namespace L2
open PySem PySem.Spec PyProof.Rows PySem.W
theorem zlZ {a b:Str}(h:ltCps b.cps.toList a.cps.toList=false)(hne:a≠b):a.cps.toList < b.cps.toList:=by
 rw[ltCps_eq]at h;rcases fK a.cps.toList b.cps.toList with h1 | h1 | h1
 ·exact h1
 ·exact absurd (zh4 h1) hne
 ·exact absurd h1 (of_decide_eq_false h)
theorem zgJ: ∀(p:Str) (l:List Str),risingS p l=true->(p::l).Nodup->(p::l).Pairwise λa b=>a.cps.toList < b.cps.toList
 | p,[],_,_=>List.pairwise_singleton _ _
 | p,x::r,h,hn=>by
  have h':(!ltCps x.cps.toList p.cps.toList&&risingS x r)=true:=h;rw[Bool.and_eq_true]at h';have hn':=List.nodup_cons.mp hn;have ih:=zgJ x r h'.2 hn'.2;have hpx:p.cps.toList < x.cps.toList:=zlZ (by simpa using h'.1) λe=>hn'.1 (by rw[e];exact .head _);refine List.pairwise_cons.mpr ⟨λy m=> ?_,ih⟩;rcases List.mem_cons.mp m with rfl | m
  ·exact hpx
  ·exact List.lt_trans hpx ((List.pairwise_cons.mp ih).1 y m)
theorem zpy: ∀{l:List Str},sortedS l=true->l.Nodup->l.Pairwise λa b=>a.cps.toList < b.cps.toList
 | [],_,_=> .nil
 | p::l,h,hn=>zgJ p l h hn
end L2
namespace L2
open PySem PySem.Spec PyProof.Rows
section
variable {prog:Program} {w:World} {A:Around} {h:Heap} {g:Array GenState} {d:Drawn} {t:Nat} {os:OsState}
variable {nm q:Str} {C N f:Addr} {bs bm:List Value} {hdct:Bool} {sn:List Str} {sub:List Value} {ab:Bool} {col:Option Bool} {dd:Option Addr} {k0 k1 k2 k3 k5:Option Value}
end
end L2
namespace L2
open PySem PySem.Spec PyProof.Rows
section
variable {prog:Program} {w:World} {A:Around} {E:Value->Shared->Prop} {h:Heap} {g:Array GenState} {d:Drawn} {t:Nat} {os:OsState}
variable {nm q:Str} {C N f e:Addr} {bs bm:List Value} {hdct:Bool} {sn:List Str} {sub:List Value} {ab:Bool} {col:Option Bool} {dd od:Option Addr} {k0 k1 k2 k3 k5:Option Value} {t0:Addr}
end
end L2
namespace L2
open PySem PySem.Spec PyProof.Rows Builtin Builtin.ObjectAttr
section
variable {prog:Program} {w:World} {A:Around} {E:Value->Shared->Prop} {s:Shared} {K:Frag} {C HE e t0:Addr} {cd:ClassData} {name:Str} {v:Value}
end
end L2
namespace L2
open PySem PySem.Spec PyProof.Rows Builtin Builtin.ObjectAttr
section
variable {prog:Program} {w:World} {A:Around} {E:Value->Shared->Prop} {s:Shared} {K:Frag} {C HE e t0 dx:Addr} {cd:ClassData} {name:Str} {v:Value} {od:Obj}
end
end L2
namespace L2
open PySem PySem.Spec PyProof.Rows Builtin Builtin.ObjectAttr
section
variable {prog:Program} {w:World} {A:Around} {E:Value->Shared->Prop} {s:Shared} {K:Frag} {C HE e:Addr} {cd:ClassData} {ox:Obj} {odo:Option Obj}
end
end L2
namespace L2
open PySem PySem.Spec PyProof.Rows
abbrev TJ:=St->Hp->Str->VK->Prop
section
variable {X:Cx} {e e2:Expr} {es:List Expr} {te:TE} {t:TJ} {pos:Pos}
end
section
variable {X:Cx} {CX:tF} {k:Nat} {f C HE:Addr} {fd:FuncData} {ps:List Str} {sp:Sp} {ds:List Value} {dvs:List V} {E:XK}
variable {x:Str} {p pos apos pos':Pos} {e o value:Expr} {es:List Expr} {te ta tv:TE} {t:TA}
end
end L2
namespace L2
open PySem PySem.Spec PyProof.Rows
theorem z5.turnedL {X:Cx}{pins:List (Addr×Obj)}{σ:St}{H:Hp}{s:Shared}{h':Heap}{t':Nat}{fp:List Addr}(I:z5 X pins σ H s)(k: ∀b o,b∉fp->s.heap.get? b=some o->h'.get? b=some o)(hf: ∀b∈fp,sE X pins H b):
  z5 X pins σ H {s with heap:=h',toks:=t'} :=by
 have nit: ∀b u,H b=some u->b∉fp:=λb u e z=>by rw[(hf b z).1]at e;cases e
 refine I.step (g':=s.gens) (d':=s.drawn) (ch:=fp) (λb hb=>⟨(hf b hb).2.2.2.1,(hf b hb).2.1,(hf b hb).2.2.2.2.1,(hf b hb).2.2.2.2.2⟩) (λb o _ _ hc e _=>k b o hc e) (λb o _ _ hc e _=>⟨o.slots,k b o hc e⟩) (λ_ _ _ _ n=>n)
  (λb o hc e=>⟨o,k b o hc e⟩) (λ_ _ e=>e) (λ_ _ _ e=>e) (λb ps e=>⟨#[],by rw[e];simp⟩) (λm hm=> ?_) (λb u e=> ?_) I.bare
 ·obtain⟨o,es,ep,ho,r⟩:=hm
  exact⟨o,es,ep,k _ o (λz=>(hf _ z).2.1 rfl) ho,r⟩
 ·refine(I.hok b u e).stay (λc v hc q=>k c v ?_ q) (λ_ q=>q) λ_ _ q=>q
  rcases hc with z | z
  ·rw[z];exact nit b u e
  ·exact nit c _ z
section
variable {X:Cx} {elts:List Expr} {k:Nat} {pos':Pos}
end
end L2
namespace L3
open PySem PySem.Spec PyProof.Rows L2
abbrev St:=L2.St
structure p9 where
 f:Addr
 o:Obj
 q:Str
 c:Addr
 c':Addr
 oz:Obj
 dd:Addr
 kvs:List (List Int×Int)
inductive PV where
 | non | bl (b:Bool) | int (i:Int) | str (x:Str) | ty (n:String)
 | tup (xs:List PV) | lst (xs:List PV) | dct (kvs:List (zA×PV)) | itb (kvs:List (List Int×Int)) | clo (D:p9) | obj (n:Nat)
def zcm (kvs:List (List Int×Int)):List (List zA×V):=kvs.map λp=>(p.1.map Sum.inl,V.int p.2)
inductive PO where
 | lst (xs:List PV) | dct (kvs:List (zA×PV)) | tbl (T:Addr) (pos:Pos) (q:Str) | itb (kvs:List (List Int×Int))
abbrev z8:=List PO
abbrev zO:=List (Option PV)
abbrev K3:=PV->z8->Prop
def ziI (K:Frag)(a:Addr)(vs:List V):Prop:= ∃(o:Obj) (its:Array Value) (n:Nat),K.lookup a=some o/\o.cls= .type "tuple" /\o.dict=none/\o.data= .seq its n/\its.size<=sizeLine/\zR vs its.toList
def ziH (K:Frag)(a:Addr)(vs:List V):Prop:= ∃(o:Obj) (its:Array Value) (n:Nat),K.lookup a=some o/\o.cls= .type "list" /\o.dict=none/\o.data= .seq its n/\its.size<=sizeLine/\zR vs its.toList/\o.slots= #[]
def uO (K:Frag)(A:List Addr)(H:Hp)(a:Addr)(vs:List V):Prop:=(Rd H a (.tup vs)/\a∉A)∨ziI K a vs
def uL (K:Frag)(A:List Addr)(H:Hp)(a:Addr)(vs:List V):Prop:=(Rd H a (.lst vs)/\a∉A)∨ziH K a vs
def ziu (A:List Addr)(H:Hp)(a:Addr)(us:List (zA×V)):Prop:=H a=some (.dK us)/\a∉A
structure zis (A:List Addr)(H:Hp)(D:p9):Prop where
 fn:H D.f=some (.ext (wI D.f D.o))/\D.f∉A
 cd:H D.c'=some (.ext (uG D.c' D.q))/\D.c'∉A
 cl:H D.c=some (.ext (wI D.c D.oz))/\D.c∉A
 dt:H D.dd=some (.dT (zcm D.kvs))/\D.dd∉A
mutual
inductive RV (K:Frag)(A:List Addr)(H:Hp):PV->V->Prop
 | non:RV K A H .non .non
 | bl (b:Bool):RV K A H (.bl b) (.bl b)
 | int (i:Int):RV K A H (.int i) (.int i)
 | str (x:Str):RV K A H (.str x) (.str x)
 | ty (n:String):RV K A H (.ty n) (.ty n)
 | tup {xs:List PV} {a:Addr} {vs:List V} :uO K A H a vs->vs.length<=sizeLine->RVs K A H xs vs->RV K A H (.tup xs) (.ref a)
 | lst {xs:List PV} {a:Addr} {vs:List V} :uL K A H a vs->vs.length<=sizeLine->RVs K A H xs vs->RV K A H (.lst xs) (.ref a)
 | dct {kvs:List (zA×PV)} {a:Addr} {us:List (zA×V)} :ziu A H a us->us.length<=sizeLine->RKs K A H kvs us->RV K A H (.dct kvs) (.ref a)
 | itb {kvs:List (List Int×Int)} {a:Addr} :H a=some (.dT (zcm kvs))->a∉A->RV K A H (.itb kvs) (.ref a)
 | clo {D:p9} :zis A H D->RV K A H (.clo D) (.ref D.f)
inductive RVs (K:Frag)(A:List Addr)(H:Hp):List PV->List V->Prop
 | nil:RVs K A H [] []
 | cons {x:PV} {v:V} {xs:List PV} {vs:List V} :RV K A H x v->RVs K A H xs vs->RVs K A H (x::xs) (v::vs)
inductive RKs (K:Frag)(A:List Addr)(H:Hp):List (zA×PV)->List (zA×V)->Prop
 | nil:RKs K A H [] []
 | cons {k:zA} {x:PV} {v:V} {xs:List (zA×PV)} {vs:List (zA×V)} :RV K A H x v->RKs K A H xs vs->RKs K A H ((k,x)::xs) ((k,v)::vs)
end
structure yC (A:List Addr)(H:Hp)(A':List Addr)(H':Hp):Prop where
 ext: ∃B,A'=A++B/\∀b∈B,H b=none
 keep: ∀b o,H b=some o->b∉A->H' b=some o
 live: ∀b,H b≠none->H' b≠none
theorem yC.refl (A:List Addr)(H:Hp):yC A H A H:=⟨⟨[],by simp,by simp⟩,λ_ _ h _=>h,λ_ h=>h⟩
theorem yC.out {A A':List Addr}{H H':Hp}(g:yC A H A' H'){b:Addr}{o:HO}(h:H b=some o)(n:b∉A):b∉A':=by
 obtain⟨B,rfl,hB⟩:=g.ext;intro m;rcases List.mem_append.mp m with m | m
 ·exact n m
 ·rw[hB b m]at h;cases h
theorem yC.trans {A A1 A2:List Addr}{H H1 H2:Hp}(g:yC A H A1 H1)(g':yC A1 H1 A2 H2):yC A H A2 H2:=by
 refine⟨?_,λb o h n=>g'.keep b o (g.keep b o h n) (g.out h n),λb h=>g'.live b (g.live b h)⟩;obtain⟨B,rfl,hB⟩:=g.ext;obtain⟨C,rfl,hC⟩:=g'.ext;refine⟨B++C,by simp,λb m=> ?_⟩;rcases List.mem_append.mp m with m | m
 ·exact hB b m
 ·by_cases h:H b=none
  ·exact h
  ·exact absurd (hC b m) (g.live b h)
theorem yC.sub {A A':List Addr}{H H':Hp}(g:yC A H A' H'){i:Nat}{a:Addr}(h:A[i]?=some a):A'[i]?=some a:=by
 obtain⟨B,rfl,_⟩:=g.ext;rw[List.getElem?_append_left (List.getElem?_eq_some_iff.mp h).1];exact h
theorem yC.new {A:List Addr}{H:Hp}{p:Addr}{o:HO}(h:H p=none):yC A H A (zQ H p o):=by
 refine⟨⟨[],by simp,by simp⟩,λb u e _=>by rw[yP (uA e h)];exact e,λb hb=> ?_⟩;by_cases e:b=p
 ·subst e;rw[xM];exact Option.some_ne_none _
 ·rw[yP e];exact hb
theorem yC.newObj {A:List Addr}{H:Hp}{p:Addr}{o:HO}(h:H p=none):yC A H (A++ [p]) (zQ H p o):=by
 refine⟨⟨[p],rfl,λb m=>by rw[List.mem_singleton.mp m];exact h⟩,(yC.new (A:=A) h).keep,(yC.new (A:=A) h).live⟩
theorem yC.put {A:List Addr}{H:Hp}{p:Addr}{o:HO}(h:p∈A):yC A H A (zQ H p o):=by
 refine⟨⟨[],by simp,by simp⟩,λb u e n=>by rw[yP (λz=>n (by rw[z];exact h))];exact e,λb hb=> ?_⟩;by_cases e:b=p
 ·subst e;rw[xM];exact Option.some_ne_none _
 ·rw[yP e];exact hb
section
variable {K:Frag} {A A':List Addr} {H H':Hp}
theorem uO.sq {a:Addr}{vs:List V}(h:uO K A H a vs):x4 K H a vs:=h.imp And.left id
theorem uL.sq {a:Addr}{vs:List V}(h:uL K A H a vs):x5 K H a vs:=h.imp And.left id
theorem Rd.grow {a:Addr}{u:HO}(g:yC A H A' H')(h:Rd H a u/\a∉A):Rd H' a u/\a∉A':=by
 obtain⟨h | ⟨o,h⟩,n⟩:=h
 ·exact⟨.inl (g.keep _ _ h n),g.out h n⟩
 ·exact⟨.inr ⟨o,g.keep _ _ h n⟩,g.out h n⟩
theorem uO.grow {a:Addr}{vs:List V}(g:yC A H A' H')(h:uO K A H a vs):uO K A' H' a vs:=h.imp (Rd.grow g) id
theorem uL.grow {a:Addr}{vs:List V}(g:yC A H A' H')(h:uL K A H a vs):uL K A' H' a vs:=h.imp (Rd.grow g) id
mutual
theorem RV.grow (g:yC A H A' H'){x:PV}{v:V} :RV K A H x v->RV K A' H' x v
 | .non=> .non
 | .bl b=> .bl b
 | .int i=> .int i
 | .str x=> .str x
 | .ty n=> .ty n
 | .tup t z r=> .tup (t.grow g) z (RVs.grow g r)
 | .lst t z r=> .lst (t.grow g) z (RVs.grow g r)
 | .dct t z r=> .dct ⟨g.keep _ _ t.1 t.2,g.out t.1 t.2⟩ z (RKs.grow g r)
 | .itb e n=> .itb (g.keep _ _ e n) (g.out e n)
 | .clo h=> .clo ⟨⟨g.keep _ _ h.fn.1 h.fn.2,g.out h.fn.1 h.fn.2⟩,⟨g.keep _ _ h.cd.1 h.cd.2,g.out h.cd.1 h.cd.2⟩,⟨g.keep _ _ h.cl.1 h.cl.2,g.out h.cl.1 h.cl.2⟩,⟨g.keep _ _ h.dt.1 h.dt.2,g.out h.dt.1 h.dt.2⟩⟩
theorem RVs.grow (g:yC A H A' H'){xs:List PV}{vs:List V} :RVs K A H xs vs->RVs K A' H' xs vs
 | .nil=> .nil
 | .cons r t=> .cons (RV.grow g r) (RVs.grow g t)
theorem RKs.grow (g:yC A H A' H'){xs:List (zA×PV)}{vs:List (zA×V)} :RKs K A H xs vs->RKs K A' H' xs vs
 | .nil=> .nil
 | .cons r t=> .cons (RV.grow g r) (RKs.grow g t)
end
theorem RVs.len {xs:List PV}{vs:List V} :RVs K A H xs vs->xs.length=vs.length
 | .nil=>rfl
 | .cons _ t=>by rw[List.length_cons,List.length_cons,RVs.len t]
theorem RKs.len {xs:List (zA×PV)}{vs:List (zA×V)} :RKs K A H xs vs->xs.length=vs.length
 | .nil=>rfl
 | .cons _ t=>by rw[List.length_cons,List.length_cons,RKs.len t]
theorem RVs.append {xs ys:List PV}{vs ws:List V} :RVs K A H xs vs->RVs K A H ys ws->RVs K A H (xs++ys) (vs++ws)
 | .nil,h=>h
 | .cons r t,h=> .cons r (RVs.append t h)
theorem RVs.get {xs:List PV}{vs:List V}{i:Nat}{x:PV}(h:RVs K A H xs vs)(e:xs[i]?=some x): ∃v,vs[i]?=some v/\RV K A H x v:=by
 induction i generalizing xs vs with
 | zero=>cases h with
  | nil=>cases e
  | cons r t=>simp at e;subst e;exact⟨_,rfl,r⟩
 | succ i ih=>cases h with
  | nil=>cases e
  | cons r t=>simpa using ih t (by simpa using e)
theorem RVs.get' {xs:List PV}{vs:List V}{i:Nat}{v:V}(h:RVs K A H xs vs)(e:vs[i]?=some v): ∃x,xs[i]?=some x/\RV K A H x v:=by
 induction i generalizing xs vs with
 | zero=>cases h with
  | nil=>cases e
  | cons r t=>simp at e;subst e;exact⟨_,rfl,r⟩
 | succ i ih=>cases h with
  | nil=>cases e
  | cons r t=>simpa using ih t (by simpa using e)
theorem RVs.drop {xs:List PV}{vs:List V}(h:RVs K A H xs vs)(n:Nat):RVs K A H (xs.drop n) (vs.drop n):=by
 induction n generalizing xs vs with
 | zero=>exact h
 | succ n ih=>cases h with
  | nil=>exact .nil
  | cons r t=>exact ih t
theorem RVs.take {xs:List PV}{vs:List V}(h:RVs K A H xs vs)(n:Nat):RVs K A H (xs.take n) (vs.take n):=by
 induction n generalizing xs vs with
 | zero=>exact .nil
 | succ n ih=>cases h with
  | nil=>exact .nil
  | cons r t=>exact .cons r (ih t)
inductive RE (K:Frag)(A:List Addr)(H:Hp):PV->V->Prop
 | val {x:PV} {v:V} :RV K A H x v->RE K A H x v
 | obj {i:Nat} {a:Addr} :A[i]?=some a->RE K A H (.obj i) (.ref a)
theorem RE.grow (g:yC A H A' H'){x:PV}{v:V} :RE K A H x v->RE K A' H' x v
 | .val r=> .val (r.grow g)
 | .obj e=> .obj (g.sub e)
abbrev yU (K:Frag)(A:List Addr)(H:Hp):List PV->List V->Prop:=Paired (RE K A H)
theorem yU.grow (g:yC A H A' H'){xs:List PV}{vs:List V} :yU K A H xs vs->yU K A' H' xs vs
 | .nil=> .nil
 | .cons r t=> .cons (r.grow g) (yU.grow g t)
def OA (K:Frag)(A:List Addr)(H:Hp)(a:Addr):PO->Prop
 | .lst xs=> ∃vs,H a=some (.lst vs)/\RVs K A H xs vs/\vs.length<=sizeLine
 | .dct kvs=> ∃us,H a=some (.dK us)/\RKs K A H kvs us/\us.length<=sizeLine
 | .tbl T pos q=>a=T/\∃ps,H a=some (.tbl ps)/\(ps= #[]∨∃c',ps= #[rawInt pos.line,rawInt pos.col,.ref c']/\H c'=some (.ext (uG c' q))/\c'∉A)
 | .itb kvs=>H a=some (.dT (zcm kvs))
structure RS (K:Frag)(A:List Addr)(H:Hp)(st:z8):Prop where
 nd:A.Nodup
 len:A.length=st.length
 at_: ∀(i:Nat) (a:Addr) (o:PO),A[i]?=some a->st[i]?=some o->OA K A H a o
structure xJ (K:Frag)(A:List Addr)(H:Hp)(σ:St)(env:zO)(st:z8):Prop where
 rs:RS K A H st
 len:env.length=σ.length
 at_: ∀(i:Nat) (x:PV),env[i]?=some (some x)->∃v,σ[i]?=some (some v)/\RE K A H x v
theorem xJ.grow {σ:St}{env:zO}{st st':z8}(r:xJ K A H σ env st)(g:yC A H A' H')(s:RS K A' H' st'):xJ K A' H' σ env st':=
 ⟨s,r.len,λi x e=>let⟨v,e1,r1⟩:=r.at_ i x e;⟨v,e1,r1.grow g⟩⟩
theorem OA.move {a:Addr}{o:PO}(h:OA K A H a o)(g:yC A H A' H')(e:H' a=H a):OA K A' H' a o:=by
 cases o with
 | lst xs=>obtain⟨vs,h,r,z⟩:=h;exact⟨vs,by rw[e];exact h,r.grow g,z⟩
 | dct xs=>obtain⟨vs,h,r,z⟩:=h;exact⟨vs,by rw[e];exact h,r.grow g,z⟩
 | tbl T pos q=>
  obtain⟨ea,ps,h,r⟩:=h;refine⟨ea,ps,by rw[e];exact h,r.imp id ?_⟩;rintro⟨c',e1,e2,e3⟩;exact⟨c',e1,g.keep _ _ e2 e3,g.out e2 e3⟩
 | itb kvs=>exact e.trans h
theorem OA.some {a:Addr}{o:PO}(h:OA K A H a o):H a≠none:=by
 cases o with
 | lst xs=>obtain⟨vs,h,r⟩:=h;rw[h];exact Option.some_ne_none _
 | dct xs=>obtain⟨vs,h,r⟩:=h;rw[h];exact Option.some_ne_none _
 | tbl T pos q=>obtain⟨_,ps,h,r⟩:=h;rw[h];exact Option.some_ne_none _
 | itb kvs=>rw[show H a=_ from h];exact Option.some_ne_none _
theorem RS.has {st:z8}(r:RS K A H st){a:Addr}(h:a∈A): ∃(i:Nat) (o:PO),A[i]?=some a/\st[i]?=some o/\OA K A H a o:=by
 obtain⟨i,hi,e⟩:=List.getElem_of_mem h;have hs:i < st.length:=by rw[<- r.len];exact hi
 have e1:A[i]?=some a:=by rw[List.getElem?_eq_getElem hi,e]
 have e2:st[i]?=some st[i]:=List.getElem?_eq_getElem hs;exact⟨i,st[i],e1,e2,r.at_ i a _ e1 e2⟩
theorem RS.live {st:z8}(r:RS K A H st){a:Addr}(h:a∈A):H a≠none:=let⟨_,_,_,_,o⟩:=r.has h;o.some
theorem RS.move {st:z8}(r:RS K A H st)(g:yC A H A H')(e: ∀a∈A,H' a=H a):RS K A H' st:=
 ⟨r.nd,r.len,λi a o h1 h2=>(r.at_ i a o h1 h2).move g (e a (List.mem_of_getElem? h1))⟩
theorem RS.fresh {st:z8}(r:RS K A H st){p:Addr}(h:H p=none):p∉A:=λm=>r.live m h
theorem RS.new {st:z8}(r:RS K A H st){p:Addr}{o:HO}(h:H p=none):RS K A (zQ H p o) st:=
 r.move (.new h) λa m=>yP λz=>r.fresh h (z▸m)
theorem RS.newObj {st:z8}(r:RS K A H st){p:Addr}{o:HO}{q:PO}(h:H p=none)(hq:OA K (A++ [p]) (zQ H p o) p q):RS K (A++ [p]) (zQ H p o) (st++ [q]):=by
 refine⟨?_,by rw[List.length_append,List.length_append,r.len];rfl,λi a u h1 h2=> ?_⟩
 ·refine List.nodup_append.mpr ⟨r.nd,by simp,λa ha b hb=> ?_⟩
  rw[List.mem_singleton.mp hb];exact λz=>r.fresh h (z▸ha)
 ·by_cases hi:i < A.length
  ·rw[List.getElem?_append_left hi]at h1
   rw[List.getElem?_append_left (by rw[<- r.len];exact hi)]at h2;exact(r.at_ i a u h1 h2).move (.newObj h) (yP λz=>r.fresh h (z▸List.mem_of_getElem? h1))
  ·have hi':i=A.length:=by
    have:=(List.getElem?_eq_some_iff.mp h1).1;rw[List.length_append,List.length_singleton]at this;omega
   subst hi';rw[List.getElem?_append_right (Nat.le_refl _),Nat.sub_self]at h1;rw[r.len,List.getElem?_append_right (Nat.le_refl _),Nat.sub_self]at h2;cases h1;cases h2;exact hq
theorem RS.put {st:z8}(r:RS K A H st){i:Nat}{p:Addr}{o:HO}{q:PO}(h:A[i]?=some p)(hq:OA K A (zQ H p o) p q):RS K A (zQ H p o) (st.set i q):=by
 have hp:=List.mem_of_getElem? h;refine⟨r.nd,by rw[List.length_set];exact r.len,λj a u h1 h2=> ?_⟩;by_cases hij:i=j
 ·subst hij
  rw[h]at h1;cases h1;rw[List.getElem?_set_self (by rw[<- r.len];exact(List.getElem?_eq_some_iff.mp h).1)]at h2;cases h2;exact hq
 ·rw[List.getElem?_set_ne hij]at h2
  refine(r.at_ j a u h1 h2).move (.put hp) (yP λz=>hij ?_);subst z;exact(List.getElem?_inj (List.getElem?_eq_some_iff.mp h).1 r.nd).mp (h.trans h1.symm)
end
end L3
namespace L3
open PySem PySem.Spec PyProof.Rows L2
abbrev zG:=zO->z8->K3->Prop
abbrev xG:=zO->z8->(Bool->z8->Prop)->Prop
abbrev yS:=zO->z8->(List PV->z8->Prop)->Prop
structure xV where
 nx:zO->z8->Prop
 rt:K3
 bk:zO->z8->Prop:=λ_ _=>False
 ct:zO->z8->Prop:=λ_ _=>False
abbrev xF:=xV->zO->z8->Prop
abbrev wA:=PV->zO->z8->(zO->z8->Prop)->Prop
abbrev r9:=List PV->zO->z8->(zO->z8->Prop)->Prop
abbrev xY:=Option (Nat×PO)
abbrev vV:=zO->z8->(xY->List PV->z8->Prop)->Prop
abbrev R3:=PV->PV->z8->K3->Prop
abbrev y4:=List PV->z8->K3->Prop
def Fin (K:Frag)(A:List Addr)(H:Hp)(Q3:K3)(Q:VK):Prop:= ∀A' H' st' r v,yC A H A' H'->RS K A' H' st'->RE K A' H' r v->Q3 r st'->Q v H'
def jU (K:Frag)(A:List Addr)(H:Hp)(Q3:Bool->z8->Prop)(Q:Bool->Hp->Prop):Prop:= ∀A' H' st' b,yC A H A' H'->RS K A' H' st'->Q3 b st'->Q b H'
def zix (K:Frag)(A:List Addr)(H:Hp)(Q3:List PV->z8->Prop)(Q:List V->Hp->Prop):Prop:= ∀A' H' st' rs vs,yC A H A' H'->RS K A' H' st'->yU K A' H' rs vs->Q3 rs st'->Q vs H'
def rN (K:Frag)(A:List Addr)(H:Hp)(P3:zO->z8->Prop)(P:St->Hp->Prop):Prop:= ∀A' H' σ' env' st',yC A H A' H'->xJ K A' H' σ' env' st'->P3 env' st'->P σ' H'
structure jT (K:Frag)(A:List Addr)(H:Hp)(D3:xV)(D:sD):Prop where
 nx:rN K A H D3.nx D.nx
 rt:Fin K A H D3.rt D.rt
 bk:rN K A H D3.bk D.bk
 ct:rN K A H D3.ct D.ct
section
variable {K:Frag} {A A1:List Addr} {H H1:Hp}
theorem Fin.after {Q3:K3}{Q:VK}(f:Fin K A H Q3 Q)(g:yC A H A1 H1):Fin K A1 H1 Q3 Q:=λA' H' st' r v g'=>f A' H' st' r v (g.trans g')
theorem jU.after {Q3:Bool->z8->Prop}{Q:Bool->Hp->Prop}(f:jU K A H Q3 Q)(g:yC A H A1 H1):jU K A1 H1 Q3 Q:=λA' H' st' r g'=>f A' H' st' r (g.trans g')
theorem rN.after {Q3:zO->z8->Prop}{Q:St->Hp->Prop}(f:rN K A H Q3 Q)(g:yC A H A1 H1):rN K A1 H1 Q3 Q:=λA' H' σ' e' st' g'=>f A' H' σ' e' st' (g.trans g')
theorem jT.after {D3:xV}{D:sD}(f:jT K A H D3 D)(g:yC A H A1 H1):jT K A1 H1 D3 D:=⟨f.nx.after g,f.rt.after g,f.bk.after g,f.ct.after g⟩
theorem Fin.now {Q3:K3}{Q:VK}(f:Fin K A H Q3 Q){st:z8}{r:PV}{v:V}(s:RS K A H st)(e:RE K A H r v)(q:Q3 r st):Q v H:=f A H st r v (.refl _ _) s e q
end
def zV (K:Frag)(T:zG):TE:=λσ H Q=> ∃A env st Q3,xJ K A H σ env st/\T env st Q3/\Fin K A H Q3 Q
def xN (K:Frag)(T:xG):TT:=λσ H Q=> ∃A env st Q3,xJ K A H σ env st/\T env st Q3/\jU K A H Q3 Q
def vF (K:Frag)(T:yS):TA:=λσ H Q=> ∃A env st Q3,xJ K A H σ env st/\T env st Q3/\zix K A H Q3 Q
def w4 (K:Frag)(T:xF):TS:=λD σ H=> ∃A env st D3,xJ K A H σ env st/\T D3 env st/\jT K A H D3 D
def uR (K:Frag)(G:wA):TG:=λv σ H Q=> ∃A env st x Q3,xJ K A H σ env st/\RE K A H x v/\G x env st Q3/\rN K A H Q3 Q
def iK (K:Frag)(G:r9):uN:=λvs σ H Q=> ∃A env st xs Q3,xJ K A H σ env st/\yU K A H xs vs/\G xs env st Q3/\rN K A H Q3 Q
def wB (K:Frag)(R:R3):R2:=λv w H Q=> ∃A st x y Q3,RS K A H st/\RE K A H x v/\RE K A H y w/\R x y st Q3/\Fin K A H Q3 Q
def d5 (K:Frag)(R:PV->z8->K3->Prop):V->Hp->VK->Prop:=λv H Q=> ∃A st x Q3,RS K A H st/\RE K A H x v/\R x st Q3/\Fin K A H Q3 Q
def v8 (K:Frag)(R:y4):List V->Hp->VK->Prop:=λvs H Q=> ∃A st xs Q3,RS K A H st/\yU K A H xs vs/\R xs st Q3/\Fin K A H Q3 Q
def zN (K:Frag)(S:y4):Sp:=λvs H Q _=>v8 K S vs H Q
section
variable {X:Cx} {a b c e:Expr} {es:List Expr} {pos p p2:Pos} {Ta Tb Tc:zG} {TA:yS} {tc td:xG}
theorem xP {t t':TE}(h:PE X e t)(w: ∀σ H Q,t' σ H Q->t σ H Q):PE X e t':=⟨λpins s σ H Q I q=>h pins s σ H Q I (w σ H Q q)⟩
theorem zb3 {t t':TT}(h:PT X e t)(w: ∀σ H Q,t' σ H Q->t σ H Q):PT X e t':=⟨λpins s σ H Q I q=>h pins s σ H Q I (w σ H Q q)⟩
theorem zg4 {t t':TT}(h:PW X e t)(w: ∀σ H Q,t' σ H Q->t σ H Q):PW X e t':=⟨λwh pins s σ H Q I q=>h wh pins s σ H Q I (w σ H Q q)⟩
theorem zgh {t t':L2.TA}(h:PA X es t)(w: ∀σ H Q,t' σ H Q->t σ H Q):PA X es t':=⟨λpos pins s σ H Q I q=>h pos pins s σ H Q I (w σ H Q q)⟩
theorem zom {t t':TT}(h:PF X es t)(w: ∀σ H Q,t' σ H Q->t σ H Q):PF X es t':=⟨λpins s σ H Q I q=>h pins s σ H Q I (w σ H Q q)⟩
theorem qH {st:Stmt}{t t':TS}(h:PS X st t)(w: ∀D σ H,t' D σ H->t D σ H):PS X st t':=⟨λpins s σ H D I q=>h pins s σ H D I (w D σ H q)⟩
theorem zb2 {st:List Stmt}{t t':TS}(h:xQ X st t)(w: ∀D σ H,t' D σ H->t D σ H):xQ X st t':=⟨λpins s σ H D I q=>h pins s σ H D I (w D σ H q)⟩
theorem zgr {tg:Expr}{t t':TG}(h:PG X tg t)(w: ∀v σ H Q,t' v σ H Q->t v σ H Q):PG X tg t':=⟨λpins s σ H v u Q I r q=>h pins s σ H v u Q I r (w v σ H Q q)⟩
theorem zgs {tg:List Expr}{t t':uN}(h:vU X tg t)(w: ∀v σ H Q,t' v σ H Q->t v σ H Q):vU X tg t':=⟨λpins s σ H v u Q I r q=>h pins s σ H v u Q I r (w v σ H Q q)⟩
def lC (i:Nat):zG:=λenv st Q=>match env[i]? with | some (some x)=>Q x st | _=>False
theorem zjE {K:Frag}{i:Nat}{σ:St}{H:Hp}{Q:VK} :zV K (lC i) σ H Q->fI i σ H Q:=by
 rintro⟨A,env,st,Q3,rel,h,k⟩;unfold lC at h
 split at h
 ·rename_i x e
  obtain⟨v,e1,r⟩:=rel.at_ i x e;exact⟨v,e1,k.now rel.rs r h⟩
 ·exact h.elim
theorem qv (i:Nat){x:Str}{pos:Pos}(hN:X.N[i]?=some x:=by rfl)(hv:lW X.env.scope x:=by first | exact Or.inl rfl | exact Or.inr (Or.inl rfl) | exact Or.inr (Or.inr rfl))(hd:(x==("__debug__" :Str))=false:=by decide)
  (hcd:(x==("__classdict__" :Str))=false:=by decide):PE X (.Name x pos) (zV X.K (lC i)):=xP (zbz hN hv hd hcd) λ_ _ _=>zjE
def vC (x:PV):zG:=λ_ st Q=>Q x st
theorem nU {K:Frag}{x:PV}{v:V}(hr: ∀A H,RE K A H x v){σ:St}{H:Hp}{Q:VK} :zV K (vC x) σ H Q->tC v σ H Q:=by
 rintro⟨A,env,st,Q3,rel,h,k⟩;exact k.now rel.rs (hr A H) h
theorem z7 {i j pos} :PE X (.Constant (.int i) j pos) (zV X.K (vC (.int i))):=xP vE λ_ _ _=>nU λ_ _=> .val (.int i)
theorem zM {x j pos} :PE X (.Constant (.str x) j pos) (zV X.K (vC (.str x))):=xP qF λ_ _ _=>nU λ_ _=> .val (.str x)
theorem zb7 {b j pos} :PE X (.Constant (.bool b) j pos) (zV X.K (vC (.bl b))):=xP znR λ_ _ _=>nU λ_ _=> .val (.bl b)
theorem tX {j pos} :PE X (.Constant .none j pos) (zV X.K (vC .non)):=xP zoa λ_ _ _=>nU λ_ _=> .val .non
theorem zg6 {x:Str}{v:V}{y:PV}{u:Value}{pos:Pos}(hg:Gl X x)(hm:X.mg x=some u)(r:zU v u)(hr: ∀A H,RE X.K A H y v)(hd:(x==("__debug__" :Str))=false:=by decide):PE X (.Name x pos) (zV X.K (vC y)):=xP (gD hg hm r hd) λ_ _ _=>nU hr
theorem zg7 {x:Str}{n:String}{pos:Pos}(hg:Gl X x)(hm:X.mg x=none)(hv:bootBuiltins x=some (.type n))(hn:x≠ "__name__" :=by decide)(hd:(x==("__debug__" :Str))=false:=by decide):PE X (.Name x pos) (zV X.K (vC (.ty n))):=
 xP (zbx (v:= .ty n) hg hm hv rfl hn hd) λ_ _ _=>nU λ_ _=> .val (.ty n)
def lB (R:R3)(Ta Tb:zG):zG:=λenv st Q=>Ta env st λx st1=>Tb env st1 λy st2=>R x y st2 Q
theorem iL {K:Frag}{R:R3}{σ:St}{H:Hp}{Q:VK} :zV K (lB R Ta Tb) σ H Q->jJ (wB K R) (zV K Ta) (zV K Tb) σ H Q:=by
 rintro⟨A,env,st,Q3,rel,h,k⟩;exact⟨A,env,st,_,rel,h,λA1 H1 st1 x v g1 s1 e1 h1=>⟨A1,env,st1,_,rel.grow g1 s1,h1,λA2 H2 st2 y w g2 s2 e2 h2=>⟨A2,st2,x,y,Q3,s2,e1.grow g2,e2,h2,k.after (g1.trans g2)⟩⟩⟩
theorem y6 {op:Operator}{R:R3}(ho:yN X (binaryOp op) (wB X.K R))(ha:PE X a (zV X.K Ta))(hb:PE X b (zV X.K Tb)):PE X (.BinOp a op b pos) (zV X.K (lB R Ta Tb)):=xP (o6 ho ha hb) λ_ _ _=>iL
theorem uC {op:CmpOp}{R:R3}(ho:yN X (compareOp op) (wB X.K R))(ha:PE X a (zV X.K Ta))(hb:PE X b (zV X.K Tb))(hm:behindInMarks op b=false):PE X (.Compare a [op] [b] pos) (zV X.K (lB R Ta Tb)):=xP (znW ho ha hb hm) λ_ _ _=>iL
theorem zD {R:R3}(hr:pB X (wB X.K R))(ha:PE X a (zV X.K Ta))(hb:PE X b (zV X.K Tb))(hs:zcS b):PE X (.Subscript a b pos) (zV X.K (lB R Ta Tb)):=xP (tR hr ha hb hs) λ_ _ _=>iL
def vUn (R:PV->z8->K3->Prop)(Ta:zG):zG:=λenv st Q=>Ta env st λx st1=>R x st1 Q
theorem zjD {K:Frag}{R:PV->z8->K3->Prop}{σ:St}{H:Hp}{Q:VK} :zV K (vUn R Ta) σ H Q->tUn (d5 K R) (zV K Ta) σ H Q:=by
 rintro⟨A,env,st,Q3,rel,h,k⟩;exact⟨A,env,st,_,rel,h,λA1 H1 st1 x v g1 s1 e1 h1=>⟨A1,st1,x,Q3,s1,e1,h1,k.after g1⟩⟩
theorem zb9 {op:UnaryOp}{R:PV->z8->K3->Prop}(ho:lV X (unaryOp op) (d5 X.K R))(ha:PE X a (zV X.K Ta)):PE X (.UnaryOp op a pos) (zV X.K (vUn R Ta)):=xP (zog ho ha) λ_ _ _=>zjD
def zcx (T:zG):xG:=λenv st Q=>T env st λx st1=>match x with | .bl k=>Q k st1 | _=>False
theorem zjC {K:Frag}{T:zG}{σ:St}{H:Hp}{Q:Bool->Hp->Prop} :xN K (zcx T) σ H Q->zh9 (zV K T) σ H Q:=by
 rintro⟨A,env,st,Q3,rel,h,k⟩;refine⟨A,env,st,_,rel,h,λA1 H1 st1 x v g1 s1 e1 h1=> ?_⟩;cases x with
 | bl b=>
  cases e1 with
  | val e1=>cases e1;exact⟨b,rfl,k A1 H1 st1 b g1 s1 h1⟩
 | _=>exact False.elim h1
theorem yB {op:CmpOp}{R:R3}(ho:yN X (compareOp op) (wB X.K R))(ha:PE X a (zV X.K Ta))(hb:PE X b (zV X.K Tb))(hm:behindInMarks op b=false):PT X (.Compare a [op] [b] pos) (xN X.K (zcx (lB R Ta Tb))):=by
 refine zb3 (tV ho ha hb hm) λσ H Q h=> ?_;have:=zjC h;exact iL this
def t8:PV->z8->(Bool->Prop)->Prop
 | .non,_,k=>k false
 | .bl b,_,k=>k b
 | .int i,_,k=>k (i !=0)
 | .str x,_,k=>x.length<=sizeLine/\k ((x.length:Int) !=0)
 | .tup xs,_,k=>k (!xs.isEmpty)
 | .lst xs,_,k=>k (!xs.isEmpty)
 | .dct xs,_,k=>k (!xs.isEmpty)
 | .obj i,st,k=>match st[i]? with | some (.lst xs)=>k (!xs.isEmpty) | some (.dct xs)=>k (!xs.isEmpty) | _=>False
 | _,_,_=>False
def zie (T:zG):xG:=λenv st Q=>T env st λx st1=>t8 x st1 λk=>Q k st1
theorem RVs.empty {K:Frag}{A:List Addr}{H:Hp}{xs:List PV}{vs:List V}(h:RVs K A H xs vs):vs.isEmpty=xs.isEmpty:=by
 cases h <;> rfl
theorem RKs.empty {K:Frag}{A:List Addr}{H:Hp}{xs:List (zA×PV)}{vs:List (zA×V)}(h:RKs K A H xs vs):vs.isEmpty=xs.isEmpty:=by
 cases h <;> rfl
theorem zq5 {K:Frag}{A:List Addr}{H:Hp}{st:z8}{x:PV}{v:V}{P:Bool->Prop}(s:RS K A H st)(e:RE K A H x v)(h:t8 x st P): ∃k,eN K v H k/\P k:=by
 cases e with
 | obj e=>
  dsimp only[t8]at h
  split at h
  ·rename_i xs q
   obtain⟨vs,h1,h2,_⟩:=s.at_ _ _ _ e q;exact⟨_,.inl ⟨vs,.of h1,by rw[h2.empty]⟩,h⟩
  ·rename_i xs q
   obtain⟨vs,h1,h2,_⟩:=s.at_ _ _ _ e q;exact⟨_,.inr (.inr ⟨vs,h1,by rw[h2.empty]⟩),h⟩
  ·exact h.elim
 | val e=>
  cases e with
  | non=>exact⟨_,rfl,h⟩
  | bl b=>exact⟨_,rfl,h⟩
  | int i=>exact⟨_,rfl,h⟩
  | str y=>exact⟨_,⟨h.1,rfl⟩,h.2⟩
  | ty n=>exact False.elim h
  | tup t z r=>exact⟨_,.inr (.inl ⟨_,t.sq,by rw[r.empty]⟩),h⟩
  | lst t z r=>exact⟨_,.inl ⟨_,t.sq,by rw[r.empty]⟩,h⟩
  | dct t z r=>exact⟨_,.inr (.inr ⟨_,t.1,by rw[r.empty]⟩),h⟩
  | itb e n=>exact False.elim h
  | clo e=>exact False.elim h
theorem zb_ (ha:PE X a (zV X.K Ta))(he: ∀whole,isTrue a X.env whole=(do let v <- whole;standAt a.pos;holding [v] (truthy v)):=by intro _;rfl):PT X a (xN X.K (zie Ta)):=by
 refine zb3 (zoB ha he) λσ H Q ⟨A,env,st,Q3,rel,h,k⟩=> ?_;refine⟨A,env,st,_,rel,h,λA1 H1 st1 x v g1 s1 e1 h1=> ?_⟩;obtain⟨b,hb,q⟩:=zq5 s1 e1 h1;exact⟨b,hb,k A1 H1 st1 b g1 s1 q⟩
def zcu (t u:xG):xG:=λenv st Q=>t env st λc st1=>if c=true then u env st1 Q else Q false st1
def vOr (t u:xG):xG:=λenv st Q=>t env st λc st1=>if c=true then Q true st1 else u env st1 Q
def zhV (t:xG):xG:=λenv st Q=>t env st λc st1=>Q (!c) st1
theorem zjA {K:Frag}{t u:xG}{σ:St}{H:Hp}{Q:Bool->Hp->Prop} :xN K (zcu t u) σ H Q->zh7 (xN K t) (xN K u) σ H Q:=by
 rintro⟨A,env,st,Q3,rel,h,k⟩;refine⟨A,env,st,_,rel,h,λA1 H1 st1 c g1 s1 h1=> ?_⟩;cases c with
 | true=>exact⟨A1,env,st1,Q3,rel.grow g1 s1,h1,k.after g1⟩
 | false=>exact k A1 H1 st1 false g1 s1 h1
theorem zjB {K:Frag}{t u:xG}{σ:St}{H:Hp}{Q:Bool->Hp->Prop} :xN K (vOr t u) σ H Q->tOr (xN K t) (xN K u) σ H Q:=by
 rintro⟨A,env,st,Q3,rel,h,k⟩;refine⟨A,env,st,_,rel,h,λA1 H1 st1 c g1 s1 h1=> ?_⟩;cases c with
 | false=>exact⟨A1,env,st1,Q3,rel.grow g1 s1,h1,k.after g1⟩
 | true=>exact k A1 H1 st1 true g1 s1 h1
variable {zB:List Expr}
theorem mO (ha:PT X a (xN X.K tc)):PW X (.BoolOp .And [a] pos) (xN X.K tc):=zoF ha
theorem zbA (ha:PT X a (xN X.K tc)):PW X (.BoolOp .Or [a] pos) (xN X.K tc):=zoH ha
theorem mN (ha:PT X a (xN X.K tc))(hb:PW X (.BoolOp .And (b::zB) pos) (xN X.K td)):PW X (.BoolOp .And (a::b::zB) pos) (xN X.K (zcu tc td)):=zg4 (zoE ha hb) λ_ _ _=>zjA
theorem gK (ha:PT X a (xN X.K tc))(hb:PW X (.BoolOp .Or (b::zB) pos) (xN X.K td)):PW X (.BoolOp .Or (a::b::zB) pos) (xN X.K (vOr tc td)):=zg4 (zoG ha hb) λ_ _ _=>zjB
theorem zoW (ha:PT X a (xN X.K tc)):PT X (.UnaryOp .Not a pos) (xN X.K (zhV tc)):=zb3 (zoA ha) λσ H Q ⟨A,env,st,Q3,rel,h,k⟩=>⟨A,env,st,_,rel,h,λA1 H1 st1 c g1 s1 h1=>k A1 H1 st1 (!c) g1 s1 h1⟩
def zhK (Ta Tb:zG):zG:=λenv st Q=>Ta env st λx st1=>match x with | .bl c=>if c=true then Tb env st1 Q else Q (.bl false) st1 | _=>False
def zhX (Ta Tb:zG):zG:=λenv st Q=>Ta env st λx st1=>match x with | .bl c=>if c=true then Q (.bl true) st1 else Tb env st1 Q | _=>False
def zhW (Ta:zG):zG:=λenv st Q=>Ta env st λx st1=>match x with | .bl c=>Q (.bl (!c)) st1 | _=>False
theorem zb8 {op}(h:PE X a (zV X.K Ta)):PE X (.BoolOp op [a] pos) (zV X.K Ta):=zoc h
theorem zg5 (ha:PE X a (zV X.K Ta))(hb:PE X (.BoolOp .And (b::zB) pos) (zV X.K Tb)):PE X (.BoolOp .And (a::b::zB) pos) (zV X.K (zhK Ta Tb)):=by
 refine xP (znQ ha hb) λσ H Q ⟨A,env,st,Q3,rel,h,k⟩=>⟨A,env,st,_,rel,h,λA1 H1 st1 x v g1 s1 e1 h1=> ?_⟩;cases x with
 | bl c=>
  cases e1 with
  | val e1=>
   cases e1;refine⟨c,rfl,?_⟩;cases c with
   | true=>exact⟨A1,env,st1,Q3,rel.grow g1 s1,h1,k.after g1⟩
   | false=>exact k A1 H1 st1 _ _ g1 s1 (.val (.bl _)) h1
 | _=>exact False.elim h1
theorem zoM (ha:PE X a (zV X.K Ta))(hb:PE X (.BoolOp .Or (b::zB) pos) (zV X.K Tb)):PE X (.BoolOp .Or (a::b::zB) pos) (zV X.K (zhX Ta Tb)):=by
 refine xP (zod ha hb) λσ H Q ⟨A,env,st,Q3,rel,h,k⟩=>⟨A,env,st,_,rel,h,λA1 H1 st1 x v g1 s1 e1 h1=> ?_⟩;cases x with
 | bl c=>
  cases e1 with
  | val e1=>
   cases e1;refine⟨c,rfl,?_⟩;cases c with
   | false=>exact⟨A1,env,st1,Q3,rel.grow g1 s1,h1,k.after g1⟩
   | true=>exact k A1 H1 st1 _ _ g1 s1 (.val (.bl _)) h1
 | _=>exact False.elim h1
theorem zoL (ha:PE X a (zV X.K Ta)):PE X (.UnaryOp .Not a pos) (zV X.K (zhW Ta)):=by
 refine xP (zob ha) λσ H Q ⟨A,env,st,Q3,rel,h,k⟩=>⟨A,env,st,_,rel,h,λA1 H1 st1 x v g1 s1 e1 h1=> ?_⟩;cases x with
 | bl c=>
  cases e1 with
  | val e1=>
   cases e1;exact⟨c,rfl,k A1 H1 st1 _ _ g1 s1 (.val (.bl _)) h1⟩
 | _=>exact False.elim h1
def vIf (t:xG)(Ta Tb:zG):zG:=λenv st Q=>t env st λc st1=>if c=true then Ta env st1 Q else Tb env st1 Q
def zhU:yS:=λ_ st Q=>Q [] st
def zhM (Ta:zG)(Tr:yS):yS:=λenv st Q=>Ta env st λx st1=>Tr env st1 λxs st2=>Q (x::xs) st2
theorem z6:PA X [] (vF X.K zhU):=zgh vQ λσ H Q ⟨A,env,st,Q3,rel,h,k⟩=>k A H st [] [] (.refl _ _) rel.rs .nil h
theorem z4 (ha:PE X e (zV X.K Ta))(hr:PA X es (vF X.K TA))(hs:starEach (e::es) X.env=(false,eval e X.env)::starEach es X.env:=by rfl):PA X (e::es) (vF X.K (zhM Ta TA)):=
 zgh (xW ha hr hs) λσ H Q ⟨A,env,st,Q3,rel,h,k⟩=>⟨A,env,st,_,rel,h,λA1 H1 st1 x v g1 s1 e1 h1=>⟨A1,env,st1,_,rel.grow g1 s1,h1,λA2 H2 st2 xs vs g2 s2 e2 h2=>k A2 H2 st2 _ _ (g1.trans g2) s2 (.cons (e1.grow g2) e2) h2⟩⟩
def yQ:PV->Bool
 | .obj _=>false
 | _=>true
def uB (xs:List PV):Bool:=xs.all yQ&&Nat.ble xs.length 1000
theorem RE.rv {K:Frag}{A:List Addr}{H:Hp}{x:PV}{v:V}(e:RE K A H x v)(h:yQ x=true):RV K A H x v:=by
 cases e with
 | val e=>exact e
 | obj e=>cases h
theorem yU.rvs {K:Frag}{A:List Addr}{H:Hp} : ∀{xs:List PV} {vs:List V},yU K A H xs vs->xs.all yQ=true->RVs K A H xs vs
 | _,_,.nil,_=> .nil
 | _,_,.cons r t,h=>by
  rw[List.all_cons,Bool.and_eq_true]at h;exact .cons (r.rv h.1) (yU.rvs t h.2)
theorem uB.both {xs:List PV}(h:uB xs=true):xs.all yQ=true/\xs.length<=sizeLine:=by
 unfold uB at h;rw[Bool.and_eq_true]at h;exact⟨h.1,Nat.le_trans (Nat.le_of_ble_eq_true h.2) (by decide)⟩
def zif (T:yS):zG:=λenv st Q=>T env st λxs st1=>uB xs=true/\Q (.tup xs) st1
def zhR (T:yS):zG:=λenv st Q=>T env st λxs st1=>uB xs=true/\Q (.lst xs) st1
def zhS (T:yS):zG:=λenv st Q=>T env st λxs st1=>uB xs=true/\Q (.obj st1.length) (st1++ [.lst xs])
theorem yO {x1}(h:PA X es (vF X.K TA)):PE X (.Tuple es x1 pos) (zV X.K (zif TA)):=by
 refine xP (zoe h) λσ H Q ⟨A,env,st,Q3,rel,h,k⟩=>⟨A,env,st,_,rel,h,λA1 H1 st1 xs vs g1 s1 e1 h1=> ?_⟩;obtain⟨o1,o2⟩:=uB.both h1.1;have hr:=e1.rvs o1;have hl:=hr.len;refine⟨by rw[<- hl];exact o2,λp hp=>k A1 _ st1 _ _ (g1.trans (.new hp)) (s1.new hp) (.val (.tup (.inl ⟨.inl xM,s1.fresh hp⟩) (by rw[<- hl];exact o2) (hr.grow (.new hp)))) h1.2⟩
theorem vR (h:PA X es (vF X.K TA)):PE X (.List es pos) (zV X.K (zhR TA)):=by
 refine xP (zgo h) λσ H Q ⟨A,env,st,Q3,rel,h,k⟩=>⟨A,env,st,_,rel,h,λA1 H1 st1 xs vs g1 s1 e1 h1=> ?_⟩;obtain⟨o1,o2⟩:=uB.both h1.1;have hr:=e1.rvs o1;have hl:=hr.len;refine⟨by rw[<- hl];exact o2,λp hp=>k A1 _ st1 _ _ (g1.trans (.new hp)) (s1.new hp) (.val (.lst (.inl ⟨.inl xM,s1.fresh hp⟩) (by rw[<- hl];exact o2) (hr.grow (.new hp)))) h1.2⟩
theorem zbp {A:List Addr}{n:Nat}{p:Addr}(h:A.length=n):(A++ [p])[n]?=some p:=by
 subst h;rw[List.getElem?_append_right (Nat.le_refl _),Nat.sub_self];rfl
theorem o7 (h:PA X es (vF X.K TA)):PE X (.List es pos) (zV X.K (zhS TA)):=by
 refine xP (zgo h) λσ H Q ⟨A,env,st,Q3,rel,h,k⟩=>⟨A,env,st,_,rel,h,λA1 H1 st1 xs vs g1 s1 e1 h1=> ?_⟩;obtain⟨o1,o2⟩:=uB.both h1.1;have hr:=e1.rvs o1;have hl:=hr.len;refine⟨by rw[<- hl];exact o2,λp hp=>k (A1++ [p]) _ _ _ _ (g1.trans (.newObj hp)) (s1.newObj (q:= .lst xs) hp ⟨vs,xM,hr.grow (.newObj hp),by rw[<- hl];exact o2⟩) (.obj (zbp s1.len)) h1.2⟩
def jM (R:y4)(T:yS):zG:=λenv st Q=>T env st λxs st1=>R xs st1 Q
theorem d7 {K:Frag}{R:y4}{σ:St}{H:Hp}{Q:VK} :zV K (jM R TA) σ H Q->tCB (v8 K R) (vF K TA) σ H Q:=by
 rintro⟨A,env,st,Q3,rel,h,k⟩;exact⟨A,env,st,_,rel,h,λA1 H1 st1 xs vs g1 s1 e1 h1=>⟨A1,st1,xs,Q3,s1,e1,h1,k.after g1⟩⟩
theorem xL {x:Str}{id:String}{R:y4}(hc:xB X (.builtin id) (v8 X.K R))(hg:Gl X x)(hm:X.mg x=none)(hv:bootBuiltins x=some (.builtin id))(ha:PA X (e::es) (vF X.K TA))(hn:x≠ "__name__" :=by decide)(hdb:(x==("__debug__" :Str))=false:=by decide)
  (he:starEach (e::es) X.env=(false,eval e X.env)::starEach es X.env:=by rfl) (hpl:(backTo pos (starEach es X.env)).any (·.1)=false:=by rfl):PE X (.Call (.Name x p) (e::es) [] pos) (zV X.K (jM R TA)):=
 xP (gC hc hg hm hv ha hn hdb he hpl) λ_ _ _=>d7
theorem xT {x:Str}{T:String}{R:y4}(hc:xB X (.type T) (v8 X.K R))(hg:Gl X x)(hm:X.mg x=none)(hv:bootBuiltins x=some (.type T))(ha:PA X (e::es) (vF X.K TA))(hn:x≠ "__name__" :=by decide)(hdb:(x==("__debug__" :Str))=false:=by decide)
  (he:starEach (e::es) X.env=(false,eval e X.env)::starEach es X.env:=by rfl) (hpl:(backTo pos (starEach es X.env)).any (·.1)=false:=by rfl):PE X (.Call (.Name x p) (e::es) [] pos) (zV X.K (jM R TA)):=
 xP (zgn hc hg hm hv ha hn hdb he hpl) λ_ _ _=>d7
theorem zL {x:Str}{S:y4}{k:Nat}{f:Addr}{fd:FuncData}{ps:List Str}(F:zJ X.prog X.w X.K X.mg X.base zI k f fd ps (zN X.K S))(hr:zX k X.A)(hg:Gl X x)(hm:X.mg x=some (.ref f))(hk:keepIn X.K (.ref f)=true)(hb:yH X.K fd ps [])
  (ha:PA X (e::es) (vF X.K TA)) (hdb:(x==("__debug__" :Str))=false:=by decide) (he:starEach (e::es) X.env=(false,eval e X.env)::starEach es X.env:=by rfl) (hpl:(backTo pos (starEach es X.env)).any (·.1)=false:=by rfl):
  PE X (.Call (.Name x p) (e::es) [] pos) (zV X.K (jM S TA)):=by
 refine xP (o5 F hr hg hm hk hb .nil qE ha hdb he hpl) λσ H Q h=> ?_;obtain⟨A,env,st,Q3,rel,h,k⟩:=d7 h;refine⟨A,env,st,Q3,rel,h,λA1 H1 st1 rs vs g1 s1 e1 h1=> ?_⟩;show zN X.K S (vs++ []) H1 Q E0;rw[List.append_nil];exact k A1 H1 st1 rs vs g1 s1 e1 h1
variable {sts rst:List Stmt} {stm:Stmt} {Ts Tu:xF}
def zhT:xF:=λD env st=>D.nx env st
def p7 (t u:xF):xF:=λD env st=>t {D with nx:=u D} env st
theorem yL:xQ X [] (w4 X.K zhT):=zb2 qI λD σ H ⟨A,env,st,D3,rel,h,k⟩=>k.nx A H σ env st (.refl _ _) rel h
theorem zP (h:PS X stm (w4 X.K Ts)):xQ X [stm] (w4 X.K Ts):=tU h
theorem zE (h1:PS X stm (w4 X.K Ts))(h2:xQ X rst (w4 X.K Tu)):xQ X (stm::rst) (w4 X.K (p7 Ts Tu)):=
 zb2 (tT h1 h2) λD σ H ⟨A,env,st,D3,rel,h,k⟩=>⟨A,env,st,_,rel,h,λA1 H1 σ1 env1 st1 g1 r1 h1=>⟨A1,env1,st1,D3,r1,h1,k.after g1⟩,k.rt,k.bk,k.ct⟩
def zqL:xF:=λD env st=>D.bk env st
def zqO:xF:=λD env st=>D.ct env st
def zhO (T:zG):xF:=λD env st=>T env st λ_ st1=>D.nx env st1
theorem rL (he:PE X e (zV X.K Ta))(hs:swapsWith e none pos.line X.env=pure false:=by rfl):PS X (.Expr e pos) (w4 X.K (zhO Ta)):=
 qH (zo7 he hs) λD σ H ⟨A,env,st,D3,rel,h,k⟩=>⟨A,env,st,_,rel,h,λA1 H1 st1 x v g1 s1 e1 h1=>k.nx A1 H1 σ env st1 g1 (rel.grow g1 s1) h1⟩
def zhZ (T:zG):xF:=λD env st=>T env st D.rt
theorem y7 (he:PE X e (zV X.K Ta)):PS X (.Return (some e) pos) (w4 X.K (zhZ Ta)):=qH (tS he) λD σ H ⟨A,env,st,D3,rel,h,k⟩=>⟨A,env,st,_,rel,h,k.rt⟩
def zqX:xF:=λD _ st=>D.rt .non st
def zcv (c:xG)(t u:xF):xF:=λD env st=>c env st λb st1=>if b=true then t D env st1 else u D env st1
theorem yI (hc:PT X c (xN X.K tc))(ha:xQ X sts (w4 X.K Ts))(hb:xQ X rst (w4 X.K Tu)):PS X (.If c sts rst pos) (w4 X.K (zcv tc Ts Tu)):=by
 refine qH (qG hc ha hb) λD σ H ⟨A,env,st,D3,rel,h,k⟩=>⟨A,env,st,_,rel,h,λA1 H1 st1 b g1 s1 h1=> ?_⟩;cases b with
 | true=>exact⟨A1,env,st1,D3,rel.grow g1 s1,h1,k.after g1⟩
 | false=>exact⟨A1,env,st1,D3,rel.grow g1 s1,h1,k.after g1⟩
variable {Tg:wA} {Tgs:r9}
def gN (i:Nat):wA:=λx env st Q=>Q (env.set i (some x)) st
theorem xJ.set {K:Frag}{A:List Addr}{H:Hp}{σ:St}{env:zO}{st:z8}(r:xJ K A H σ env st)(i:Nat){x:PV}{v:V}(e:RE K A H x v):xJ K A H (σ.set i (some v)) (env.set i (some x)) st:=by
 refine⟨r.rs,by rw[List.length_set,List.length_set];exact r.len,λj y h=> ?_⟩;by_cases hij:i=j
 ·subst hij
  have hl:i < env.length:=by have:=(List.getElem?_eq_some_iff.mp h).1;simpa using this
  rw[List.getElem?_set_self hl]at h;cases h;exact⟨v,List.getElem?_set_self (by rw[<- r.len];exact hl),e⟩
 ·rw[List.getElem?_set_ne hij]at h
  rw[List.getElem?_set_ne hij];exact r.at_ j y h
theorem d8 {K:Frag}{i:Nat}{v:V}{σ:St}{H:Hp}{Q:St->Hp->Prop} :uR K (gN i) v σ H Q->iY i v σ H Q:=by
 rintro⟨A,env,st,x,Q3,rel,e,h,k⟩;exact k A H _ _ st (.refl _ _) (rel.set i e) h
theorem yZ {i:Nat}{x:Str}(hN:X.N.Nodup)(hi:X.N[i]?=some x)(hx:rR X.env.scope x)(hf:X.fn x=true∨X.env.scope.names.lookup x=some .local:=by first | exact .inl rfl | exact .inr rfl | assumption):PG X (.Name x pos) (uR X.K (gN i)):=
 zgr (zoo hN hi hx hf) λ_ _ _ _=>d8
def gsN:r9:=λxs env st Q=>match xs with | []=>Q env st | _=>False
def gsC (g:wA)(gs:r9):r9:=λxs env st Q=>match xs with | x::r=>g x env st λenv1 st1=>gs r env1 st1 Q | []=>False
theorem rH:vU X [] (iK X.K gsN):=by
 refine zgs zos λvs σ H Q ⟨A,env,st,xs,Q3,rel,e,h,k⟩=> ?_;cases e with
 | nil=>exact⟨rfl,k A H σ env st (.refl _ _) rel h⟩
 | cons r t=>exact False.elim h
theorem wF (h1:PG X e (uR X.K Tg))(h2:vU X es (iK X.K Tgs))(hs:(assignEach (e::es) X.env).map (·.2)=assign e X.env::(assignEach es X.env).map (·.2):=by rfl):vU X (e::es) (iK X.K (gsC Tg Tgs)):=by
 refine zgs (zor h1 h2 hs) λvs σ H Q ⟨A,env,st,xs,Q3,rel,e,h,k⟩=> ?_;cases e with
 | nil=>exact False.elim h
 | cons r t=>exact⟨_,_,rfl,A,env,st,_,_,rel,r,h,λA1 H1 σ1 env1 st1 g1 r1 h1=>⟨A1,env1,st1,_,Q3,r1,yU.grow g1 t,h1,k.after g1⟩⟩
def gT (n:Nat)(gs:r9):wA:=λx env st Q=>match x with | .tup xs=>xs.length=n/\gs xs env st Q | .lst xs=>xs.length=n/\gs xs env st Q | _=>False
theorem RVs.res {K:Frag}{A:List Addr}{H:Hp}{xs:List PV}{vs:List V} :RVs K A H xs vs->yU K A H xs vs
 | .nil=> .nil
 | .cons r t=> .cons (.val r) (RVs.res t)
theorem rG {k:Nat}{n:Nat}(hc:X.calm=true)(h:vU X es (iK X.K Tgs))(hn:(assignEach es X.env).length=n:=by rfl)(hst:(assignEach es X.env).findIdx? (·.1)=none:=by rfl)
  (hn2:(assignEach es X.env).length=n:=by rfl) (hst2:(assignEach es X.env).findIdx? (·.1)=none:=by rfl):PG X (.Tuple es k pos) (uR X.K (gT n Tgs)):=by
 refine⟨λpins s σ H v u Q I r ⟨A,env,st,x,Q3,rel,e,q,k⟩=> ?_⟩;cases e with
 | obj e=>exact False.elim q
 | val e=>
  cases e with
  | tup t z rs=>exact(zoq hc h hn hst) pins s σ H _ u Q I r ⟨_,_,rfl,t.sq,by rw[<- rs.len];exact q.1,A,env,st,_,Q3,rel,rs.res,q.2,k⟩
  | lst t z rs=>exact(zon hc h hn hst) pins s σ H _ u Q I r ⟨_,_,rfl,t.sq,by rw[<- rs.len];exact q.1,A,env,st,_,Q3,rel,rs.res,q.2,k⟩
  | _=>exact False.elim q
def jL (T:zG)(g:wA):xF:=λD env st=>T env st λx st1=>g x env st1 D.nx
theorem d6 {K:Frag}{D:sD}{σ:St}{H:Hp} :w4 K (jL Ta Tg) D σ H->fG (zV K Ta) (uR K Tg) D σ H:=by
 rintro⟨A,env,st,D3,rel,h,k⟩;exact⟨A,env,st,_,rel,h,λA1 H1 st1 x v g1 s1 e1 h1=>⟨A1,env,st1,x,D3.nx,rel.grow g1 s1,e1,h1,k.nx.after g1⟩⟩
theorem qK {tg:Expr}(he:PE X e (zV X.K Ta))(hg:PG X tg (uR X.K Tg))(hs:swapsWithSole [tg] e pos.line X.env=pure false:=by rfl)(hw:swappedStores [tg] e X.env=pure none:=by rfl)
  (h1:(assignEach [tg] X.env).map (·.2)= [assign tg X.env]:=by rfl):PS X (.Assign [tg] e pos) (w4 X.K (jL Ta Tg)):=qH (zo6 he hg hs hw h1) λ_ _ _=>d6
theorem zY {i:Nat}{x:Str}{pos':Pos}(hN:X.N.Nodup)(hi:X.N[i]?=some x)(hx:rR X.env.scope x)(he:PE X e (zV X.K Ta))(hs:swapsWith e (some (.Name x pos')) pos.line X.env=pure false:=by rfl)(hf:X.fn x=true∨X.env.scope.names.lookup x=some .local:=by first | exact .inl rfl | exact .inr rfl | assumption):
  PS X (.Assign [.Name x pos'] e pos) (w4 X.K (jL Ta (gN i))):=by
 refine qH (zg0 hN hi hx he hs hf) λD σ H h=> ?_;obtain⟨A,env,st,Q3,rel,h,k⟩:=d6 h;exact⟨A,env,st,Q3,rel,h,λA1 H1 st1 r v g s e q=>d8 (k A1 H1 st1 r v g s e q)⟩
def zhY (i j:Nat)(T:yS):xF:=λD env st=>T env st λxs st1=>match xs with | [x,y]=>D.nx ((env.set i (some x)).set j (some y)) st1 | _=>False
theorem zoT {i j:Nat}{x y:Str}{px py pt:Pos}{kt k2 pt2}(hc:X.calm=true)(hN:X.N.Nodup)(hi:X.N[i]?=some x)(hj:X.N[j]?=some y)(hij:i≠j)
  (hx:X.env.scope.names.lookup x=some .local) (hy:X.env.scope.names.lookup y=some .local) (ha:PA X [a,b] (vF X.K TA))
  (hw:swappedStores [.Tuple [.Name x px,.Name y py] kt pt] (.Tuple [a,b] k2 pt2) X.env=pure (some [x,y]))
  (hs:swapsWithSole [.Tuple [.Name x px,.Name y py] kt pt] (.Tuple [a,b] k2 pt2) pos.line X.env=pure false:=by rfl):
  PS X (.Assign [.Tuple [.Name x px,.Name y py] kt pt] (.Tuple [a,b] k2 pt2) pos) (w4 X.K (zhY i j TA)):=by
 refine qH (zo9 hc hN hi hj hij hx hy ha hw hs) λD σ H ⟨A,env,st,D3,rel,h,k⟩=>⟨A,env,st,_,rel,h,λA1 H1 st1 xs vs g1 s1 e1 h1=> ?_⟩
 split at h1
 ·rename_i x y
  cases e1 with
  | cons r1 t=>
   cases t with
   | cons r2 t2=>
    cases t2;exact⟨_,_,rfl,k.nx A1 H1 _ _ st1 g1 (((rel.grow g1 s1).set i r1).set j r2) h1⟩
 ·exact h1.elim
end
end L3
namespace L3
open PySem PySem.Spec PyProof.Rows L2
def tE:xY->z8->Prop->Prop
 | none,_,P=>P
 | some (i,o),st,P=>st[i]?=some o/\P
theorem tE.of {src:xY}{st:z8}{P:Prop}(h:tE src st P):P:=by
 cases src with
 | none=>exact h
 | some q=>exact h.2
def gA:xY->z8->Prop
 | none,_=>True
 | some (i,o),st=>st[i]?=some o
theorem tE.ok {src:xY}{st:z8}{P:Prop}(h:tE src st P):gA src st:=by
 cases src with
 | none=>exact trivial
 | some q=>exact h.1
structure rQ (K:Frag)(A:List Addr)(H:Hp)(src:xY)(J:It)(xs:List PV):Prop where
 go: ∀(i:Nat) A' H' st,yC A H A' H'->RS K A' H' st->gA src st->i < xs.length->J.go i H'
 yld: ∀(i:Nat) (x:PV) A' H' st v H2,xs[i]?=some x->yC A H A' H'->RS K A' H' st->gA src st->J.yld i H' v H2->yC A' H' A' H2/\RS K A' H2 st/\RE K A' H2 x v
 stop: ∀A' H' st,yC A H A' H'->RS K A' H' st->gA src st->J.stop xs.length H'
 small:xs.length<=sizeLine
def rY (K:Frag)(I:vV):TI:=λσ H R=> ∃A env st Q3,xJ K A H σ env st/\I env st Q3/\∀A' H' st' src xs J,yC A H A' H'->RS K A' H' st'->rQ K A' H' src J xs->Q3 src xs st'->R J H'
def fW (g:wA)(b:xF)(src:xY)(xs:List PV)(D:xV)(env:zO)(st:z8):Prop:= ∃P:Nat->zO->z8->Prop,P 0 env st/\
 (∀i x env st,xs[i]?=some x->P i env st->tE src st (g x env st λe s=>b {D with nx:=P (i+1),ct:=P (i+1),bk:=D.nx} e s))/\(∀env st,P xs.length env st->tE src st (D.nx env st))
def zhP (I:vV)(g:wA)(b:xF):xF:=λD env st=>I env st λsrc xs st1=>fW g b src xs D env st1
section
variable {X:Cx} {a b c e tg iter:Expr} {es:List Expr} {pos p:Pos} {Ta Tb:zG} {TA:yS} {tc:xG} {Ti:vV} {Tg:wA} {Ts:xF} {body:List Stmt}
theorem gE {wi wi':TI}(h:PI X tg iter wi)(w: ∀σ H R,wi' σ H R->wi σ H R):PI X tg iter wi':=⟨λpins s σ H R I q=>h pins s σ H R I (w σ H R q)⟩
theorem o8 (hp:PassesOwn (model X.prog X.w) X.A X.env X.xe)(hc:X.calm=true)(hi:PI X tg iter (rY X.K Ti))(hg:PG X tg (uR X.K Tg))(hb:xQ X body (w4 X.K Ts))
  (hs: ∀x,foldedSetIterable iter X.env x=pure x:=by intro _;rfl):PS X (.For tg iter body [] pos) (w4 X.K (zhP Ti Tg Ts)):=by
 refine qH (zo8 hp hc hi hg hb hs) λD σ H ⟨A,env,st,D3,rel,h,k⟩=>⟨A,env,st,_,rel,h,λA1 H1 st1 src xs J g1 s1 it h1=> ?_⟩;obtain⟨P,p0,hP,hE⟩:=h1;refine⟨λi m σ' H'=>m=xs.length - i/\i<=xs.length/\∃A' env' st',yC A1 H1 A' H'/\xJ X.K A' H' σ' env' st'/\P i env' st',⟨_,rfl,Nat.zero_le _,A1,env,st1,.refl _ _,rel.grow g1 s1,p0⟩,?_⟩;rintro i m σ' H' ⟨rfl,hi,A',env',st',g',rel',p'⟩;by_cases hlt:i < xs.length
 ·have hx:xs[i]?=some xs[i]:=List.getElem?_eq_getElem hlt
  have hw:=hP i _ env' st' hx p';refine .inr ⟨it.go i A' H' st' g' rel'.rs hw.ok hlt,λσ2 H2=>i+1<=xs.length/\∃A' env' st',yC A1 H1 A' H2/\xJ X.K A' H2 σ2 env' st'/\P (i+1) env' st',λσ2 H2 q=>⟨_,by omega,rfl,q⟩,λv H2 y=> ?_⟩;obtain⟨g2,s2,e2⟩:=it.yld i _ A' H' st' v H2 hx g' rel'.rs hw.ok y;refine⟨A',env',st',_,_,rel'.grow g2 s2,e2,hw.of,λA3 H3 σ3 env3 st3 g3 r3 h3=> ?_⟩;have gg:=g'.trans (g2.trans g3);have k3:=k.after (g1.trans gg);exact⟨A3,env3,st3,_,r3,h3,λA4 H4 σ4 env4 st4 g4 r4 h4=>⟨hlt,A4,env4,st4,gg.trans g4,r4,h4⟩,k3.rt,k3.nx,λA4 H4 σ4 env4 st4 g4 r4 h4=>⟨hlt,A4,env4,st4,gg.trans g4,r4,h4⟩⟩
 ·have e:i=xs.length:=by omega
  subst e;have hw:=hE env' st' p';exact .inl ⟨it.stop A' H' st' g' rel'.rs hw.ok,k.nx A' H' σ' env' st' (g1.trans g') rel' hw.of⟩
def nG (own:Nat)(g:wA)(tt:xG)(el:zG)(src:xY)(xs:List PV)(Q:List PV->z8->Prop)(env:zO)(st:z8):Prop:= ∃P:Nat->List PV->zO->z8->Prop,P 0 [] (env++List.replicate own none) st/\
 (∀i x ys env st,xs[i]?=some x->P i ys env st->tE src st (g x env st λe s=>tt e s λb s2=>if b=true then el e s2 λy s3=>yQ y=true/\P (i+1) (ys++ [y]) e s3 else P (i+1) ys e s2))/\
 (∀ys env st,P xs.length ys env st->tE src st (Q ys st))
def fM (own:Nat)(I:vV)(g:wA)(tt:xG)(el:zG):zG:=λenv st Q=>I env st λsrc xs st1=>nG own g tt el src xs (λys st2=>Q (.lst ys) st2) env st1
def zqN (own:Nat)(I:vV)(g:wA)(tt:xG)(el:zG):zG:=λenv st Q=>I env st λsrc xs st1=>nG own g tt el src xs (λys st2=>Q (.obj st2.length) (st2++ [.lst ys])) env st1
def zig:xG:=λ_ st Q=>Q true st
theorem sW:PF X [] (xN X.K zig):=zom zok λσ H Q ⟨A,env,st,Q3,rel,h,k⟩=>k A H st true (.refl _ _) rel.rs h
theorem gI (h:PT X c (xN X.K tc)):PF X [c] (xN X.K tc):=zol h
theorem xJ.more {K:Frag}{A:List Addr}{H:Hp}{σ:St}{env:zO}{st:z8}(r:xJ K A H σ env st)(n:Nat):xJ K A H (σ++List.replicate n none) (env++List.replicate n none) st:=by
 refine⟨r.rs,by rw[List.length_append,List.length_append,r.len,List.length_replicate,List.length_replicate],λi x h=> ?_⟩;by_cases hi:i < env.length
 ·rw[List.getElem?_append_left hi]at h
  rw[List.getElem?_append_left (by rw[<- r.len];exact hi)];exact r.at_ i x h
 ·rw[List.getElem?_append_right (by omega),List.getElem?_replicate]at h
  split at h <;> cases h
theorem zj_ {K:Frag}{own:Nat}{g:wA}{tt:xG}{el:zG}{src:xY}{xs:List PV}{Q3:List PV->z8->Prop}{Q:VK}{A:List Addr}{H:Hp}{σ:St}{env:zO}{st:z8}{J:It}(rel:xJ K A H σ env st)(it:rQ K A H src J xs)
  (h:nG own g tt el src xs Q3 env st) (k: ∀A' H' st' ys vs,yC A H A' H'->RS K A' H' st'->RVs K A' H' ys vs->vs.length<=sizeLine->Q3 ys st'->∀D,H' D=none->Q (.ref D) (zQ H' D (.lst vs))):zc4 own J (uR K g) (xN K tt) (zV K el) Q σ H:=by
 obtain⟨P,p0,hP,hE⟩:=h;refine⟨λi m vs σ' H'=>m=xs.length - i/\i<=xs.length/\vs.length<=i/\∃A' env' st' ys,yC A H A' H'/\xJ K A' H' σ' env' st'/\RVs K A' H' ys vs/\P i ys env' st',⟨_,rfl,Nat.zero_le _,Nat.le_refl _,A,_,st,[],.refl _ _,rel.more own,.nil,p0⟩,?_⟩;rintro i m vs σ' H' ⟨rfl,hi,hv,A',env',st',ys,g',rel',rv,p'⟩;by_cases hlt:i < xs.length
 ·have hx:xs[i]?=some xs[i]:=List.getElem?_eq_getElem hlt
  have hw:=hP i _ ys env' st' hx p';refine .inr ⟨it.go i A' H' st' g' rel'.rs hw.ok hlt,Nat.lt_of_lt_of_le (Nat.lt_of_le_of_lt hv hlt) it.small,λvs σ2 H2=>i+1<=xs.length/\vs.length<=i+1/\∃A' env' st' ys,yC A H A' H2/\xJ K A' H2 σ2 env' st'/\RVs K A' H2 ys vs/\P (i+1) ys env' st',λvs σ2 H2 q=>⟨_,by omega,rfl,q⟩,λv H2 y=> ?_⟩;obtain⟨g2,s2,e2⟩:=it.yld i _ A' H' st' v H2 hx g' rel'.rs hw.ok y;refine⟨A',env',st',_,_,rel'.grow g2 s2,e2,hw.of,λA3 H3 σ3 env3 st3 g3 r3 h3=>⟨A3,env3,st3,_,r3,h3,λA4 H4 st4 b g4 s4 h4=> ?_⟩⟩;have gg:=g2.trans (g3.trans g4);cases b with
  | false=>exact⟨hlt,by omega,A4,env3,st4,ys,g'.trans gg,r3.grow g4 s4,rv.grow gg,h4⟩
  | true=>
   refine⟨A4,env3,st4,_,r3.grow g4 s4,h4,λA5 H5 st5 y v5 g5 s5 e5 h5=>⟨hlt,by rw[List.length_append,List.length_singleton];omega,A5,env3,st5,ys++ [y],g'.trans (gg.trans g5),(r3.grow g4 s4).grow g5 s5,?_,h5.2⟩⟩;exact(rv.grow (gg.trans g5)).append (.cons (e5.rv h5.1) .nil)
 ·have e:i=xs.length:=by omega
  subst e;have hw:=hE ys env' st' p';have hz:=Nat.le_trans hv it.small;exact .inl ⟨it.stop A' H' st' g' rel'.rs hw.ok,hz,k A' H' st' ys vs g' rel'.rs rv hz hw.of⟩
variable {N' own:List Str} {scope:Scope} {ifs:List Expr} {target:Expr} {te:zG} {tt:xG}
theorem zds {K:Frag}{own:Nat}{σ:St}{H:Hp}{Q:VK} :zV K (fM own Ti Tg tt te) σ H Q->zcl own (rY K Ti) (uR K Tg) (xN K tt) (zV K te) σ H Q:=by
 rintro⟨A,env,st,Q3,rel,h,k⟩;refine⟨A,env,st,_,rel,h,λA1 H1 st1 src xs J g1 s1 it h1=>zj_ (rel.grow g1 s1) it h1 λA2 H2 st2 ys vs g2 s2 r2 hz q D hD=> ?_⟩;exact k A2 _ st2 _ _ (g1.trans (g2.trans (.new hD))) (s2.new hD) (.val (.lst (.inl ⟨.inl xM,s2.fresh hD⟩) hz (r2.grow (.new hD)))) q
theorem uD {pos:Pos}(S:sY X scope N' own)(hc:X.calm=true)(hi:PI X target iter (rY X.K Ti))
  (hg: ∀C s H fp pins,PG (xR X scope (N'++own) C s H fp pins) target (uR X.K Tg)) (ht: ∀C s H fp pins,PF (xR X scope (N'++own) C s H fp pins) ifs (xN X.K tt)) (he: ∀C s H fp pins,PE (xR X scope (N'++own) C s H fp pins) a (zV X.K te))
  (hs: ∀x,foldedSetIterable iter X.env x=pure x:=by intro _;rfl):PE X (.ListComp a [⟨target,iter,ifs,0⟩] scope pos) (zV X.K (fM own.length Ti Tg tt te)):=xP (znX S hc hi hg ht he hs) λ_ _ _=>zds
theorem zlx {K:Frag}{A:List Addr}{H:Hp}{a:Addr}{xs:List PV}{vs:List V}(t:uL K A H a vs)(hz:vs.length<=sizeLine)(r:RVs K A H xs vs):rQ K A H none (i3 K a) xs where
 go:=λi A' H' st g s _ hi=>by
  rw[r.len]at hi;exact⟨vs,vs[i],(t.grow g).sq,by simp[hi]⟩
 yld:=λi x A' H' st v H2 hx g s _ y=>by
  obtain⟨rfl,y⟩:=y;obtain⟨w,ew,rw'⟩:=r.get hx;have:=y vs (t.grow g).sq;rw[ew]at this;cases this;exact⟨.refl _ _,s,.val (rw'.grow g)⟩
 stop:=λA' H' st g s _=>⟨vs,(t.grow g).sq,by rw[r.len];exact Nat.le_refl _⟩
 small:=by rw[r.len];exact hz
theorem zl0 {K:Frag}{A:List Addr}{H:Hp}{a:Addr}{xs:List PV}{vs:List V}(t:uO K A H a vs)(hz:vs.length<=sizeLine)(r:RVs K A H xs vs):rQ K A H none (eF K a) xs where
 go:=λi A' H' st g s _ hi=>by
  rw[r.len]at hi;exact⟨vs,vs[i],(t.grow g).sq,by simp[hi]⟩
 yld:=λi x A' H' st v H2 hx g s _ y=>by
  obtain⟨rfl,y⟩:=y;obtain⟨w,ew,rw'⟩:=r.get hx;have:=y vs (t.grow g).sq;rw[ew]at this;cases this;exact⟨.refl _ _,s,.val (rw'.grow g)⟩
 stop:=λA' H' st g s _=>⟨vs,(t.grow g).sq,by rw[r.len];exact Nat.le_refl _⟩
 small:=by rw[r.len];exact hz
theorem zly {K:Frag}{A:List Addr}{H:Hp}{i:Nat}{a:Addr}{xs:List PV}(e:A[i]?=some a)(hz:xs.length<=sizeLine):rQ K A H (some (i,.lst xs)) (i3 K a) xs where
 go:=λj A' H' st g s ok hi=>by
  obtain⟨vs,h,r,_⟩:=s.at_ i a _ (g.sub e) ok;rw[r.len]at hi;exact⟨vs,vs[j],.of h,by simp[hi]⟩
 yld:=λj x A' H' st v H2 hx g s ok y=>by
  obtain⟨rfl,y⟩:=y;obtain⟨vs,h,r,_⟩:=s.at_ i a _ (g.sub e) ok;obtain⟨w,ew,rw'⟩:=r.get hx;have:=y vs (.of h);rw[ew]at this;cases this;exact⟨.refl _ _,s,.val rw'⟩
 stop:=λA' H' st g s ok=>by
  obtain⟨vs,h,r,_⟩:=s.at_ i a _ (g.sub e) ok;exact⟨vs,.of h,by rw[r.len];exact Nat.le_refl _⟩
 small:=hz
def tY (lo:Int)(n:Nat):List PV:=(List.range n).map λi:Nat=> .int (lo+(i:Int))
theorem qM (lo:Int)(n:Nat):(tY lo n).length=n:=by unfold tY;rw[List.length_map,List.length_range]
theorem mS {lo:Int}{n i:Nat}{x:PV}(h:(tY lo n)[i]?=some x):i < n/\x= .int (lo+i):=by
 have hi:=(List.getElem?_eq_some_iff.mp h).1;rw[qM]at hi;unfold tY at h;rw[List.getElem?_map,List.getElem?_range hi]at h;exact⟨hi,(Option.some.inj h).symm⟩
theorem zfj {K:Frag}{A:List Addr}{H:Hp}{lo:Int}{n:Nat}(hz:n<=sizeLine):rQ K A H none (lM lo n) (tY lo n) where
 go:=λi A' H' st g s _ hi=>by rw[qM]at hi;exact hi
 yld:=λi x A' H' st v H2 hx g s _ y=>by
  obtain⟨rfl,rfl⟩:=y;obtain⟨_,rfl⟩:=mS hx;exact⟨.refl _ _,s,.val (.int _)⟩
 stop:=λA' H' st g s _=>by rw[qM];exact Nat.le_refl n
 small:=by rw[qM];exact hz
def zfb (T:yS):vV:=λenv st Q=>T env st λxs st1=>match xs with
 | [.int j]=>(-1000000<=j/\j<=1000000)/\Q none (tY 0 j.toNat) st1
 | _=>False
def zfc (T:yS):vV:=λenv st Q=>T env st λxs st1=>match xs with
 | [.int i,.int j]=>(-1000000<=i/\i<=1000000/\ -1000000<=j/\j<=1000000)/\Q none (tY i (j - i).toNat) st1
 | _=>False
end
end L3
namespace L3
open PySem PySem.Spec PyProof.Rows L2
section
variable {X:Cx}
theorem t6 {f:Value->Value->Sem Value}{R:R3}
  (h: ∀pins s σ H A st x y v w vv ww Q3 Q,z5 X pins σ H s->RS X.K A H st->RE X.K A H x v->RE X.K A H y w->zU v vv->zU w ww->R x y st Q3->Fin X.K A H Q3 Q->wpAny (model X.prog X.w) X.A (f vv ww) (EP X pins σ Q) X.xe s):yN X f (wB X.K R):=by
 rintro pins s σ H v w vv ww Q I rv rw ⟨A,st,x,y,Q3,rs,ex,ey,hR,k⟩;exact h pins s σ H A st x y v w vv ww Q3 Q I rs ex ey rv rw hR k
def zbP:R3:=λx y st Q=>match x,y with | .int i,.int j=>Q (.int (i - j)) st | _,_=>False
def gP:R3:=λx y st Q=>match x,y with
 | .int i,.int j=>((-(2 ^ 64) < i/\i < 2 ^ 64)∨(-(2 ^ 64) < j/\j < 2 ^ 64))/\Q (.int (i * j)) st
 | .str z,.int n=>if n=0 then Q (.str Str.empty) st else n=1/\Q (.str z) st
 | _,_=>False
def zbJ:R3:=λx y st Q=>match x,y with | .int i,.int j=>0 < j/\Q (.int (i % j)) st | _,_=>False
def zbC:R3:=λx y st Q=>match x,y with | .int i,.int j=>(0 < j/\j < 1099511627776)/\Q (.int (i / j)) st | _,_=>False
def zbM:R3:=λx y st Q=>match x,y with | .int i,.int j=>jO i j/\Q (.int (i ^ j.toNat)) st | _,_=>False
theorem znB {X:Cx} :yN X (binaryOp .FloorDiv) (rI (λ_ j=>0 < j/\j < 1099511627776) λi j=> .int (i / j)):=sU λi j _ _ _ _ _ hc q=>by
 have e:i.fdiv j=i / j:=Int.fdiv_eq_ediv_of_nonneg _ (by omega);rw[<- e]at q;refine PyProof.Rows.floordiv_int (by omega) q (.inl (PyProof.noPylong_of_log2 ?_));by_cases z:j.natAbs=0
 ·rw[z];decide
 ·have:=(Nat.log2_lt z).mpr (show j.natAbs < 2 ^ 40 by omega)
  omega
theorem x8 {K:Frag}{A:List Addr}{H:Hp}{i:Int}{v:V}(e:RE K A H (.int i) v):v= .int i:=by
 cases e with | val e=>cases e;rfl
theorem p5 {K:Frag}{A:List Addr}{H:Hp}{i:Str}{v:V}(e:RE K A H (.str i) v):v= .str i:=by
 cases e with | val e=>cases e;rfl
theorem zdl {K:Frag}{A:List Addr}{H:Hp}{i:Bool}{v:V}(e:RE K A H (.bl i) v):v= .bl i:=by
 cases e with | val e=>cases e;rfl
theorem tO:yN X (binaryOp .Sub) (wB X.K zbP):=t6 λpins s σ H A st x y v w vv ww Q3 Q I rs ex ey rv rw h k=>by
 unfold zbP at h
 split at h
 ·cases x8 ex;cases x8 ey
  exact zge pins s σ H _ _ vv ww Q I rv rw ⟨_,_,rfl,rfl,k.now rs (.val (.int _)) h⟩
 ·exact h.elim
theorem tN:yN X (binaryOp .Mult) (wB X.K gP):=t6 λpins s σ H A st x y v w vv ww Q3 Q I rs ex ey rv rw h k=>by
 unfold gP at h
 split at h
 ·cases x8 ex;cases x8 ey
  exact zgc pins s σ H _ _ vv ww Q I rv rw ⟨_,_,rfl,rfl,h.1,k.now rs (.val (.int _)) h.2⟩
 ·cases p5 ex;cases x8 ey
  rename_i z n;by_cases hn:n=0
  ·rw[if_pos hn]at h
   exact zgd pins s σ H _ _ vv ww Q I rv rw ⟨_,_,rfl,rfl,.inl ⟨hn,k.now rs (.val (.str _)) h⟩⟩
  ·rw[if_neg hn]at h
   exact zgd pins s σ H _ _ vv ww Q I rv rw ⟨_,_,rfl,rfl,.inr ⟨h.1,k.now rs (.val (.str _)) h.2⟩⟩
 ·exact h.elim
theorem wV:yN X (binaryOp .Mod) (wB X.K zbJ):=t6 λpins s σ H A st x y v w vv ww Q3 Q I rs ex ey rv rw h k=>by
 unfold zbJ at h
 split at h
 ·cases x8 ex;cases x8 ey
  exact gB pins s σ H _ _ vv ww Q I rv rw ⟨_,_,rfl,rfl,h.1,k.now rs (.val (.int _)) h.2⟩
 ·exact h.elim
theorem g8:yN X (binaryOp .FloorDiv) (wB X.K zbC):=t6 λpins s σ H A st x y v w vv ww Q3 Q I rs ex ey rv rw h k=>by
 unfold zbC at h
 split at h
 ·cases x8 ex;cases x8 ey
  exact znB pins s σ H _ _ vv ww Q I rv rw ⟨_,_,rfl,rfl,h.1,k.now rs (.val (.int _)) h.2⟩
 ·exact h.elim
theorem zmR:yN X (binaryOp .Pow) (wB X.K zbM):=t6 λpins s σ H A st x y v w vv ww Q3 Q I rs ex ey rv rw h k=>by
 unfold zbM at h
 split at h
 ·cases x8 ex;cases x8 ey
  exact znJ pins s σ H _ _ vv ww Q I rv rw ⟨_,_,rfl,rfl,h.1,k.now rs (.val (.int _)) h.2⟩
 ·exact h.elim
def zbK:PV->z8->K3->Prop:=λx st Q=>match x with | .int i=>Q (.int (-i)) st | _=>False
theorem zbo:lV X (unaryOp .USub) (d5 X.K zbK):=by
 rintro pins s σ H v vv Q I rv ⟨A,st,x,Q3,rs,ex,h,k⟩;unfold zbK at h
 split at h
 ·cases x8 ex
  exact zqH pins s σ H _ vv Q I rv ⟨_,rfl,k.now rs (.val (.int _)) h⟩
 ·exact h.elim
def mQ (f:Int->Int->Bool):R3:=λx y st Q=>match x,y with | .int i,.int j=>Q (.bl (f i j)) st | _,_=>False
theorem zbm {op:CmpOp}{f:Int->Int->Bool}(ho:yN X (compareOp op) (qL λi j=> .bl (f i j))):yN X (compareOp op) (wB X.K (mQ f)):=t6 λpins s σ H A st x y v w vv ww Q3 Q I rs ex ey rv rw h k=>by
 unfold mQ at h
 split at h
 ·cases x8 ex;cases x8 ey
  exact ho pins s σ H _ _ vv ww Q I rv rw ⟨_,_,rfl,rfl,k.now rs (.val (.bl _)) h⟩
 ·exact h.elim
theorem mK:yN X (compareOp .Lt) (wB X.K (mQ λi j=>decide (i < j))):=zbm zgb
theorem qB:yN X (compareOp .Gt) (wB X.K (mQ λi j=>decide (j < i))):=zbm znD
theorem zfM:yN X (compareOp .GtE) (wB X.K (mQ λi j=>decide (j<=i))):=zbm znC
def u7:PV->Bool
 | .non=>true
 | _=>false
def zbD:R3:=λx y st Q=>match y with | .non=>Q (.bl (u7 x)) st | _=>False
def zbL:R3:=λx y st Q=>match y with | .non=>Q (.bl (!u7 x)) st | _=>False
theorem zfi {K:Frag}{A:List Addr}{H:Hp}{x:PV}{v:V}(e:RE K A H x v):decide (v= .non)=u7 x:=by
 cases e with
 | obj e=>rfl
 | val e=>cases e <;> rfl
theorem zmL:yN X (compareOp .Is) (wB X.K zbD):=t6 λpins s σ H A st x y v w vv ww Q3 Q I rs ex ey rv rw h k=>by
 unfold zbD at h
 split at h
 ·have hw:w= .non:=by cases ey with | val e=>cases e;rfl
  exact znE pins s σ H _ _ vv ww Q I rv rw ⟨hw,by rw[zfi ex];exact k.now rs (.val (.bl _)) h⟩
 ·exact h.elim
theorem zmO:yN X (compareOp .IsNot) (wB X.K zbL):=t6 λpins s σ H A st x y v w vv ww Q3 Q I rs ex ey rv rw h k=>by
 unfold zbL at h
 split at h
 ·have hw:w= .non:=by cases ey with | val e=>cases e;rfl
  exact znI pins s σ H _ _ vv ww Q I rv rw ⟨hw,by rw[zfi ex];exact k.now rs (.val (.bl _)) h⟩
 ·exact h.elim
theorem znz:yN X (binaryOp .Add) (λx y H Q=> ∃a b xs ys,x= .ref a/\y= .ref b/\x4 X.K H a xs/\x4 X.K H b ys/\xs.length+ys.length<=sizeLine/\
  (xs= []->Q (.ref b) H)/\(ys= []->Q (.ref a) H)/\∀p,H p=none->Q (.ref p) (zQ H p (.tup (xs++ys)))):=by
 intro pins s σ H x y v u Q I rx ry h;obtain⟨a,b,xs,ys,rfl,rfl,ha,hb,hz,q1,q2,q3⟩:=h;by_cases hx:xs= []
 ·cases rx;cases ry
  subst hx;obtain⟨its,r1,p1,_⟩:=I.tuple ha;obtain⟨its2,r2,p2,_⟩:=I.tuple hb;have hv:its= []:=r1.nil_iff.mpr rfl;subst hv;obtain⟨⟨cls,dd,data,sl⟩,ho,hc,n,hd⟩:=id p1;obtain⟨⟨cls2,dd2,data2,sl2⟩,ho2,hc2,n2,hd2⟩:=id p2;simp only at hc hd hc2 hd2;subst hc hd hc2 hd2;exact concat_meets ⟨_,ho,rfl⟩ ⟨_,ho2,rfl⟩ noFill_tuple_add seq_tuple_add PySem.F.slot_tuple_add PySem.F.entry_tuple_add (PySem.F.args_tuple_add_2 _ _)
   (tuple_addW0 a b _ its2.toArray n n2 dd dd2 sl sl2 (by simp)) ⟨ho,ho2,⟨.ref b,H,I,rfl,q1 rfl⟩⟩
 ·exact znA pins s σ H _ _ v u Q I rx ry ⟨a,b,_,_,rfl,rfl,ha,hb,hx,hz,q2,λ_=>q3⟩
def mP:R3:=λx y st Q=>match x,y with
 | .int i,.int j=>Q (.int (i+j)) st
 | .str i,.str j=>i.length+j.length<=sizeLine/\Q (.str (i++j)) st
 | .tup xs,.tup ys=>xs.length+ys.length<=sizeLine/\Q (.tup (xs++ys)) st
 | .lst xs,.lst ys=>xs.length+ys.length<=sizeLine/\Q (.lst (xs++ys)) st
 | _,_=>False
theorem RVs.nil_iff {K:Frag}{A:List Addr}{H:Hp}{xs:List PV}{vs:List V}(h:RVs K A H xs vs):vs= []->xs= []:=by
 cases h with
 | nil=>exact λ_=>rfl
 | cons r t=>exact λz=>nomatch z
theorem Fin.tup {K:Frag}{A:List Addr}{H:Hp}{Q3:K3}{Q:VK}{st:z8}{xs:List PV}{vs:List V}(k:Fin K A H Q3 Q)(rs:RS K A H st)(r:RVs K A H xs vs)(hz:vs.length<=sizeLine)(q:Q3 (.tup xs) st): ∀p,H p=none->Q (.ref p) (zQ H p (.tup vs)):=
 λp hp=>k A _ st _ _ (.new hp) (rs.new hp) (.val (.tup (.inl ⟨.inl xM,rs.fresh hp⟩) hz (r.grow (.new hp)))) q
theorem Fin.lst {K:Frag}{A:List Addr}{H:Hp}{Q3:K3}{Q:VK}{st:z8}{xs:List PV}{vs:List V}(k:Fin K A H Q3 Q)(rs:RS K A H st)(r:RVs K A H xs vs)(hz:vs.length<=sizeLine)(q:Q3 (.lst xs) st): ∀p,H p=none->Q (.ref p) (zQ H p (.lst vs)):=
 λp hp=>k A _ st _ _ (.new hp) (rs.new hp) (.val (.lst (.inl ⟨.inl xM,rs.fresh hp⟩) hz (r.grow (.new hp)))) q
theorem Fin.lstO {K:Frag}{A:List Addr}{H:Hp}{Q3:K3}{Q:VK}{st:z8}{xs:List PV}{vs:List V}(k:Fin K A H Q3 Q)(rs:RS K A H st)(r:RVs K A H xs vs)(hz:vs.length<=sizeLine)(q:Q3 (.obj st.length) (st++ [.lst xs])): ∀p,H p=none->Q (.ref p) (zQ H p (.lst vs)):=
 λp hp=>k (A++ [p]) _ _ _ _ (.newObj hp) (rs.newObj (q:= .lst xs) hp ⟨vs,xM,r.grow (.newObj hp),hz⟩) (.obj (zbp rs.len)) q
theorem Fin.dctO {K:Frag}{A:List Addr}{H:Hp}{Q3:K3}{Q:VK}{st:z8}{xs:List (zA×PV)}{vs:List (zA×V)}(k:Fin K A H Q3 Q)(rs:RS K A H st)(r:RKs K A H xs vs)(hz:vs.length<=sizeLine)(q:Q3 (.obj st.length) (st++ [.dct xs])): ∀p,H p=none->Q (.ref p) (zQ H p (.dK vs)):=
 λp hp=>k (A++ [p]) _ _ _ _ (.newObj hp) (rs.newObj (q:= .dct xs) hp ⟨vs,xM,r.grow (.newObj hp),hz⟩) (.obj (zbp rs.len)) q
theorem Fin.dct {K:Frag}{A:List Addr}{H:Hp}{Q3:K3}{Q:VK}{st:z8}{xs:List (zA×PV)}{vs:List (zA×V)}(k:Fin K A H Q3 Q)(rs:RS K A H st)(r:RKs K A H xs vs)(hz:vs.length<=sizeLine)(q:Q3 (.dct xs) st): ∀p,H p=none->Q (.ref p) (zQ H p (.dK vs)):=
 λp hp=>k A _ st _ _ (.new hp) (rs.new hp) (.val (.dct ⟨xM,rs.fresh hp⟩ hz (r.grow (.new hp)))) q
theorem zn_:yN X (binaryOp .Add) (λx y H Q=> ∃a b xs ys,x= .ref a/\y= .ref b/\x5 X.K H a xs/\x5 X.K H b ys/\xs.length+ys.length<=sizeLine/\∀p,H p=none->Q (.ref p) (zQ H p (.lst (xs++ys)))):=by
 intro pins s σ H x y v u Q I rx ry h;obtain⟨a,b,xs,ys,rfl,rfl,ha,hb,hz,q⟩:=h;cases rx;cases ry;obtain⟨its,n,r1,e,_⟩:=I.listX ha;obtain⟨its2,n2,r2,e2,_⟩:=I.listX hb;have l1:=r1.length;have l2:=r2.length;refine PySem.P.add_list e e2 ?_ (by rw[List.size_toArray,List.size_toArray];omega);have ea:its.toArray++its2.toArray=(its++its2).toArray:=by simp
 rw[ea];exact⟨.ref _,_,I.lnew (t':=s.toks) (r1.append r2) (by rw[List.length_append];omega),rfl,q _ I.fresh⟩
theorem xH:yN X (binaryOp .Add) (wB X.K mP):=t6 λpins s σ H A st x y v w vv ww Q3 Q I rs ex ey rv rw h k=>by
 unfold mP at h
 split at h
 ·cases x8 ex;cases x8 ey
  exact zga pins s σ H _ _ vv ww Q I rv rw ⟨_,_,rfl,rfl,k.now rs (.val (.int _)) h⟩
 ·cases p5 ex;cases p5 ey
  exact znt pins s σ H _ _ vv ww Q I rv rw ⟨_,_,rfl,rfl,h.1,k.now rs (.val (.str _)) h.2⟩
 ·cases ex with | val ex=>cases ey with | val ey=>cases ex with | tup t z r=>cases ey with | tup t2 z2 r2=>
   have hl:_:=h.1;rw[r.len,r2.len]at hl;refine znz pins s σ H _ _ vv ww Q I rv rw ⟨_,_,_,_,rfl,rfl,t.sq,t2.sq,hl,λe=> ?_,λe=> ?_,k.tup rs (r.append r2) (by rw[List.length_append];exact hl) h.2⟩
   ·have e2:=r.nil_iff e
    subst e2;exact k.now rs (.val (.tup t2 z2 r2)) h.2
   ·have e2:=r2.nil_iff e
    subst e2;refine k.now rs (.val (.tup t z r)) ?_;have:=h.2;rw[List.append_nil]at this;exact this
 ·cases ex with | val ex=>cases ey with | val ey=>cases ex with | lst t z r=>cases ey with | lst t2 z2 r2=>
   have hl:_:=h.1;rw[r.len,r2.len]at hl;exact zn_ pins s σ H _ _ vv ww Q I rv rw ⟨_,_,_,_,rfl,rfl,t.sq,t2.sq,hl,k.lst rs (r.append r2) (by rw[List.length_append];exact hl) h.2⟩
 ·exact h.elim
end
end L3
namespace L3
open PySem PySem.Spec PyProof.Rows L2
mutual
def yD:PV->PV->Bool
 | .non,.non=>true
 | .bl a,.bl b=>a==b
 | .bl a,.int b=>(if a then 1 else 0)==b
 | .int a,.bl b=>a==(if b then 1 else 0)
 | .int a,.int b=>a==b
 | .str a,.str b=>a==b
 | .tup xs,.tup ys=>eqPs xs ys
 | .lst xs,.lst ys=>eqPs xs ys
 | _,_=>false
def eqPs:List PV->List PV->Bool
 | [],[]=>true
 | x::xs,y::ys=>yD x y&&eqPs xs ys
 | _,_=>false
end
mutual
def zH:PV->Nat
 | .tup xs=>dpts xs+1
 | .lst xs=>dpts xs+1
 | .dct _=>1000
 | .itb _=>1000
 | .clo _=>1000
 | .ty _=>1000
 | .obj _=>1000
 | _=>0
def dpts:List PV->Nat
 | []=>0
 | x::xs=>max (zH x) (dpts xs)
end
theorem iP: ∀{xs:List PV} {i:Nat} {x:PV},xs[i]?=some x->zH x<=dpts xs
 | y::ys,0,x,h=>by simp at h;subst h;unfold dpts;exact Nat.le_max_left _ _
 | y::ys,i+1,x,h=>by
  have:=iP (xs:=ys) (i:=i) (x:=x) (by simpa using h);unfold dpts;exact Nat.le_trans this (Nat.le_max_right _ _)
mutual
theorem nX: ∀(x:PV),zH x < 1000->yD x x=true
 | .non,_=>by unfold yD;rfl
 | .bl b,_=>by unfold yD;simp
 | .int i,_=>by unfold yD;simp
 | .str s,_=>by unfold yD;simp
 | .tup xs,h=>by unfold yD;exact eqPs_refl xs (by unfold zH at h;omega)
 | .lst xs,h=>by unfold yD;exact eqPs_refl xs (by unfold zH at h;omega)
 | .dct _,h=>by unfold zH at h;omega
 | .itb _,h=>by unfold zH at h;omega
 | .clo _,h=>by unfold zH at h;omega
 | .ty _,h=>by unfold zH at h;omega
 | .obj _,h=>by unfold zH at h;omega
theorem eqPs_refl: ∀(xs:List PV),dpts xs < 1000->eqPs xs xs=true
 | [],_=>by unfold eqPs;rfl
 | x::xs,h=>by
  unfold dpts at h;unfold eqPs;rw[nX x (by omega),eqPs_refl xs (by omega)];rfl
end
theorem iU: ∀(xs ys:List PV),eqPs xs ys=((List.range (min xs.length ys.length)).all (λj=>match xs[j]?,ys[j]? with | some x,some y=>yD x y | _,_=>true)&&xs.length==ys.length)
 | [],[]=>by unfold eqPs;rfl
 | [],y::ys=>by unfold eqPs;simp
 | x::xs,[]=>by unfold eqPs;simp
 | x::xs,y::ys=>by
  unfold eqPs;rw[iU xs ys];rw[List.length_cons,List.length_cons,Nat.succ_min_succ,List.range_succ_eq_map,List.all_cons,List.all_map];simp only[List.getElem?_cons_zero,Bool.and_assoc]
  congr 1
  have e:((λj=>match(x::xs)[j]?,(y::ys)[j]? with | some x,some y=>yD x y | _,_=>true) ∘ Nat.succ)=λj=>match xs[j]?,ys[j]? with | some x,some y=>yD x y | _,_=>true:=by
   funext j;simp
  rw[e]
  congr 1
  rw[Bool.eq_iff_iff];simp
section
variable {X:Cx} {pins:List (Addr×Obj)} {σ:St} {H:Hp} {s:Shared} {A:List Addr}
theorem z5.lst_tup (I:z5 X pins σ H s){a:Addr}{xs ys:List V}(h1:x5 X.K H a xs)(h2:x4 X.K H a ys):False:=by
 obtain⟨its,_,p,_⟩:=I.list h1;obtain⟨its2,_,p2,_⟩:=I.tuple h2;exact SeqAt.ne_of_list_tuple p.isList p2 rfl
mutual
theorem RV.inj (I:z5 X pins σ H s){x y:PV}{v:V}(a:RV X.K A H x v)(b:RV X.K A H y v)(h1:zH x < 1000)(h2:zH y < 1000):x=y:=by
 cases a with
 | non=>cases b;rfl
 | bl _=>cases b;rfl
 | int _=>cases b;rfl
 | str _=>cases b;rfl
 | ty _=>cases b;rfl
 | tup t z r=>
  cases b with
  | tup t2 z2 r2=>
   have e:=I.tuple_inj t.sq t2.sq;subst e;rw[RVs.inj2 I r r2 (by unfold zH at h1;omega) (by unfold zH at h2;omega)]
  | lst t2 z2 r2=>exact(z5.lst_tup I t2.sq t.sq).elim
  | dct _ _ _=>unfold zH at h2;omega
  | itb _ _=>unfold zH at h2;omega
  | clo _=>unfold zH at h2;omega
 | lst t z r=>
  cases b with
  | lst t2 z2 r2=>
   have e:=I.list_inj t.sq t2.sq;subst e;rw[RVs.inj2 I r r2 (by unfold zH at h1;omega) (by unfold zH at h2;omega)]
  | tup t2 z2 r2=>exact(z5.lst_tup I t.sq t2.sq).elim
  | dct _ _ _=>unfold zH at h2;omega
  | itb _ _=>unfold zH at h2;omega
  | clo _=>unfold zH at h2;omega
 | dct _ _ _=>unfold zH at h1;omega
 | itb _ _=>unfold zH at h1;omega
 | clo _=>unfold zH at h1;omega
theorem RVs.inj2 (I:z5 X pins σ H s){xs ys:List PV}{vs:List V}(a:RVs X.K A H xs vs)(b:RVs X.K A H ys vs)(h1:dpts xs < 1000)(h2:dpts ys < 1000):xs=ys:=by
 cases a with
 | nil=>cases b;rfl
 | cons r t=>
  cases b with
  | cons r2 t2=>
   unfold dpts at h1 h2;rw[RV.inj I r r2 (by omega) (by omega),RVs.inj2 I t t2 (by omega) (by omega)]
end
theorem mB {n:Nat}{B:Around}{xs ys:List PV}{vs ws:List V}{its its2:List Value}(rx:RVs X.K A H xs vs)(ry:RVs X.K A H ys ws)(r1:zR vs its)(r2:zR ws its2)
  (ih: ∀x y v w vv ww,zH x<=n->zH y < 1000->RV X.K A H x v->RV X.K A H y w->zU v vv->zU w ww->SeqAt.EqAt B s vv ww (yD x y)) (hx:dpts xs<=n) (hy:dpts ys < 1000):
  ∀j (h1:j < its.toArray.size) (h2:j < its2.toArray.size),SeqAt.EqAt B s its.toArray[j] its2.toArray[j] ((λj=>match xs[j]?,ys[j]? with | some x,some y=>yD x y | _,_=>true) j):=λj h1 h2=>by
 obtain⟨v,ev,rv⟩:=fS r1 h1;obtain⟨w,ew,rw'⟩:=fS r2 h2;obtain⟨x,ex,rx'⟩:=rx.get' ev;obtain⟨y,ey,ry'⟩:=ry.get' ew;show SeqAt.EqAt B s _ _ (match xs[j]?,ys[j]? with | some x,some y=>yD x y | _,_=>true);rw[ex,ey];exact ih x y v w _ _ (Nat.le_trans (iP ex) hx) (Nat.lt_of_le_of_lt (iP ey) hy) rx' ry' rv rw'
def gU:PV->PV->Bool
 | .tup _,.tup _=>true
 | .lst _,.lst _=>true
 | _,_=>false
inductive Kd (s:Shared):PV->Value->Prop
 | non:Kd s .non .none
 | bl (b:Bool):Kd s (.bl b) (.bool b)
 | int (i:Int) (t:Tok):Kd s (.int i) (.int i t)
 | str (z:Str) (t:Tok):Kd s (.str z) (.str z t)
 | tup {xs:List PV} {a:Addr} {its:Array Value} :IsTup s.heap a its->Kd s (.tup xs) (.ref a)
 | lst {xs:List PV} {a:Addr} {its:Array Value} :s.heap.IsList a its->Kd s (.lst xs) (.ref a)
theorem rD (I:z5 X pins σ H s){x:PV}{v:V}{vv:Value}(rx:RV X.K A H x v)(rv:zU v vv)(h:zH x < 1000):Kd s x vv:=by
 cases rx with
 | non=>cases rv;exact .non
 | bl b=>cases rv;exact .bl b
 | int i=>obtain⟨t,rfl⟩:=rv;exact .int i t
 | str z=>obtain⟨t,rfl⟩:=rv;exact .str z t
 | ty n=>unfold zH at h;omega
 | tup t z r=>cases rv;obtain⟨its,_,p,_⟩:=I.tuple t.sq;exact .tup p
 | lst t z r=>cases rv;obtain⟨its,_,p,_⟩:=I.list t.sq;exact .lst p.isList
 | dct t z r=>unfold zH at h;omega
 | itb _ _=>unfold zH at h;omega
 | clo _=>unfold zH at h;omega
local macro_rules | `(tactic| exact?)=> `(tactic| simp only[yD,Bool.not_false,Bool.not_true])
open SeqAt in
theorem zdM {B:Around}(hu:B.units < cLine): ∀{x y:PV} {vv ww:Value},Kd s x vv->Kd s y ww->gU x y=false->EqAt B s vv ww (yD x y)
 | _,_,_,_,.non,.non,_=>by exact?;exact EqAt.same _
 | _,_,_,_,.non,.bl b,_=>by exact?;exact EqAt.none_bool _
 | _,_,_,_,.non,.int b b2,_=>by exact?;exact EqAt.none_int _ _
 | _,_,_,_,.non,.str b b2,_=>by exact?;exact EqAt.none_str _ _
 | _,_,_,_,.non,.tup b,_=>by exact?;exact EqAt.none_tuple b hu
 | _,_,_,_,.non,.lst b,_=>by exact?;exact EqAt.none_list b hu
 | _,_,_,_,.bl a,.non,_=>by exact?;exact EqAt.bool_none _
 | _,_,_,_,.bl a,.bl b,_=>by exact?;exact EqAt.bool_bool _ _
 | _,_,_,_,.bl a,.int b b2,_=>by exact?;exact EqAt.bool_int _ _ _
 | _,_,_,_,.bl a,.str b b2,_=>by exact?;exact EqAt.bool_str _ _ _
 | _,_,_,_,.bl a,.tup b,_=>by exact?;exact EqAt.bool_tuple _ b hu
 | _,_,_,_,.bl a,.lst b,_=>by exact?;exact EqAt.bool_list _ b hu
 | _,_,_,_,.int a a2,.non,_=>by exact?;exact EqAt.int_none _ _
 | _,_,_,_,.int a a2,.bl b,_=>by exact?;exact EqAt.int_bool _ _ _
 | _,_,_,_,.int a a2,.int b b2,_=>by exact?;exact EqAt.int_int _ _ _ _
 | _,_,_,_,.int a a2,.str b b2,_=>by exact?;exact EqAt.int_str _ _ _ _
 | _,_,_,_,.int a a2,.tup b,_=>by exact?;exact EqAt.int_tuple _ _ b hu
 | _,_,_,_,.int a a2,.lst b,_=>by exact?;exact EqAt.int_list _ _ b hu
 | _,_,_,_,.str a a2,.non,_=>by exact?;exact EqAt.str_none _ _
 | _,_,_,_,.str a a2,.bl b,_=>by exact?;exact EqAt.str_bool _ _ _
 | _,_,_,_,.str a a2,.int b b2,_=>by exact?;exact EqAt.str_int _ _ _ _
 | _,_,_,_,.str a a2,.str b b2,_=>by exact?;exact EqAt.str_str _ _ _ _
 | _,_,_,_,.str a a2,.tup b,_=>by exact?;exact EqAt.str_tuple _ _ b hu
 | _,_,_,_,.str a a2,.lst b,_=>by exact?;exact EqAt.str_list _ _ b hu
 | _,_,_,_,.tup a,.non,_=>by exact?;exact EqAt.tuple_none a hu
 | _,_,_,_,.tup a,.bl b,_=>by exact?;exact EqAt.tuple_bool _ a hu
 | _,_,_,_,.tup a,.int b b2,_=>by exact?;exact EqAt.tuple_int _ _ a hu
 | _,_,_,_,.tup a,.str b b2,_=>by exact?;exact EqAt.tuple_str _ _ a hu
 | _,_,_,_,.tup _,.tup _,h=>Bool.noConfusion h
 | _,_,_,_,.tup a,.lst b,_=>by exact?;exact EqAt.tuple_list a b hu
 | _,_,_,_,.lst a,.non,_=>by exact?;exact EqAt.list_none a hu
 | _,_,_,_,.lst a,.bl b,_=>by exact?;exact EqAt.list_bool _ a hu
 | _,_,_,_,.lst a,.int b b2,_=>by exact?;exact EqAt.list_int _ _ a hu
 | _,_,_,_,.lst a,.str b b2,_=>by exact?;exact EqAt.list_str _ _ a hu
 | _,_,_,_,.lst a,.tup b,_=>by exact?;exact EqAt.list_tuple a b hu
 | _,_,_,_,.lst _,.lst _,h=>Bool.noConfusion h
open SeqAt in
theorem zpt {B:Around}(hu:B.units < cLine): ∀{x y:PV} {vv ww:Value},Kd s x vv->Kd s y ww->gU x y=false->RcAt B s vv ww (yD x y)
 | _,_,_,_,.non,.non,_=>by exact?;exact RcAt.none_none
 | _,_,_,_,.non,.bl b,_=>by exact?;exact RcAt.none_bool _
 | _,_,_,_,.non,.int b b2,_=>by exact?;exact RcAt.none_int _ _
 | _,_,_,_,.non,.str b b2,_=>by exact?;exact RcAt.none_str _ _
 | _,_,_,_,.non,.tup b,_=>by exact?;exact RcAt.none_tuple b hu
 | _,_,_,_,.non,.lst b,_=>by exact?;exact RcAt.none_list b hu
 | _,_,_,_,.bl a,.non,_=>by exact?;exact RcAt.bool_none _
 | _,_,_,_,.bl a,.bl b,_=>by exact?;exact RcAt.bool_bool _ _
 | _,_,_,_,.bl a,.int b b2,_=>by exact?;exact RcAt.bool_int _ _ _
 | _,_,_,_,.bl a,.str b b2,_=>by exact?;exact RcAt.bool_str _ _ _
 | _,_,_,_,.bl a,.tup b,_=>by exact?;exact RcAt.bool_tuple _ b hu
 | _,_,_,_,.bl a,.lst b,_=>by exact?;exact RcAt.bool_list _ b hu
 | _,_,_,_,.int a a2,.non,_=>by exact?;exact RcAt.int_none _ _
 | _,_,_,_,.int a a2,.bl b,_=>by exact?;exact RcAt.int_bool _ _ _
 | _,_,_,_,.int a a2,.int b b2,_=>by exact?;exact RcAt.int_int _ _ _ _
 | _,_,_,_,.int a a2,.str b b2,_=>by exact?;exact RcAt.int_str _ _ _ _
 | _,_,_,_,.int a a2,.tup b,_=>by exact?;exact RcAt.int_tuple _ _ b hu
 | _,_,_,_,.int a a2,.lst b,_=>by exact?;exact RcAt.int_list _ _ b hu
 | _,_,_,_,.str a a2,.non,_=>by exact?;exact RcAt.str_none _ _
 | _,_,_,_,.str a a2,.bl b,_=>by exact?;exact RcAt.str_bool _ _ _
 | _,_,_,_,.str a a2,.int b b2,_=>by exact?;exact RcAt.str_int _ _ _ _
 | _,_,_,_,.str a a2,.str b b2,_=>by exact?;exact RcAt.str_str _ _ _ _
 | _,_,_,_,.str a a2,.tup b,_=>by exact?;exact RcAt.str_tuple _ _ b hu
 | _,_,_,_,.str a a2,.lst b,_=>by exact?;exact RcAt.str_list _ _ b hu
 | _,_,_,_,.tup a,.non,_=>by exact?;exact RcAt.tuple_none a hu
 | _,_,_,_,.tup a,.bl b,_=>by exact?;exact RcAt.tuple_bool _ a hu
 | _,_,_,_,.tup a,.int b b2,_=>by exact?;exact RcAt.tuple_int _ _ a hu
 | _,_,_,_,.tup a,.str b b2,_=>by exact?;exact RcAt.tuple_str _ _ a hu
 | _,_,_,_,.tup _,.tup _,h=>Bool.noConfusion h
 | _,_,_,_,.tup a,.lst b,_=>by exact?;exact RcAt.tuple_list a b hu
 | _,_,_,_,.lst a,.non,_=>by exact?;exact RcAt.list_none a hu
 | _,_,_,_,.lst a,.bl b,_=>by exact?;exact RcAt.list_bool _ a hu
 | _,_,_,_,.lst a,.int b b2,_=>by exact?;exact RcAt.list_int _ _ a hu
 | _,_,_,_,.lst a,.str b b2,_=>by exact?;exact RcAt.list_str _ _ a hu
 | _,_,_,_,.lst a,.tup b,_=>by exact?;exact RcAt.list_tuple a b hu
 | _,_,_,_,.lst _,.lst _,h=>Bool.noConfusion h
open SeqAt in
theorem zp0 {B:Around}(hu:B.units < cLine): ∀{x y:PV} {vv ww:Value},Kd s x vv->Kd s y ww->gU x y=false->RcNeAt B s vv ww (!yD x y)
 | _,_,_,_,.non,.non,_=>by exact?;exact RcNeAt.none_none
 | _,_,_,_,.non,.bl b,_=>by exact?;exact RcNeAt.none_bool _
 | _,_,_,_,.non,.int b b2,_=>by exact?;exact RcNeAt.none_int _ _
 | _,_,_,_,.non,.str b b2,_=>by exact?;exact RcNeAt.none_str _ _
 | _,_,_,_,.non,.tup b,_=>by exact?;exact RcNeAt.none_tuple b hu
 | _,_,_,_,.non,.lst b,_=>by exact?;exact RcNeAt.none_list b hu
 | _,_,_,_,.bl a,.non,_=>by exact?;exact RcNeAt.bool_none _
 | _,_,_,_,.bl a,.bl b,_=>by exact?;exact RcNeAt.bool_bool _ _
 | _,_,_,_,.bl a,.int b b2,_=>by exact?;exact RcNeAt.bool_int _ _ _
 | _,_,_,_,.bl a,.str b b2,_=>by exact?;exact RcNeAt.bool_str _ _ _
 | _,_,_,_,.bl a,.tup b,_=>by exact?;exact RcNeAt.bool_tuple _ b hu
 | _,_,_,_,.bl a,.lst b,_=>by exact?;exact RcNeAt.bool_list _ b hu
 | _,_,_,_,.int a a2,.non,_=>by exact?;exact RcNeAt.int_none _ _
 | _,_,_,_,.int a a2,.bl b,_=>by exact?;exact RcNeAt.int_bool _ _ _
 | _,_,_,_,.int a a2,.int b b2,_=>by exact?;exact RcNeAt.int_int _ _ _ _
 | _,_,_,_,.int a a2,.str b b2,_=>by exact?;exact RcNeAt.int_str _ _ _ _
 | _,_,_,_,.int a a2,.tup b,_=>by exact?;exact RcNeAt.int_tuple _ _ b hu
 | _,_,_,_,.int a a2,.lst b,_=>by exact?;exact RcNeAt.int_list _ _ b hu
 | _,_,_,_,.str a a2,.non,_=>by exact?;exact RcNeAt.str_none _ _
 | _,_,_,_,.str a a2,.bl b,_=>by exact?;exact RcNeAt.str_bool _ _ _
 | _,_,_,_,.str a a2,.int b b2,_=>by exact?;exact RcNeAt.str_int _ _ _ _
 | _,_,_,_,.str a a2,.str b b2,_=>by exact?;exact RcNeAt.str_str _ _ _ _
 | _,_,_,_,.str a a2,.tup b,_=>by exact?;exact RcNeAt.str_tuple _ _ b hu
 | _,_,_,_,.str a a2,.lst b,_=>by exact?;exact RcNeAt.str_list _ _ b hu
 | _,_,_,_,.tup a,.non,_=>by exact?;exact RcNeAt.tuple_none a hu
 | _,_,_,_,.tup a,.bl b,_=>by exact?;exact RcNeAt.tuple_bool _ a hu
 | _,_,_,_,.tup a,.int b b2,_=>by exact?;exact RcNeAt.tuple_int _ _ a hu
 | _,_,_,_,.tup a,.str b b2,_=>by exact?;exact RcNeAt.tuple_str _ _ a hu
 | _,_,_,_,.tup _,.tup _,h=>Bool.noConfusion h
 | _,_,_,_,.tup a,.lst b,_=>by exact?;exact RcNeAt.tuple_list a b hu
 | _,_,_,_,.lst a,.non,_=>by exact?;exact RcNeAt.list_none a hu
 | _,_,_,_,.lst a,.bl b,_=>by exact?;exact RcNeAt.list_bool _ a hu
 | _,_,_,_,.lst a,.int b b2,_=>by exact?;exact RcNeAt.list_int _ _ a hu
 | _,_,_,_,.lst a,.str b b2,_=>by exact?;exact RcNeAt.list_str _ _ a hu
 | _,_,_,_,.lst a,.tup b,_=>by exact?;exact RcNeAt.list_tuple a b hu
 | _,_,_,_,.lst _,.lst _,h=>Bool.noConfusion h
theorem zcb (x y:PV):gU x y=false∨(∃xs ys,x= .tup xs/\y= .tup ys)∨∃xs ys,x= .lst xs/\y= .lst ys:=by
 cases x <;> cases y <;> first | exact .inl rfl | exact .inr (.inl ⟨_,_,rfl,rfl⟩) | exact .inr (.inr ⟨_,_,rfl,rfl⟩)
theorem zbQ {xs ys:List PV}{n m:Nat}(h1:xs.length=n)(h2:ys.length=m):((List.range (min n m)).all (λj=>match xs[j]?,ys[j]? with | some x,some y=>yD x y | _,_=>true)&&n==m)=eqPs xs ys:=by
 subst h1 h2;exact(iU xs ys).symm
theorem zbR {xs ys:List PV}{n m:Nat}(h1:xs.length=n)(h2:ys.length=m)(h:n=m):(List.range n).all (λj=>match xs[j]?,ys[j]? with | some x,some y=>yD x y | _,_=>true)=eqPs xs ys:=by
 rw[iU,h1,h2,<- h,Nat.min_self];simp
theorem dM {xs ys:List PV}(h:xs.length≠ys.length):eqPs xs ys=false:=by
 rw[iU];simp[h]
theorem iV (I:z5 X pins σ H s): ∀(n:Nat) (B:Around) (x y:PV) (v w:V) (vv ww:Value),B.units+n < cLine->zH x<=n->n < 1000->zH y < 1000->RV X.K A H x v->RV X.K A H y w->zU v vv->zU w ww->SeqAt.EqAt B s vv ww (yD x y):=by
 intro n
 induction n with
 | zero=>
  intro B x y v w vv ww hu hx hn hy rx ry rv rw;refine zdM (by omega) (rD I rx rv (by omega)) (rD I ry rw hy) ?_;cases x <;> first | (unfold zH at hx;omega) | rfl
 | succ n ih=>
  intro B x y v w vv ww hu hx hn hy rx ry rv rw;rcases zcb x y with h | ⟨xs,ys,rfl,rfl⟩ | ⟨xs,ys,rfl,rfl⟩
  ·exact zdM (by omega) (rD I rx rv (by omega)) (rD I ry rw hy) h
  ·cases rx with | tup t z r=>cases ry with | tup t2 z2 r2=>
    rename_i a vs b ws;cases rv;cases rw;by_cases hab:a=b
    ·subst hab
     have e:=RV.inj I (.tup t z r) (.tup t2 z2 r2) (by omega) hy;rw[e,nX _ hy];exact SeqAt.EqAt.same _
    ·obtain⟨its,r3,p,_⟩:=I.tuple t.sq
     obtain⟨its2,r4,p2,_⟩:=I.tuple t2.sq;have hh:=SeqAt.RcAt.tuples (A:=B) (show s.heap.IsTuple a its.toArray from p) (show s.heap.IsTuple b its2.toArray from p2) (by omega) (mB r r2 r3 r4 (λx y v w vv ww h1 h2=>ih B.in1 x y v w vv ww (by show B.units+1+n < cLine;omega) h1 (by omega) h2) (by unfold zH at hx;omega) (by unfold zH at hy;omega));rw[zbQ (by rw[r.len,r3.length];simp) (by rw[r2.len,r4.length];simp)]at hh;unfold yD;exact SeqAt.EqAt.of_refs hab hh
  ·cases rx with | lst t z r=>cases ry with | lst t2 z2 r2=>
    rename_i a vs b ws;cases rv;cases rw;by_cases hab:a=b
    ·subst hab
     have e:=RV.inj I (.lst t z r) (.lst t2 z2 r2) (by omega) hy;rw[e,nX _ hy];exact SeqAt.EqAt.same _
    ·obtain⟨its,r3,p,_⟩:=I.list t.sq
     obtain⟨its2,r4,p2,_⟩:=I.list t2.sq;have l1:xs.length=its.toArray.size:=by rw[r.len,r3.length];simp
     have l2:ys.length=its2.toArray.size:=by rw[r2.len,r4.length];simp
     unfold yD;refine SeqAt.EqAt.of_refs hab ?_;by_cases hl:its.toArray.size=its2.toArray.size
     ·have hh:=SeqAt.RcAt.lists (A:=B) p.isList p2.isList hl (by omega) (mB r r2 r3 r4 (λx y v w vv ww h1 h2=>ih B.in1 x y v w vv ww (by show B.units+1+n < cLine;omega) h1 (by omega) h2) (by unfold zH at hx;omega) (by unfold zH at hy;omega))
      rw[zbR l1 l2 hl]at hh;exact hh
     ·rw[dM (by omega)]
      exact SeqAt.RcAt.lists_lengths p.isList p2.isList (by simpa using hl) (by omega)
def zg9:R3:=λx y st Q=>(zH x<=50/\zH y < 1000)/\Q (.bl (yD x y)) st
def zg_:R3:=λx y st Q=>(zH x<=50/\zH y < 1000)/\Q (.bl (!yD x y)) st
theorem kX {x:PV}(h:zH x < 1000):yQ x=true:=by
 cases x <;> first | rfl | (unfold zH at h;omega)
theorem yK {k:Nat}(hr:zX k X.A):yN X (compareOp .Eq) (wB X.K zg9):=t6 λpins s σ H A st x y v w vv ww Q3 Q I rs ex ey rv rw h k=>by
 obtain⟨⟨h1,h2⟩,h⟩:=h;have hu:=hr.units;have rx:=ex.rv (kX (by omega));have ry:=ey.rv (kX h2);have fin: ∀b,b=yD x y->EP X pins σ Q (.bool b) s:=λb e=>⟨.bl b,H,I,rfl,by rw[e];exact k.now rs (.val (.bl _)) h⟩;rcases zcb x y with hn | ⟨xs,ys,rfl,rfl⟩ | ⟨xs,ys,rfl,rfl⟩
 ·exact zpt (by omega) (rD I rx rv (by omega)) (rD I ry rw h2) hn _ _ _ _ (fin _ rfl)
 ·cases rx with | tup t z r=>cases ry with | tup t2 z2 r2=>
   cases rv;cases rw;obtain⟨its,r3,p,_⟩:=I.tuple t.sq;obtain⟨its2,r4,p2,_⟩:=I.tuple t2.sq;refine SeqAt.RcAt.tuples (show s.heap.IsTuple _ its.toArray from p) (show s.heap.IsTuple _ its2.toArray from p2) (by omega) (mB (n:=50) r r2 r3 r4 (λx y v w vv ww h1 h2=>iV I 50 X.A.in1 x y v w vv ww (by show X.A.units+1+50 < cLine;omega) h1 (by omega) h2) (by unfold zH at h1;omega) (by unfold zH at h2;omega)) _ _ _ _ (fin _ ?_);rw[zbQ (by rw[r.len,r3.length];simp) (by rw[r2.len,r4.length];simp)];unfold yD;rfl
 ·cases rx with | lst t z r=>cases ry with | lst t2 z2 r2=>
   cases rv;cases rw;obtain⟨its,r3,p,_⟩:=I.list t.sq;obtain⟨its2,r4,p2,_⟩:=I.list t2.sq;have l1:xs.length=its.toArray.size:=by rw[r.len,r3.length];simp
   have l2:ys.length=its2.toArray.size:=by rw[r2.len,r4.length];simp
   by_cases hl:its.toArray.size=its2.toArray.size
   ·refine SeqAt.RcAt.lists p.isList p2.isList hl (by omega) (mB (n:=50) r r2 r3 r4 (λx y v w vv ww h1 h2=>iV I 50 X.A.in1 x y v w vv ww (by show X.A.units+1+50 < cLine;omega) h1 (by omega) h2) (by unfold zH at h1;omega) (by unfold zH at h2;omega)) _ _ _ _ (fin _ ?_)
    rw[zbR l1 l2 hl];unfold yD;rfl
   ·refine SeqAt.RcAt.lists_lengths p.isList p2.isList (by simpa using hl) (by omega) _ _ _ _ (fin _ ?_)
    unfold yD;rw[dM (by omega)]
theorem o4 {k:Nat}(hr:zX k X.A):yN X (compareOp .NotEq) (wB X.K zg_):=t6 λpins s σ H A st x y v w vv ww Q3 Q I rs ex ey rv rw h k=>by
 obtain⟨⟨h1,h2⟩,h⟩:=h;have hu:=hr.units;have rx:=ex.rv (kX (by omega));have ry:=ey.rv (kX h2);have fin: ∀b,b= !yD x y->EP X pins σ Q (.bool b) s:=λb e=>⟨.bl b,H,I,rfl,by rw[e];exact k.now rs (.val (.bl _)) h⟩;rcases zcb x y with hn | ⟨xs,ys,rfl,rfl⟩ | ⟨xs,ys,rfl,rfl⟩
 ·exact zp0 (by omega) (rD I rx rv (by omega)) (rD I ry rw h2) hn _ _ _ _ (fin _ rfl)
 ·cases rx with | tup t z r=>cases ry with | tup t2 z2 r2=>
   cases rv;cases rw;obtain⟨its,r3,p,_⟩:=I.tuple t.sq;obtain⟨its2,r4,p2,_⟩:=I.tuple t2.sq;refine(SeqAt.RcNeAt.tuples (show s.heap.IsTuple _ its.toArray from p) (show s.heap.IsTuple _ its2.toArray from p2) (by omega) (mB (n:=50) r r2 r3 r4 (λx y v w vv ww h1 h2=>iV I 50 X.A.in1 x y v w vv ww (by show X.A.units+1+50 < cLine;omega) h1 (by omega) h2) (by unfold zH at h1;omega) (by unfold zH at h2;omega))) _ _ _ _ (fin _ ?_);rw[zbQ (by rw[r.len,r3.length];simp) (by rw[r2.len,r4.length];simp)];unfold yD;rfl
 ·cases rx with | lst t z r=>cases ry with | lst t2 z2 r2=>
   cases rv;cases rw;obtain⟨its,r3,p,_⟩:=I.list t.sq;obtain⟨its2,r4,p2,_⟩:=I.list t2.sq;have l1:xs.length=its.toArray.size:=by rw[r.len,r3.length];simp
   have l2:ys.length=its2.toArray.size:=by rw[r2.len,r4.length];simp
   by_cases hl:its.toArray.size=its2.toArray.size
   ·refine(SeqAt.RcNeAt.lists p.isList p2.isList hl (by omega) (mB (n:=50) r r2 r3 r4 (λx y v w vv ww h1 h2=>iV I 50 X.A.in1 x y v w vv ww (by show X.A.units+1+50 < cLine;omega) h1 (by omega) h2) (by unfold zH at h1;omega) (by unfold zH at h2;omega))) _ _ _ _ (fin _ ?_)
    rw[zbR l1 l2 hl];unfold yD;rfl
   ·refine(SeqAt.RcNeAt.lists_lengths p.isList p2.isList (by simpa using hl) (by omega)) _ _ _ _ (fin _ ?_)
    unfold yD;rw[dM (by omega)];rfl
end
end L3
namespace L3
open PySem PySem.Spec PyProof.Rows L2
def yY (kvs:List (zA×PV))(k:zA):Option PV:=(kvs.find? λkv=>decide (kv.1=k)).map (·.2)
def wS (kvs:List (zA×PV))(k:zA)(v:PV):List (zA×PV):=
 if(kvs.any λkv=>decide (kv.1=k))=true then kvs.map (λkv=>if kv.1=k then(kv.1,v)else kv)else kvs++ [(k,v)]
def wP:PV->Option zA
 | .int i=>some (.inl i)
 | .str x=>some (.inr x)
 | _=>none
section
variable {K:Frag} {A:List Addr} {H:Hp}
theorem RKs.val {k:zA} : ∀{kvs:List (zA×PV)} {us:List (zA×V)},RKs K A H kvs us->(∃x v,yY kvs k=some x/\vS us k=some v/\RV K A H x v)∨(yY kvs k=none/\vS us k=none)
 | _,_,.nil=> .inr ⟨rfl,rfl⟩
 | _,_,.cons (k:=k') (x:=x) (v:=v) (xs:=xs) (vs:=vs) r t=>by
  by_cases e:k'=k
  ·refine .inl ⟨x,v,?_,?_,r⟩
   ·unfold yY;rw[List.find?_cons,decide_eq_true e];rfl
   ·exact fR e
  ·have e1:yY ((k',x)::xs) k=yY xs k:=by unfold yY;rw[List.find?_cons,decide_eq_false e]
   have e2:vS ((k',v)::vs) k=vS vs k:=fQ e;rw[e1,e2];exact RKs.val t
theorem RKs.any {k:zA} : ∀{kvs:List (zA×PV)} {us:List (zA×V)},RKs K A H kvs us->(us.any λkv=>decide (kv.1=k))=(kvs.any λkv=>decide (kv.1=k))
 | _,_,.nil=>rfl
 | _,_,.cons r t=>by rw[List.any_cons,List.any_cons,RKs.any t]
theorem RKs.map {k:zA}{x:PV}{v:V}(r:RV K A H x v): ∀{kvs:List (zA×PV)} {us:List (zA×V)},RKs K A H kvs us->RKs K A H (kvs.map λkv=>if kv.1=k then(kv.1,x)else kv) (us.map λkv=>if kv.1=k then(kv.1,v)else kv)
 | _,_,.nil=> .nil
 | _,_,.cons (k:=k') r' t=>by
  rw[List.map_cons,List.map_cons];by_cases e:k'=k
  ·rw[if_pos e,if_pos e];exact .cons r (RKs.map r t)
  ·rw[if_neg e,if_neg e];exact .cons r' (RKs.map r t)
theorem RKs.append: ∀{a b:List (zA×PV)} {c d:List (zA×V)},RKs K A H a c->RKs K A H b d->RKs K A H (a++b) (c++d)
 | _,_,_,_,.nil,h=>h
 | _,_,_,_,.cons r t,h=> .cons r (RKs.append t h)
theorem RKs.put {k:zA}{x:PV}{v:V}(r:RV K A H x v){kvs:List (zA×PV)}{us:List (zA×V)}(h:RKs K A H kvs us):RKs K A H (wS kvs k x) (wX us k v):=by
 unfold wS wX;rw[h.any]
 split
 ·exact h.map r
 ·exact h.append (.cons r .nil)
theorem q9 {y:PV}{w:V}{k:zA}(e:RE K A H y w)(h:wP y=some k):w=kV k:=by
 cases e with
 | obj e=>cases h
 | val e=>cases e <;> first | cases h;rfl | cases h
end
section
variable {X:Cx} {a b e:Expr} {es:List Expr} {pos p2:Pos} {Ta Tb:zG} {TA:yS}
def o9:R3:=λx y st Q=>match x with
 | .tup xs=>match y with | .int i=>(match atI xs i with | some z=>Q z st | none=>False) | _=>False
 | .lst xs=>match y with | .int i=>(match atI xs i with | some z=>Q z st | none=>False) | _=>False
 | .str z=>match y with | .int i=>z.length<=sizeLine/\(match atI z.cps.toList i with | some c=>Q (.str ⟨#[c]⟩) st | none=>False) | _=>False
 | .dct kvs=>(match wP y with | some k=>(match yY kvs k with | some z=>Q z st | none=>False) | none=>False)
 | .obj n=>(match st[n]? with
  | some (.lst xs)=>(match y with | .int i=>(match atI xs i with | some z=>Q z st | none=>False) | _=>False)
  | some (.dct kvs)=>(match wP y with | some k=>(match yY kvs k with | some z=>Q z st | none=>False) | none=>False)
  | _=>False)
 | _=>False
theorem RVs.atI {K:Frag}{A:List Addr}{H:Hp}{xs:List PV}{vs:List V}{i:Int}{x:PV}(r:RVs K A H xs vs)(h:L2.atI xs i=some x): ∃v,L2.atI vs i=some v/\RV K A H x v:=by
 unfold L2.atI at h⊢
 rw[<- r.len];cases e:wD xs.length i with
 | none=>rw[e]at h;cases h
 | some j=>rw[e]at h;exact r.get h
theorem zfo {k:Nat}(hr:zX k X.A):pB X (λx y H Q=> ∃a v,x= .ref a/\nH H a y (some v)/\Q v H):=by
 intro value slice pins s σ H x y vv ww Q I rx ry h hs;obtain⟨a,v,rfl,g,q⟩:=h;cases rx;have hT:=zjS I g;unfold subscriptTail;refine wpAny_bind ?_;rw[getitemInPython_of_ne hT.not_modules];refine wpAny_bind (wpAny_specialOf hT PySem.F.slot_dict_getitem.lookup ?_);have fin:wpAny (model X.prog X.w) X.A (subscripted slice false (.ref a) ww) (λr s₃=>wpAny (model X.prog X.w) X.A (letTemporaryGo value (.ref a) r >>= λ_=>pure r) (EP X pins σ Q) X.xe s₃) X.xe s:=by
  rw[hs];exact wpAny_operating (zjK (by have:=hr.units;omega) I g ry λw' s3 I3 rw'=>wpAny_bind (wpAny_letTemporaryGo (wpAny_pure ⟨v,H,I3,rw',q⟩)))
 first
  | exact wpAny_pure (wpAny_bind fin)
  | exact wpAny_bind (wpAny_pure (wpAny_bind fin))
  | exact wpAny_bind fin
theorem zC {k:Nat}(hr:zX k X.A):pB X (wB X.K o9):=by
 intro value slice pins s σ H v w vv ww Q I rv rw ⟨A,st,x,y,Q3,rs,ex,ey,h,k⟩ hs;unfold o9 at h
 split at h
 ·-- tuples
  cases ex with | val ex=>cases ex with | tup t z r=>
   split at h
   ·cases x8 ey
    split at h
    ·rename_i i q z' e
     obtain⟨v',e',r'⟩:=r.atI e;exact tM value slice pins s σ H _ _ vv ww Q I rv rw ⟨_,_,_,_,rfl,rfl,t.sq,e',k.now rs (.val r') h⟩ hs
    ·exact h.elim
   ·exact h.elim
 ·cases ex with | val ex=>cases ex with | lst t z r=>
   split at h
   ·cases x8 ey
    split at h
    ·rename_i i q z' e
     obtain⟨v',e',r'⟩:=r.atI e;exact zfp value slice pins s σ H _ _ vv ww Q I rv rw ⟨_,_,_,_,rfl,rfl,t.sq,e',k.now rs (.val r') h⟩ hs
    ·exact h.elim
   ·exact h.elim
 ·cases p5 ex
  split at h
  ·cases x8 ey
   obtain⟨hz,h⟩:=h
   split at h
   ·rename_i i q c e
    exact zl6 value slice pins s σ H _ _ vv ww Q I rv rw ⟨_,_,_,rfl,rfl,hz,e,k.now rs (.val (.str _)) h⟩ hs
   ·exact h.elim
  ·exact h.elim
 ·cases ex with | val ex=>cases ex with | dct t z r=>
   split at h
   ·rename_i kk ek
    split at h
    ·rename_i z' e
     rcases r.val (k:=kk)with⟨x',v',e1,e2,r'⟩ | ⟨e1,e2⟩
     ·rw[e]at e1;cases e1
      exact zfo hr value slice pins s σ H _ _ vv ww Q I rv rw ⟨_,v',rfl,.inl ⟨_,kk,.inl t.1,q9 ey ek,e2.symm⟩,k.now rs (.val r') h⟩ hs
     ·rw[e]at e1;cases e1
    ·exact h.elim
   ·exact h.elim
 ·cases ex with
  | val ex=>cases ex
  | obj eo=>
   split at h
   ·rename_i n xs q
    obtain⟨vs,h1,r,hzz⟩:=rs.at_ _ _ _ eo q
    split at h
    ·cases x8 ey
     split at h
     ·rename_i i q z' e
      obtain⟨v',e',r'⟩:=r.atI e;exact zfp value slice pins s σ H _ _ vv ww Q I rv rw ⟨_,_,_,_,rfl,rfl,.of h1,e',k.now rs (.val r') h⟩ hs
     ·exact h.elim
    ·exact h.elim
   ·rename_i n kvs q
    obtain⟨us,h1,r,hzz⟩:=rs.at_ _ _ _ eo q
    split at h
    ·rename_i kk ek
     split at h
     ·rename_i z' e
      rcases r.val (k:=kk)with⟨x',v',e1,e2,r'⟩ | ⟨e1,e2⟩
      ·rw[e]at e1;cases e1
       exact zfo hr value slice pins s σ H _ _ vv ww Q I rv rw ⟨_,v',rfl,.inl ⟨_,kk,.inl h1,q9 ey ek,e2.symm⟩,k.now rs (.val r') h⟩ hs
      ·rw[e]at e1;cases e1
     ·exact h.elim
    ·exact h.elim
   ·exact h.elim
 ·exact h.elim
def j5:PV->PV->PV->z8->(z8->Prop)->Prop:=λo i v st Q=>match o with
 | .obj n=>(match st[n]? with
  | some (.lst xs)=>(match i with | .int k=>yQ v=true/\(match wD xs.length k with | some j=>Q (st.set n (.lst (xs.set j v))) | none=>False) | _=>False)
  | some (.dct kvs)=>(match wP i with | some k=>yQ v=true/\kvs.length < sizeLine/\Q (st.set n (.dct (wS kvs k v))) | none=>False)
  | _=>False)
 | _=>False
def zj7 (K:Frag):V->V->V->Hp->(Hp->Prop)->Prop:=λo i v H Q=> ∃A st x y z Q3,RS K A H st/\RE K A H x o/\RE K A H y i/\RE K A H z v/\j5 x y z st Q3/\∀A' H' st',yC A H A' H'->RS K A' H' st'->Q3 st'->Q H'
theorem RVs.set {K:Frag}{A:List Addr}{H:Hp}{x:PV}{v:V}(rx:RV K A H x v): ∀{xs:List PV} {vs:List V} (j:Nat),RVs K A H xs vs->RVs K A H (xs.set j x) (vs.set j v)
 | _,_,_,.nil=> .nil
 | _,_,0,.cons _ t=> .cons rx t
 | _,_,j+1,.cons r t=> .cons r (RVs.set rx j t)
theorem zp9 {k:Nat}(hr:zX k X.A):eJ X (zj7 X.K):=by
 intro pins s σ H o i v ov iv u Q I ro ri rv ⟨A,st,x,y,z,Q3,rs,ex,ey,ez,h,k⟩;unfold j5 at h
 split at h
 ·cases ex with
  | val ex=>cases ex
  | obj eo=>
   have hm:=List.mem_of_getElem? eo
   split at h
   ·rename_i n xs q
    obtain⟨vs,h1,r,hzz⟩:=rs.at_ _ _ _ eo q
    split at h
    ·cases x8 ey
     obtain⟨hz,h⟩:=h
     split at h
     ·rename_i kk q2 j e
      rw[r.len]at e;exact zpO pins s σ H _ _ _ ov iv u Q I ro ri rv ⟨_,vs,_,j,rfl,rfl,h1,e,k A _ _ (.put hm) (rs.put (q:= .lst (xs.set j z)) eo ⟨_,xM,RVs.set ((ez.rv hz).grow (.put hm)) j (r.grow (.put hm)),by rw[List.length_set];exact hzz⟩) h⟩
     ·exact h.elim
    ·exact h.elim
   ·rename_i n kvs q
    obtain⟨us,h1,r,hzz⟩:=rs.at_ _ _ _ eo q
    split at h
    ·rename_i kk ek
     obtain⟨hz,hl,h⟩:=h;cases ro;refine zjN (by have:=hr.units;omega) I (.inl ⟨us,kk,h1,q9 ey ek,by rw[<- r.len];exact hl,rfl⟩) ri rv λs' I'=>⟨_,I',k A _ _ (.put hm) (rs.put (q:= .dct (wS kvs kk z)) eo ⟨_,xM,RKs.put ((ez.rv hz).grow (.put hm)) (r.grow (.put hm)),Nat.le_trans (h9 us kk v) (by rw[<- r.len];exact hl)⟩) h⟩
    ·exact h.elim
   ·exact h.elim
 ·exact h.elim
def gS (To Ti:zG):wA:=λv env st Q=>To env st λo st1=>Ti env st1 λi st2=>j5 o i v st2 λst3=>Q env st3
theorem mM {k:Nat}(hr:zX k X.A)(ho:PE X a (zV X.K Ta))(hi:PE X b (zV X.K Tb))
  (ha: ∀v,assign (.Subscript a b pos) X.env v=(do
   let ov <- holding [v] (eval a X.env)
   let iv <- holding [v,ov] (eval b X.env)
   standAt pos
   holding [v,ov,iv] (setItem ov iv v)
   release [v,ov,iv] []):=by intro _;rfl):PG X (.Subscript a b pos) (uR X.K (gS Ta Tb)):=
 zgr (zop ho hi (zp9 hr) ha) λv σ H Q ⟨A,env,st,x,Q3,rel,e,h,k⟩=>⟨A,env,st,_,rel,h,λA1 H1 st1 o v1 g1 s1 e1 h1=>⟨A1,env,st1,_,rel.grow g1 s1,h1,λA2 H2 st2 i v2 g2 s2 e2 h2=>
  ⟨A2,st2,o,i,x,_,s2,e1.grow g2,e2,e.grow (g1.trans g2),h2,λA3 H3 st3 g3 s3 h3=>k A3 H3 σ env st3 ((g1.trans g2).trans g3) (rel.grow ((g1.trans g2).trans g3) s3) h3⟩⟩⟩
theorem yU.one {K:Frag}{A:List Addr}{H:Hp}{x:PV}{vs:List V}(h:yU K A H [x] vs): ∃v,vs= [v]/\RE K A H x v:=by
 cases h with
 | cons r t=>cases t;exact⟨_,rfl,r⟩
theorem yU.two {K:Frag}{A:List Addr}{H:Hp}{x y:PV}{vs:List V}(h:yU K A H [x,y] vs): ∃v w,vs= [v,w]/\RE K A H x v/\RE K A H y w:=by
 cases h with
 | cons r t=>obtain⟨w,rfl,e⟩:=yU.one t;exact⟨_,w,rfl,r,e⟩
def pV:PV->z8->(Nat->Prop)->Prop
 | .tup xs,_,k=>k xs.length
 | .lst xs,_,k=>k xs.length
 | .dct xs,_,k=>False
 | .str z,_,k=>z.length<=sizeLine/\k z.length
 | .obj i,st,k=>match st[i]? with | some (.lst xs)=>k xs.length | some (.dct kvs)=>k kvs.length | _=>False
 | _,_,_=>False
def zbF:y4:=λxs st Q=>match xs with | [x]=>pV x st λn=>Q (.int n) st | _=>False
theorem wG:xB X (.builtin "len") (v8 X.K zbF):=by
 intro pins s σ H vs us Q I rv ⟨A,st,xs,Q3,rs,ex,h,k⟩;unfold zbF at h
 split at h
 ·rename_i x
  obtain⟨v,rfl,ex1⟩:=yU.one ex;have fin: ∀{n:Nat},Q3 (.int n) st->Q (.int n) H:=λq=>k.now rs (.val (.int _)) q;cases ex1 with
  | obj eo=>
   dsimp only[pV]at h
   split at h
   ·rename_i q
    obtain⟨vs,h1,r,hzz⟩:=rs.at_ _ _ _ eo q;exact iJ pins s σ H _ us Q I rv ⟨_,_,rfl,.inl ⟨_,.of h1,rfl⟩,by rw[<- r.len];exact fin h⟩
   ·rename_i q
    obtain⟨vs,h1,r,hzz⟩:=rs.at_ _ _ _ eo q;exact zjx pins s σ H _ us Q I rv ⟨_,_,rfl,h1,by rw[<- r.len];exact fin h⟩
   ·exact h.elim
  | val e=>
   cases e with
   | str z=>exact iJ pins s σ H _ us Q I rv ⟨_,_,rfl,⟨h.1,rfl⟩,fin h.2⟩
   | tup t z r=>exact iJ pins s σ H _ us Q I rv ⟨_,_,rfl,.inr ⟨_,t.sq,rfl⟩,by rw[<- r.len];exact fin h⟩
   | lst t z r=>exact iJ pins s σ H _ us Q I rv ⟨_,_,rfl,.inl ⟨_,t.sq,rfl⟩,by rw[<- r.len];exact fin h⟩
   | _=>exact False.elim h
 ·exact h.elim
def j6:y4:=λxs st Q=>match xs with
 | [.lst ys]=>Q (.tup ys) st
 | [.tup ys]=>Q (.tup ys) st
 | [.obj i]=>(match st[i]? with | some (.lst ys)=>Q (.tup ys) st | some (.dct kvs)=>Q (.tup (kvs.map λq=>match q.1 with | .inl i=> .int i | .inr z=> .str z)) st | _=>False)
 | _=>False
theorem zfs {K:Frag}{A:List Addr}{H:Hp} : ∀{kvs:List (zA×PV)} {us:List (zA×V)},RKs K A H kvs us->RVs K A H (kvs.map λq=>match q.1 with | .inl i=> .int i | .inr z=> .str z) (us.map λq=>kV q.1)
 | _,_,.nil=> .nil
 | _,_,.cons (k:=k) r t=>by
  rw[List.map_cons,List.map_cons];refine .cons ?_ (zfs t);cases k with
  | inl i=>exact .int i
  | inr z=>exact .str z
theorem tP (hc:X.calm=true):xB X (.type "tuple") (v8 X.K j6):=by
 intro pins s σ H vs us Q I rv ⟨A,st,xs,Q3,rs,ex,h,k⟩;unfold j6 at h
 split at h
 ·cases ex with | cons ex et=>cases et;cases ex with | val e=>cases e with | lst t z r=>
   exact eZ pins s σ H _ us Q I rv ⟨_,_,rfl,.inl ⟨t.sq,k.tup rs r z h⟩⟩
 ·cases ex with | cons ex et=>cases et;cases ex with | val e=>cases e with | tup t z r=>
   exact eZ pins s σ H _ us Q I rv ⟨_,_,rfl,.inr ⟨t.sq,k.now rs (.val (.tup t z r)) h⟩⟩
 ·cases ex with | cons ex et=>cases et;cases ex with
  | val e=>cases e
  | obj eo=>
   split at h
   ·rename_i q
    obtain⟨vs,h1,r,hzz⟩:=rs.at_ _ _ _ eo q;have hz:=hzz;exact eZ pins s σ H _ us Q I rv ⟨_,_,rfl,.inl ⟨.of h1,k.tup rs r hz h⟩⟩
   ·rename_i q
    obtain⟨vs,h1,r,hzz⟩:=rs.at_ _ _ _ eo q;have hz:=hzz;exact zj5 hc pins s σ H _ us Q I rv ⟨_,_,rfl,h1,k.tup rs (zfs r) (by rw[List.length_map];exact hz) h⟩
   ·exact h.elim
 ·exact h.elim
def vY (xs:List PV)(lo hi:Option Int):List PV:=(xs.drop (HT.sIx xs.length 0 lo)).take (HT.sIx xs.length xs.length hi - HT.sIx xs.length 0 lo)
def oB:PV->Option Int->Option Int->z8->K3->Prop:=λx lo hi st Q=>match x with
 | .tup xs=>Q (.tup (vY xs lo hi)) st
 | .lst xs=>Q (.lst (vY xs lo hi)) st
 | .str z=>z.length<=sizeLine/\((Txt.slice z lo hi).length<=z.length->Q (.str (Txt.slice z lo hi)) st)
 | _=>False
def zj8 (K:Frag):V->Option Int->Option Int->Hp->VK->Prop:=λv lo hi H Q=> ∃A st x Q3,RS K A H st/\RE K A H x v/\oB x lo hi st Q3/\Fin K A H Q3 Q
theorem RVs.cut {K:Frag}{A:List Addr}{H:Hp}{xs:List PV}{vs:List V}(r:RVs K A H xs vs)(lo hi:Option Int):RVs K A H (vY xs lo hi) (rZ vs lo hi):=by
 unfold vY rZ;rw[r.len];exact(r.drop _).take _
theorem zmS:nO X (zj8 X.K):=by
 intro pins s σ H v vv vl vu lo hi sl Q I rx hs pl pu ⟨A,st,x,Q3,rs,ex,h,k⟩;unfold oB at h
 split at h
 ·cases ex with | val e=>cases e with | tup t z r=>
   rename_i xs a vs;by_cases hw:HT.sIx vs.length 0 lo=0/\HT.sIx vs.length vs.length hi=vs.length
   ·cases rx
    obtain⟨its,r',ht,hz⟩:=I.tuple t.sq;refine⟨"tuple",_,PyProof.Rows.slot_tuple_getitem.lookup,ht.typeIs,?_⟩;have hl:its.toArray.size=vs.length:=by rw[List.size_toArray,<- r'.length]
    refine zlc ht hs pl pu (by rw[hl];exact hw) ⟨.ref a,H,I,rfl,k.now rs (.val (.tup t z r)) ?_⟩;rw[<- r.len]at hw;have e:vY xs lo hi=xs:=by
     unfold vY;rw[hw.1,hw.2,List.drop_zero,Nat.sub_zero,List.take_of_length_le (Nat.le_refl _)]
    rw[e]at h;exact h
   ·refine zpV pins s σ H _ vv vl vu lo hi sl Q I rx hs pl pu ⟨_,_,rfl,t.sq,?_,k.tup rs (r.cut lo hi) (Nat.le_trans (kF _ lo hi) z) h⟩
    exact hw
 ·cases ex with | val e=>cases e with | lst t z r=>
   exact zha pins s σ H _ vv vl vu lo hi sl Q I rx hs pl pu ⟨_,_,rfl,t.sq,k.lst rs (r.cut lo hi) (Nat.le_trans (kF _ lo hi) z) h⟩
 ·cases p5 ex
  exact zpU pins s σ H _ vv vl vu lo hi sl Q I rx hs pl pu ⟨_,rfl,h.1,λhl=>k.now rs (.val (.str _)) (h.2 hl)⟩
 ·exact h.elim
abbrev sG:=zO->z8->(Option Int->z8->Prop)->Prop
def nR (K:Frag)(T:sG):TO:=λσ H Q=> ∃A env st Q3,xJ K A H σ env st/\T env st Q3/\∀A' H' st' i,yC A H A' H'->RS K A' H' st'->Q3 i st'->Q i H'
def zfH:sG:=λ_ st Q=>Q none st
def zfI (T:zG):sG:=λenv st Q=>T env st λx st1=>match x with | .int i=>Q (some i) st1 | _=>False
theorem zgv {o:Option Expr}{t t':TO}(h:L2.PO X o t)(w: ∀σ H Q,t' σ H Q->t σ H Q):L2.PO X o t':=⟨λpins s σ H Q I q=>h pins s σ H Q I (w σ H Q q)⟩
theorem rJ:L2.PO X none (nR X.K zfH):=zgv zo1 λσ H Q ⟨A,env,st,Q3,rel,h,k⟩=>k A H st none (.refl _ _) rel.rs h
theorem rK (h:PE X e (zV X.K Ta)):L2.PO X (some e) (nR X.K (zfI Ta)):=by
 refine zgv (zo2 h) λσ H Q ⟨A,env,st,Q3,rel,h,k⟩=>⟨A,env,st,_,rel,h,λA1 H1 st1 x v g1 s1 e1 h1=> ?_⟩;cases x with
 | int i=>cases x8 e1;exact⟨i,rfl,k A1 H1 st1 _ g1 s1 h1⟩
 | _=>exact False.elim h1
def vSl (T:zG)(Tl Th:sG):zG:=λenv st Q=>T env st λx st1=>Tl env st1 λl st2=>Th env st2 λu st3=>oB x l u st3 Q
theorem qJ {lo hi:Option Expr}{Tl Th:sG}(he:PE X e (zV X.K Ta))(hl:L2.PO X lo (nR X.K Tl))(hu:L2.PO X hi (nR X.K Th)):PE X (.Subscript e (.Slice lo hi none p2) pos) (zV X.K (vSl Ta Tl Th)):=
 xP (zgp zmS he hl hu) λσ H Q ⟨A,env,st,Q3,rel,h,k⟩=>⟨A,env,st,_,rel,h,λA1 H1 st1 x v g1 s1 e1 h1=>⟨A1,env,st1,_,rel.grow g1 s1,h1,λA2 H2 st2 l g2 s2 h2=>⟨A2,env,st2,_,(rel.grow g1 s1).grow g2 s2,h2,λA3 H3 st3 u g3 s3 h3=>
  ⟨A3,st3,x,Q3,s3,e1.grow (g2.trans g3),h3,k.after (g1.trans (g2.trans g3))⟩⟩⟩⟩
end
end L3
namespace L3
open PySem PySem.Spec PyProof.Rows L2
section
variable {X:Cx} {tg iter a b e:Expr} {es:List Expr} {pos p:Pos} {Ta:zG} {TA:yS}
def zlj (K:Frag)(tl:TE):TI:=λσ H R=>tl σ H λx H1=>(∃a,x= .ref a/\(∃xs,x5 K H1 a xs)/\R (i3 K a) H1)∨(∃a,x= .ref a/\(∃xs,x4 K H1 a xs)/\R (eF K a) H1)∨∃z,x= .str z/\R (i4 z) H1
theorem zot {tl:TE}(hl:PE X iter tl):PI X tg iter (zlj X.K tl):=by
 refine⟨λpins s σ H R I h=> ?_⟩;refine y8 (hl pins s σ H _ I h) λv s1 ⟨x,H1,I1,r1,q1⟩=> ?_;rcases q1 with⟨a,rfl,⟨xs,hq⟩,q⟩ | ⟨a,rfl,⟨xs,hq⟩,q⟩ | ⟨x,rfl,q⟩
 ·cases r1
  obtain⟨its,rv,p,hz⟩:=I1.list hq;refine wpAny_pyIter_list p.isList ?_;refine⟨s1.heap.objs.size,[s1.heap.objs.size],_,_,H1,rfl,I1.kept (t':=s1.toks) λb o e=>Heap.get?_push_of_some _ e,zq_ a _,⟨_,Heap.get?_push_size _ rfl,rfl,rfl⟩,λb hb=> ?_,q⟩;have e:b=s1.heap.objs.size:=by simpa using hb
  subst e;exact I1.fpOk (Nat.le_refl _) (I1.hok.fresh (Nat.le_refl _))
 ·cases r1
  obtain⟨its,rv,p,hz⟩:=I1.tuple hq;refine wpAny_pyIter_tuple (show s1.heap.IsTuple a its.toArray from p) ?_;refine⟨s1.heap.objs.size,[s1.heap.objs.size],_,_,H1,rfl,I1.kept (t':=s1.toks) λb o e=>Heap.get?_push_of_some _ e,zqB a _,⟨_,Heap.get?_push_size _ rfl,rfl,rfl⟩,λb hb=> ?_,q⟩;have e:b=s1.heap.objs.size:=by simpa using hb
  subst e;exact I1.fpOk (Nat.le_refl _) (I1.hok.fresh (Nat.le_refl _))
 ·obtain⟨t,rfl⟩:=r1
  have fin: ∀(n:String) (o:Obj),pF X.prog X.w X.K tg (i4 x) [s1.heap.objs.size] s1.heap.objs.size (λi h=>h.IsStrIter s1.heap.objs.size n x t i)->(s1.heap.push o).IsStrIter s1.heap.objs.size n x t 0->i7 X pins σ tg R (.ref s1.heap.objs.size) {s1 with heap:=s1.heap.push o} :=λn o T st=>
   ⟨s1.heap.objs.size,[s1.heap.objs.size],_,_,H1,rfl,I1.kept (t':=s1.toks) λb u e=>Heap.get?_push_of_some _ e,T,st,λb hb=>by
    have e:b=s1.heap.objs.size:=by simpa using hb
    subst e;exact I1.fpOk (Nat.le_refl _) (I1.hok.fresh (Nat.le_refl _)),q⟩
  cases ha:x.cps.all (· < 128)
  ·exact wpAny_pyIter_wide ha (fin "str_iterator" _ (zhG _ x t (by decide) (λA hA=>Walks.strWide hA _ x t) λ_ _ _ _ _ st hQ=>wpAny_pyIter_striter_wide st hQ) ⟨_,Heap.get?_push_size _ rfl,rfl,rfl⟩)
  ·exact wpAny_pyIter_ascii ha (fin "str_ascii_iterator" _ (zhG _ x t (by decide) (λA hA=>Walks.strAscii hA _ x t) λ_ _ _ _ _ st hQ=>wpAny_pyIter_striter_ascii st hQ) ⟨_,Heap.get?_push_size _ rfl,rfl,rfl⟩)
def qY (z:Str):List PV:=z.cps.toList.map λc=> .str ⟨#[c]⟩
theorem zlz {K:Frag}{A:List Addr}{H:Hp}{z:Str}(hz:z.length<=sizeLine):rQ K A H none (i4 z) (qY z) where
 go:=λi A' H' st g s _ hi=>by
  unfold qY at hi;have hi':i < z.cps.size:=by simpa using hi
  exact hi'
 yld:=λi x A' H' st v H2 hx g s _ y=>by
  obtain⟨rfl,c,hc,rfl⟩:=y;unfold qY at hx;rw[List.getElem?_map]at hx;have hc':z.cps.toList[i]?=some c:=by simpa using hc
  rw[hc']at hx;cases hx;exact⟨.refl _ _,s,.val (.str _)⟩
 stop:=λA' H' st g s _=>by
  unfold qY;show _=z.cps.size;simp
 small:=by
  unfold qY;rw[List.length_map];have:z.cps.toList.length=z.length:=by simp[Str.length]
  omega
def zeZ (T:zG):vV:=λenv st Q=>T env st λx st1=>match x with
 | .lst xs=>Q none xs st1
 | .tup xs=>Q none xs st1
 | .str z=>z.length<=sizeLine/\Q none (qY z) st1
 | .obj i=>(match st1[i]? with | some (.lst xs)=>Q (some (i,.lst xs)) xs st1 | _=>False)
 | _=>False
theorem vI (h:PE X iter (zV X.K Ta)):PI X tg iter (rY X.K (zeZ Ta)):=by
 refine gE (zot h) λσ H R ⟨A,env,st,Q3,rel,h,k⟩=>⟨A,env,st,_,rel,h,λA1 H1 st1 x v g1 s1 e1 h1=> ?_⟩;cases e1 with
 | obj eo=>
  dsimp only at h1
  split at h1
  ·rename_i q
   obtain⟨vs,h2,r,hz⟩:=s1.at_ _ _ _ eo q;exact .inl ⟨_,rfl,⟨_,.of h2⟩,k A1 H1 st1 _ _ _ g1 s1 (zly eo (by rw[r.len];exact hz)) h1⟩
  ·exact h1.elim
 | val e=>
  cases e with
  | tup t z r=>exact .inr (.inl ⟨_,rfl,⟨_,t.sq⟩,k A1 H1 st1 none _ _ g1 s1 (zl0 t z r) h1⟩)
  | lst t z r=>exact .inl ⟨_,rfl,⟨_,t.sq⟩,k A1 H1 st1 none _ _ g1 s1 (zlx t z r) h1⟩
  | str z=>exact .inr (.inr ⟨z,rfl,k A1 H1 st1 none _ _ g1 s1 (zlz h1.1) h1.2⟩)
  | _=>exact False.elim h1
theorem gJ (hg:Gl X "range")(hm:X.mg "range" =none)(ha:PA X [a] (vF X.K TA))(hs:starEach [a] X.env= [(false,eval a X.env)]:=by rfl):PI X tg (.Call (.Name "range" p) [a] [] pos) (rY X.K (zfb TA)):=by
 refine gE (zov hg hm ha hs) λσ H R ⟨A,env,st,Q3,rel,h,k⟩=>⟨A,env,st,_,rel,h,λA1 H1 st1 xs vs g1 s1 e1 h1=> ?_⟩
 split at h1
 ·rename_i j
  obtain⟨v,rfl,e⟩:=yU.one e1;cases x8 e;have hb:(2000000:Nat)<=sizeLine:=by rw[sizeLine_eq];decide
  exact⟨j,rfl,by omega,by omega,k A1 H1 st1 none _ _ g1 s1 (zfj (by omega)) h1.2⟩
 ·exact h1.elim
theorem zoR (hg:Gl X "range")(hm:X.mg "range" =none)(ha:PA X [a,b] (vF X.K TA))(hs:starEach [a,b] X.env= [(false,eval a X.env),(false,eval b X.env)]:=by rfl)(hs2:starEach [b] X.env= [(false,eval b X.env)]:=by rfl):
  PI X tg (.Call (.Name "range" p) [a,b] [] pos) (rY X.K (zfc TA)):=by
 refine gE (zow hg hm ha hs hs2) λσ H R ⟨A,env,st,Q3,rel,h,k⟩=>⟨A,env,st,_,rel,h,λA1 H1 st1 xs vs g1 s1 e1 h1=> ?_⟩
 split at h1
 ·rename_i i j
  obtain⟨v,v',rfl,e,e2⟩:=yU.two e1;cases x8 e;cases x8 e2;have hb:(2000000:Nat)<=sizeLine:=by rw[sizeLine_eq];decide
  exact⟨i,j,rfl,by omega,k A1 H1 st1 none _ _ g1 s1 (zfj (by omega)) h1.2⟩
 ·exact h1.elim
end
def mY (N:List Str)(xs:List PV):zO:=xs.map some++List.replicate (N.length - xs.length) none
def xO (m:Nat)(Q:K3):K3:=λr st=>match r with
 | .obj i=>if i < m then Q (.obj i) (st.take m)else(match st[i]? with | some (.lst xs)=>Q (.lst xs) (st.take m) | some (.dct xs)=>Q (.dct xs) (st.take m) | some (.itb xs)=>Q (.itb xs) (st.take m) | _=>False)
 | r=>Q r (st.take m)
section
variable {K:Frag} {A B:List Addr} {H H':Hp}
theorem xJ.begin {st:z8}{xs:List PV}{vs:List V}{N:List Str}(s:RS K A H st)(e:yU K A H xs vs):xJ K A H (L2.start N vs) (mY N xs) st:=by
 have hl:xs.length=vs.length:=Paired.length e;refine⟨s,by unfold L2.start mY;rw[List.length_append,List.length_append,List.length_map,List.length_map,List.length_replicate,List.length_replicate,hl],λi x h=> ?_⟩;unfold mY at h;by_cases hi:i < xs.length
 ·rw[List.getElem?_append_left (by rw[List.length_map];exact hi),List.getElem?_map]at h
  cases ex:xs[i]? with
  | none=>rw[ex]at h;cases h
  | some y=>
   rw[ex]at h;cases h;have hv:i < vs.length:=by omega
   refine⟨vs[i],?_,zgi e ex (List.getElem?_eq_getElem hv)⟩;unfold L2.start;rw[List.getElem?_append_left (by rw[List.length_map];exact hv),List.getElem?_map,List.getElem?_eq_getElem hv];rfl
 ·rw[List.getElem?_append_right (by rw[List.length_map];omega),List.getElem?_replicate]at h
  split at h <;> cases h
theorem uO.less {A A':List Addr}(h: ∀b,b∈A'->b∈A){a:Addr}{vs:List V}(t:uO K A H a vs):uO K A' H a vs:=t.imp (λt=>⟨t.1,λm=>t.2 (h _ m)⟩) id
theorem uL.less {A A':List Addr}(h: ∀b,b∈A'->b∈A){a:Addr}{vs:List V}(t:uL K A H a vs):uL K A' H a vs:=t.imp (λt=>⟨t.1,λm=>t.2 (h _ m)⟩) id
mutual
theorem RV.less {A A':List Addr}(h: ∀b,b∈A'->b∈A){x:PV}{v:V} :RV K A H x v->RV K A' H x v
 | .non=> .non
 | .bl b=> .bl b
 | .int i=> .int i
 | .str x=> .str x
 | .ty n=> .ty n
 | .tup t z r=> .tup (t.less h) z (RVs.less h r)
 | .lst t z r=> .lst (t.less h) z (RVs.less h r)
 | .dct t z r=> .dct ⟨t.1,λm=>t.2 (h _ m)⟩ z (RKs.less h r)
 | .itb e n=> .itb e λm=>n (h _ m)
 | .clo e=> .clo ⟨⟨e.fn.1,λm=>e.fn.2 (h _ m)⟩,⟨e.cd.1,λm=>e.cd.2 (h _ m)⟩,⟨e.cl.1,λm=>e.cl.2 (h _ m)⟩,⟨e.dt.1,λm=>e.dt.2 (h _ m)⟩⟩
theorem RVs.less {A A':List Addr}(h: ∀b,b∈A'->b∈A){xs:List PV}{vs:List V} :RVs K A H xs vs->RVs K A' H xs vs
 | .nil=> .nil
 | .cons r t=> .cons (RV.less h r) (RVs.less h t)
theorem RKs.less {A A':List Addr}(h: ∀b,b∈A'->b∈A){xs:List (zA×PV)}{vs:List (zA×V)} :RKs K A H xs vs->RKs K A' H xs vs
 | .nil=> .nil
 | .cons r t=> .cons (RV.less h r) (RKs.less h t)
end
theorem OA.less {A A':List Addr}(h: ∀b,b∈A'->b∈A){a:Addr}{o:PO}(x:OA K A H a o):OA K A' H a o:=by
 cases o with
 | lst xs=>obtain⟨vs,e,r,z⟩:=x;exact⟨vs,e,r.less h,z⟩
 | dct xs=>obtain⟨vs,e,r,z⟩:=x;exact⟨vs,e,r.less h,z⟩
 | tbl T pos q=>obtain⟨ea,ps,e,r⟩:=x;exact⟨ea,ps,e,r.imp id λ⟨c',e1,e2,e3⟩=>⟨c',e1,e2,λm=>e3 (h _ m)⟩⟩
 | itb kvs=>exact x
theorem mI {α:Type}{l:List α}{m:Nat} : ∀b,b∈l.take m->b∈l:=λb h=>List.mem_of_mem_take h
theorem RS.take {st:z8}(s:RS K A H st)(m:Nat):RS K (A.take m) H (st.take m):=by
 refine⟨List.Nodup.sublist (List.take_sublist _ _) s.nd,by rw[List.length_take,List.length_take,s.len],λi a o h1 h2=> ?_⟩;have hi:i < m:=by
  have:=(List.getElem?_eq_some_iff.mp h1).1;rw[List.length_take]at this;omega
 rw[List.getElem?_take_of_lt hi]at h1 h2;exact(s.at_ i a o h1 h2).less mI
theorem yC.take {B':List Addr}(g:yC A H B' H'){m:Nat}(h:A.length<=m):yC A H (B'.take m) H':=by
 obtain⟨⟨C,rfl,hC⟩,k,l⟩:=g;refine⟨⟨C.take (m - A.length),?_,λb hb=>hC b (List.mem_of_mem_take hb)⟩,k,l⟩;rw[List.take_append,List.take_of_length_le h]
theorem Fin.exit {Q3:K3}{Q:VK}{m:Nat}(k:Fin K A H Q3 Q)(hm:A.length<=m):Fin K A H (xO m Q3) Q:=by
 intro A' H' st' r v g s e q;have g':=g.take hm;have s':=s.take m;cases e with
 | val e=>
  refine k _ H' _ r v g' s' (.val (e.less mI)) ?_;cases r with
  | obj i=>cases e
  | _=>exact q
 | obj eo=>
  rename_i i a;unfold xO at q;dsimp only at q;by_cases hi:i < m
  ·rw[if_pos hi]at q
   exact k _ H' _ _ _ g' s' (.obj (by rw[List.getElem?_take_of_lt hi];exact eo)) q
  ·rw[if_neg hi]at q
   have na:a∉A'.take m:=λhm'=>by
    obtain⟨j,hj,e⟩:=List.getElem_of_mem hm';rw[List.length_take]at hj;have e2:A'[j]?=some a:=by
     rw[<- List.getElem?_take_of_lt (show j < m by omega),List.getElem?_eq_getElem (by rw[List.length_take];omega),e]
    have:=(List.getElem?_inj (List.getElem?_eq_some_iff.mp e2).1 s.nd).mp (e2.trans eo.symm);omega
   split at q
   ·rename_i xs e
    obtain⟨vs,h1,r,z⟩:=s.at_ _ _ _ eo e;exact k _ H' _ _ _ g' s' (.val (.lst (.inl ⟨.inl h1,na⟩) z (r.less mI))) q
   ·rename_i xs e
    obtain⟨vs,h1,r,z⟩:=s.at_ _ _ _ eo e;exact k _ H' _ _ _ g' s' (.val (.dct ⟨h1,na⟩ z (r.less mI))) q
   ·rename_i xs e
    exact k _ H' _ _ _ g' s' (.val (.itb (s.at_ _ _ _ eo e) na)) q
   ·exact q.elim
end
theorem xI {P:Program}{w:World}{K:Frag}{mg:Str->Option Value}{base:Heap}{x qual:Str}{st:Stmt}{f:Addr}{fd:FuncData}{N ps:List Str}{k:Nat}{S:y4}(keep:Nat)(F:zZ K x qual st f fd)(sc:yX N ps (zK st))(len: ∀xs st Q,S xs st Q->xs.length=ps.length)
  (hB: ∃T:xF,(∀(cdv:Value) (A:Around) (outer:List Env) (s:Shared) (H:Hp) (E:XK),zX k (A.deeper (envOfC qual (zK st) s.heap.objs.size f cdv))->xQ (sK zI P w K mg base N qual (zK st) f cdv A outer s H E).nox (yM st) (w4 K T))/\
   ∀xs sto Q,S xs sto Q->T {nx:=λ_ s'=>xO (sto.length+keep) Q .non s',rt:=xO (sto.length+keep) Q} (mY N xs) sto):zJ P w K mg base zI (k+1) f fd ps (zN K S):=by
 obtain⟨T,hT,hb⟩:=hB;refine F.ok sc (λvs H Q E h=> ?_) (λcdv A outer s H vs Q E hr h=>⟨_,hT cdv A outer s H E hr,?_⟩)
 ·obtain⟨A,sto,xs,Q3,rs,ex,hS,_⟩:=h
  rw[<- len xs sto Q3 hS];exact(Paired.length ex).symm
 ·obtain⟨A,sto,xs,Q3,rs,ex,hS,k⟩:=h
  have hm:A.length<=sto.length+keep:=by rw[rs.len];omega
  refine⟨A,mY N xs,sto,_,xJ.begin rs ex,hb xs sto Q3 hS,⟨λA' H' σ' env' st' g r q=> ?_,k.exit hm,λA' H' σ' env' st' g r q=>q.elim,λA' H' σ' env' st' g r q=>q.elim⟩⟩;exact k.exit hm A' H' st' .non .non g r.rs (.val .non) q
end L3
namespace L3
open PySem PySem.Spec PyProof.Rows L2
section
variable {X:Cx} {scope:Scope} {N' own:List Str} {Ti:vV} {Tg:wA} {tt:xG} {te:zG}
theorem zoU {elt target iter:Expr}{ifs:List Expr}{pos spos pos':Pos}{i0:Nat}{x:Str}(S:sY X scope N' own)(hN:X.N.Nodup)(hi0:X.N[i0]?=some x)(hx:rR X.env.scope x)(hc:X.calm=true)(hi:PI X target iter (rY X.K Ti))
  (hg: ∀C s H fp pins,PG (xR X scope (N'++own) C s H fp pins) target (uR X.K Tg)) (ht: ∀C s H fp pins,PF (xR X scope (N'++own) C s H fp pins) ifs (xN X.K tt)) (he: ∀C s H fp pins,PE (xR X scope (N'++own) C s H fp pins) elt (zV X.K te))
  (hs: ∀x,foldedSetIterable iter X.env x=pure x:=by intro _;rfl) (hsw:swapsWith (.ListComp elt [⟨target,iter,ifs,0⟩] scope pos) (some (.Name x pos')) spos.line X.env=pure true:=by rfl)
  (hf:X.fn x=true∨X.env.scope.names.lookup x=some .local:=by first | exact .inl rfl | exact .inr rfl | assumption):
  PS X (.Assign [.Name x pos'] (.ListComp elt [⟨target,iter,ifs,0⟩] scope pos) spos) (w4 X.K (jL (fM own.length Ti Tg tt te) (gN i0))):=by
 refine qH (zo_ hN hi0 hx S hc hi hg ht he hs hsw hf) λD σ H h=> ?_;obtain⟨A,env,st,Q3,rel,h,k⟩:=d6 h;exact zds ⟨A,env,st,Q3,rel,h,λA1 H1 st1 r v g s e q=>d8 (k A1 H1 st1 r v g s e q)⟩
end
end L3
namespace L3
open PySem PySem.Spec PyProof.Rows L2
def pT (a b c d e:Bool)(n:String):Option Bool:=if n= "int" then some a else if n= "bool" then some b else if n= "str" then some c else if n= "tuple" then some d else if n= "list" then some e else none
def wC:PV->String->Option Bool
 | .bl _,n=>pT true true false false false n
 | .int _,n=>pT true false false false false n
 | .str _,n=>pT false false true false false n
 | .tup _,n=>pT false false false true false n
 | .lst _,n=>pT false false false false true n
 | _,_=>none
theorem kO {a b c d e r:Bool}{n:String}(h:pT a b c d e n=some r):(n= "int" /\r=a)∨(n= "bool" /\r=b)∨(n= "str" /\r=c)∨(n= "tuple" /\r=d)∨(n= "list" /\r=e):=by
 unfold pT at h;by_cases h1:n= "int"
 ·rw[if_pos h1]at h;cases h;exact .inl ⟨h1,rfl⟩
 rw[if_neg h1]at h;by_cases h2:n= "bool"
 ·rw[if_pos h2]at h;cases h;exact .inr (.inl ⟨h2,rfl⟩)
 rw[if_neg h2]at h;by_cases h3:n= "str"
 ·rw[if_pos h3]at h;cases h;exact .inr (.inr (.inl ⟨h3,rfl⟩))
 rw[if_neg h3]at h;by_cases h4:n= "tuple"
 ·rw[if_pos h4]at h;cases h;exact .inr (.inr (.inr (.inl ⟨h4,rfl⟩)))
 rw[if_neg h4]at h;by_cases h5:n= "list"
 ·rw[if_pos h5]at h;cases h;exact .inr (.inr (.inr (.inr ⟨h5,rfl⟩)))
 rw[if_neg h5]at h;cases h
def gO:y4:=λxs st Q=>match xs with | [x,.ty n]=>(match wC x n with | some b=>Q (.bl b) st | none=>False) | _=>False
section
variable {X:Cx} {pins:List (Addr×Obj)} {σ:St} {H:Hp} {s:Shared} {A:List Addr}
theorem zlv {Q:VK}{x:PV}{n:String}{b:Bool}{vv:Value}(I:z5 X pins σ H s)(kx:Kd s x vv)(h:wC x n=some b)(q:Q (.bl b) H):wpAny (model X.prog X.w) X.A (call (.builtin "isinstance") [vv,.type n]) (EP X pins σ Q) X.xe s:=by
 cases kx with
 | bl=>
  rcases kO h with⟨rfl,rfl⟩ | ⟨rfl,rfl⟩ | ⟨rfl,rfl⟩ | ⟨rfl,rfl⟩ | ⟨rfl,rfl⟩
  ·exact IsiPair.bool_int ⟨.bl true,H,I,rfl,q⟩
  ·exact IsiPair.bool_bool ⟨.bl true,H,I,rfl,q⟩
  ·exact IsiPair.bool_str ⟨.bl false,H,I.tok _,rfl,q⟩
  ·exact IsiPair.bool_tuple ⟨.bl false,H,I.tok _,rfl,q⟩
  ·exact IsiPair.bool_list ⟨.bl false,H,I.tok _,rfl,q⟩
 | int=>
  rcases kO h with⟨rfl,rfl⟩ | ⟨rfl,rfl⟩ | ⟨rfl,rfl⟩ | ⟨rfl,rfl⟩ | ⟨rfl,rfl⟩
  ·exact IsiPair.int_int ⟨.bl true,H,I,rfl,q⟩
  ·exact IsiPair.int_bool ⟨.bl false,H,I.tok _,rfl,q⟩
  ·exact IsiPair.int_str ⟨.bl false,H,I.tok _,rfl,q⟩
  ·exact IsiPair.int_tuple ⟨.bl false,H,I.tok _,rfl,q⟩
  ·exact IsiPair.int_list ⟨.bl false,H,I.tok _,rfl,q⟩
 | str=>
  rcases kO h with⟨rfl,rfl⟩ | ⟨rfl,rfl⟩ | ⟨rfl,rfl⟩ | ⟨rfl,rfl⟩ | ⟨rfl,rfl⟩
  ·exact IsiPair.str_int ⟨.bl false,H,I.tok _,rfl,q⟩
  ·exact IsiPair.str_bool ⟨.bl false,H,I.tok _,rfl,q⟩
  ·exact IsiPair.str_str ⟨.bl true,H,I,rfl,q⟩
  ·exact IsiPair.str_tuple ⟨.bl false,H,I.tok _,rfl,q⟩
  ·exact IsiPair.str_list ⟨.bl false,H,I.tok _,rfl,q⟩
 | tup p=>
  rcases kO h with⟨rfl,rfl⟩ | ⟨rfl,rfl⟩ | ⟨rfl,rfl⟩ | ⟨rfl,rfl⟩ | ⟨rfl,rfl⟩
  ·obtain⟨o,e,c,_⟩:=id p;exact IsiPair.tuple_int e c ⟨.bl false,H,I.tok _,rfl,q⟩
  ·obtain⟨o,e,c,_⟩:=id p;exact IsiPair.tuple_bool e c ⟨.bl false,H,I.tok _,rfl,q⟩
  ·obtain⟨o,e,c,_⟩:=id p;exact IsiPair.tuple_str e c ⟨.bl false,H,I.tok _,rfl,q⟩
  ·obtain⟨o,e,c,_⟩:=id p;exact IsiPair.tuple_tuple e c ⟨.bl true,H,I,rfl,q⟩
  ·obtain⟨o,e,c,_⟩:=id p;exact IsiPair.tuple_list e c ⟨.bl false,H,I.tok _,rfl,q⟩
 | lst p=>
  rcases kO h with⟨rfl,rfl⟩ | ⟨rfl,rfl⟩ | ⟨rfl,rfl⟩ | ⟨rfl,rfl⟩ | ⟨rfl,rfl⟩
  ·obtain⟨o,e,c,_⟩:=id p;exact IsiPair.list_int e c ⟨.bl false,H,I.tok _,rfl,q⟩
  ·obtain⟨o,e,c,_⟩:=id p;exact IsiPair.list_bool e c ⟨.bl false,H,I.tok _,rfl,q⟩
  ·obtain⟨o,e,c,_⟩:=id p;exact IsiPair.list_str e c ⟨.bl false,H,I.tok _,rfl,q⟩
  ·obtain⟨o,e,c,_⟩:=id p;exact IsiPair.list_tuple e c ⟨.bl false,H,I.tok _,rfl,q⟩
  ·obtain⟨o,e,c,_⟩:=id p;exact IsiPair.list_list e c ⟨.bl true,H,I,rfl,q⟩
 | _=>cases h
theorem zfN:xB X (.builtin "isinstance") (v8 X.K gO):=by
 intro pins s σ H vs us Q I rv ⟨A,st,xs,Q3,rs,ex,h,k⟩;unfold gO at h
 split at h
 ·rename_i x n
  obtain⟨v,w,rfl,ex1,ey1⟩:=yU.two ex;have hw:w= .ty n:=by cases ey1 with | val e=>cases e;rfl
  subst hw;obtain⟨u1,u2,rfl,r1,r2⟩:=jN rv;cases r2
  split at h
  ·rename_i b e
   have hd:zH x < 1000∨∃ys,x= .tup ys∨x= .lst ys:=by
    cases x with
    | tup ys=>exact .inr ⟨ys,.inl rfl⟩
    | lst ys=>exact .inr ⟨ys,.inr rfl⟩
    | non=>cases e
    | bl b=>exact .inl (by unfold zH;decide)
    | int b=>exact .inl (by unfold zH;decide)
    | str b=>exact .inl (by unfold zH;decide)
    | _=>cases e
   have q:=k.now rs (.val (.bl b)) h;refine zlv I ?_ e q;rcases hd with hd | ⟨ys,rfl | rfl⟩
   ·exact rD I (ex1.rv (kX hd)) r1 hd
   ·cases ex1 with | val e=>cases e with | tup t z r=>cases r1;obtain⟨its,_,p,_⟩:=I.tuple t.sq;exact .tup p
   ·cases ex1 with | val e=>cases e with | lst t z r=>cases r1;obtain⟨its,_,p,_⟩:=I.list t.sq;exact .lst p.isList
  ·exact h.elim
 ·exact h.elim
def gM:y4:=λxs st Q=>match xs with | [.int i]=>Q (.int i) st | [.bl b]=>Q (.int (if b then 1 else 0)) st | _=>False
theorem sT:xB X (.type "int") (v8 X.K gM):=by
 intro pins s σ H vs us Q I rv ⟨A,st,xs,Q3,rs,ex,h,k⟩;unfold gM at h
 split at h
 ·obtain⟨v,rfl,ex1⟩:=yU.one ex
  cases x8 ex1;exact zdq pins s σ H _ us Q I rv (.inl ⟨_,rfl,k.now rs (.val (.int _)) h⟩)
 ·obtain⟨v,rfl,ex1⟩:=yU.one ex
  cases zdl ex1;exact zdq pins s σ H _ us Q I rv (.inr ⟨_,rfl,k.now rs (.val (.int _)) h⟩)
 ·exact h.elim
def zbI:y4:=λxs st Q=>match xs with | [.int i,.int j]=>Q (.int (if j < i then j else i)) st | _=>False
def zbH:y4:=λxs st Q=>match xs with | [.int i,.int j]=>Q (.int (if j > i then j else i)) st | _=>False
theorem zfQ (hc:X.calm=true):xB X (.builtin "min") (v8 X.K zbI):=by
 intro pins s σ H vs us Q I rv ⟨A,st,xs,Q3,rs,ex,h,k⟩;unfold zbI at h
 split at h
 ·obtain⟨v,w,rfl,ex1,ey1⟩:=yU.two ex
  cases x8 ex1;cases x8 ey1;exact zjz hc pins s σ H _ us Q I rv ⟨_,_,rfl,k.now rs (.val (.int _)) h⟩
 ·exact h.elim
theorem zfP (hc:X.calm=true):xB X (.builtin "max") (v8 X.K zbH):=by
 intro pins s σ H vs us Q I rv ⟨A,st,xs,Q3,rs,ex,h,k⟩;unfold zbH at h
 split at h
 ·obtain⟨v,w,rfl,ex1,ey1⟩:=yU.two ex
  cases x8 ex1;cases x8 ey1;exact zjy hc pins s σ H _ us Q I rv ⟨_,_,rfl,k.now rs (.val (.int _)) h⟩
 ·exact h.elim
theorem zgR {K:Frag} : ∀{bs:List Bool} {vs:List V},RVs K A H (bs.map PV.bl) vs->vs=bs.map V.bl
 | [],_,.nil=>rfl
 | b::bs,_,.cons r t=>by cases r;rw[zgR t];rfl
theorem zbV {K:Frag} : ∀{bs:List Str} {vs:List V},RVs K A H (bs.map PV.str) vs->vs=bs.map V.str
 | [],_,.nil=>rfl
 | b::bs,_,.cons r t=>by cases r;rw[zbV t];rfl
theorem zcj {K:Frag} : ∀(bs:List Str),RVs K A H (bs.map PV.str) (bs.map V.str)
 | []=> .nil
 | b::bs=> .cons (.str b) (zcj bs)
theorem zff {K:Frag} : ∀(bs:List Int),RVs K A H (bs.map PV.int) (bs.map V.int)
 | []=> .nil
 | b::bs=> .cons (.int b) (zff bs)
def uX:PV->z8->Option (List PV)
 | .lst xs,_=>some xs
 | .obj i,st=>(match st[i]? with | some (.lst xs)=>some xs | _=>none)
 | _,_=>none
theorem hU {st:z8}{x:PV}{v:V}{xs:List PV}(rs:RS X.K A H st)(ex:RE X.K A H x v)(h:uX x st=some xs): ∃a vs,v= .ref a/\x5 X.K H a vs/\RVs X.K A H xs vs/\vs.length<=sizeLine:=by
 cases ex with
 | val e=>
  cases e with
  | lst t z r=>cases h;exact⟨_,_,rfl,t.sq,r,z⟩
  | _=>cases h
 | obj eo=>
  dsimp only[uX]at h
  split at h
  ·rename_i q
   cases h;obtain⟨vs,h1,r,z⟩:=rs.at_ _ _ _ eo q;exact⟨_,_,rfl,.of h1,r,z⟩
  ·cases h
def zg8:y4:=λxs st Q=>match xs with | [x]=> ∃bs:List Bool,uX x st=some (bs.map PV.bl)/\Q (.bl (bs.all id)) st | _=>False
theorem zfJ (hc:X.calm=true):xB X (.builtin "all") (v8 X.K zg8):=by
 intro pins s σ H vs us Q I rv ⟨A,st,xs,Q3,rs,ex,h,k⟩;unfold zg8 at h
 split at h
 ·obtain⟨v,rfl,ex1⟩:=yU.one ex
  obtain⟨bs,e,h⟩:=h;obtain⟨a,ws,rfl,hs,r,z⟩:=hU rs ex1 e;cases zgR r;exact zjs hc pins s σ H _ us Q I rv ⟨a,bs,rfl,hs,k.now rs (.val (.bl _)) h⟩
 ·exact h.elim
def rE:zA->PV
 | .inl i=> .int i
 | .inr z=> .str z
def sO:PV->z8->Option (List PV)
 | .lst xs,_=>some xs
 | .tup xs,_=>some xs
 | .obj i,st=>(match st[i]? with | some (.lst xs)=>some xs | some (.dct kvs)=>some (kvs.map λq=>rE q.1) | _=>none)
 | .dct kvs,_=>some (kvs.map λq=>rE q.1)
 | _,_=>none
def zpj:y4:=λxs st Q=>match xs with | [x]=>(match sO x st with | some ys=>Q (.lst ys) st | none=>False) | _=>False
def zbG:y4:=λxs st Q=>match xs with | [x]=>(match sO x st with | some ys=>Q (.obj st.length) (st++ [.lst ys]) | none=>False) | _=>False
theorem zba {K:Frag} : ∀{kvs:List (zA×PV)} {us:List (zA×V)},RKs K A H kvs us->RVs K A H (kvs.map λq=>rE q.1) (us.map λq=>kV q.1)
 | _,_,.nil=> .nil
 | _,_,.cons (k:=k) r t=>by
  rw[List.map_cons,List.map_cons];refine .cons ?_ (zba t);cases k with
  | inl i=>exact .int i
  | inr z=>exact .str z
theorem zlS (hc:X.calm=true){vs:List V}{us:List Value}{Q:VK}{st:z8}{x:PV}{ys:List PV}{v:V}(I:z5 X pins σ H s)(rv:zR [v] us)(rs:RS X.K A H st)(ex1:RE X.K A H x v)(e:sO x st=some ys)
  (k: ∀ws,RVs X.K A H ys ws->ws.length<=sizeLine->∀p,H p=none->Q (.ref p) (zQ H p (.lst ws))):wpAny (model X.prog X.w) X.A (call (.type "list") us) (EP X pins σ Q) X.xe s:=by
 cases ex1 with
 | val e1=>
  cases e1 with
  | lst t z r=>cases e;exact eY pins s σ H _ us Q I rv ⟨_,_,rfl,.inl t.sq,k _ r z⟩
  | tup t z r=>cases e;exact eY pins s σ H _ us Q I rv ⟨_,_,rfl,.inr t.sq,k _ r z⟩
  | dct t z r=>cases e;exact zdr hc pins s σ H _ us Q I rv ⟨_,_,rfl,t.1,k _ (zba r) (by rw[List.length_map];exact z)⟩
  | _=>cases e
 | obj eo=>
  dsimp only[sO]at e
  split at e
  ·rename_i q
   cases e;obtain⟨ws,h1,r,z⟩:=rs.at_ _ _ _ eo q;exact eY pins s σ H _ us Q I rv ⟨_,_,rfl,.inl (.of h1),k _ r z⟩
  ·rename_i q
   cases e;obtain⟨ws,h1,r,z⟩:=rs.at_ _ _ _ eo q;exact zdr hc pins s σ H _ us Q I rv ⟨_,_,rfl,h1,k _ (zba r) (by rw[List.length_map];exact z)⟩
  ·cases e
theorem zfO (hc:X.calm=true):xB X (.type "list") (v8 X.K zbG):=by
 intro pins s σ H vs us Q I rv ⟨A,st,xs,Q3,rs,ex,h,k⟩;unfold zbG at h
 split at h
 ·obtain⟨v,rfl,ex1⟩:=yU.one ex
  split at h
  ·rename_i ys e
   exact zlS (vs:= []) hc I rv rs ex1 e λws r z=>k.lstO rs r z h
  ·exact h.elim
 ·exact h.elim
def zbO:y4:=λxs st Q=>match xs with | [x]=> ∃ss:List Str,uX x st=some (ss.map PV.str)/\ss.length < 64/\∀ss',ss'.Perm ss->sortedS ss'=true->Q (.lst (ss'.map PV.str)) st | _=>False
theorem zmU:xB X (.builtin "sorted") (v8 X.K zbO):=by
 intro pins s σ H vs us Q I rv ⟨A,st,xs,Q3,rs,ex,h,k⟩;unfold zbO at h
 split at h
 ·obtain⟨v,rfl,ex1⟩:=yU.one ex
  obtain⟨ss,e,hl,h⟩:=h;obtain⟨a,ws,rfl,hs,r,z⟩:=hU rs ex1 e;cases zbV r;refine zj3 pins s σ H _ us Q I rv ⟨a,ss,rfl,hs,hl,λp ss' hp h1 h2=> ?_⟩;exact k.lst rs (zcj ss') (by rw[List.length_map,h1.length_eq];exact Nat.le_trans (Nat.le_of_lt hl) (by decide)) (h ss' h1 h2) p hp
 ·exact h.elim
def zqP:zG:=λ_ st Q=>Q (.obj st.length) (st++ [.dct []])
def kZ:PV->Option (zA×PV)
 | .tup [x,y]=>(match wP x with | some k=>some (k,y) | none=>none)
 | _=>none
def wR (kvs more:List (zA×PV)):List (zA×PV):=more.foldl (λacc kv=>wS acc kv.1 kv.2) kvs
theorem RKs.merge {K:Frag} : ∀{b:List (zA×PV)} {d:List (zA×V)} {a:List (zA×PV)} {c:List (zA×V)},RKs K A H a c->RKs K A H b d->RKs K A H (wR a b) (rF c d)
 | _,_,_,_,h,.nil=>h
 | _,_,a,c,h,.cons (k:=k) (x:=x) (v:=v) r t=>RKs.merge (a:=wS a k x) (c:=wX c k v) (RKs.put r h) t
theorem RVs.two {K:Frag}{x y:PV}{vs:List V}(h:RVs K A H [x,y] vs): ∃v w,vs= [v,w]/\RV K A H x v/\RV K A H y w:=by
 cases h with
 | cons r t=>cases t with
  | cons r2 t2=>cases t2;exact⟨_,_,rfl,r,r2⟩
theorem zbw: ∀{xs:List PV} {vs:List V} {ps:List (zA×PV)},RVs X.K A H xs vs->xs.map kZ=ps.map some->∃as us,vs=as.map V.ref/\eK X.K H as us/\RKs X.K A H ps us
 | [],_,[],.nil,_=>⟨[],[],rfl,.nil,.nil⟩
 | [],_,_::_,.nil,h=>by cases h
 | _::_,_,[],.cons _ _,h=>by cases h
 | x::xs,_,p::ps,.cons r t,h=>by
  rw[List.map_cons,List.map_cons]at h;obtain⟨h1,h2⟩:=List.cons.inj h;obtain⟨as,us,rfl,hp,hk⟩:=zbw t h2;unfold kZ at h1
  split at h1
  ·rename_i k0 y0
   split at h1
   ·rename_i kk ek
    cases h1;cases r with | tup t' z' r'=>
     obtain⟨w1,w2,rfl,ra,rc⟩:=RVs.two r';have e1:=q9 (.val ra) ek;subst e1;exact⟨_::as,(kk,_)::us,rfl,.cons t'.sq hp,.cons rc hk⟩
   ·cases h1
  ·cases h1
def gL:y4:=λxs st Q=>match xs with | [.tup ys]=> ∃ps,ys.map kZ=ps.map some/\Q (.dct (wR [] ps)) st | _=>False
def j3:y4:=λxs st Q=>match xs with | [.tup ys]=> ∃ps,ys.map kZ=ps.map some/\Q (.obj st.length) (st++ [.dct (wR [] ps)]) | _=>False
theorem zbk {us:List (zA×V)}{n:Nat}(h:us.length<=n):(rF [] us).length<=n:=by
 have:=h8 us [];simp only[List.length_nil,Nat.zero_add]at this;exact Nat.le_trans this h
theorem zfK (hc:X.calm=true):xB X (.type "dict") (v8 X.K gL):=by
 intro pins s σ H vs us Q I rv ⟨A,st,xs,Q3,rs,ex,h,k⟩;unfold gL at h
 split at h
 ·obtain⟨v,rfl,ex1⟩:=yU.one ex
  obtain⟨ps,e,h⟩:=h;cases ex1 with | val e1=>cases e1 with | tup t z r=>
   obtain⟨as,ks,rfl,hp,hk⟩:=zbw r e;have hl:ks.length<=sizeLine:=by rw[<- Paired.length hp];rw[List.length_map]at z;exact z
   exact zdp hc pins s σ H _ us Q I rv ⟨_,as,ks,rfl,t.sq,hp,k.dct rs (RKs.merge .nil hk) (zbk hl) h⟩
 ·exact h.elim
theorem zfL (hc:X.calm=true):xB X (.type "dict") (v8 X.K j3):=by
 intro pins s σ H vs us Q I rv ⟨A,st,xs,Q3,rs,ex,h,k⟩;unfold j3 at h
 split at h
 ·obtain⟨v,rfl,ex1⟩:=yU.one ex
  obtain⟨ps,e,h⟩:=h;cases ex1 with | val e1=>cases e1 with | tup t z r=>
   obtain⟨as,ks,rfl,hp,hk⟩:=zbw r e;have hl:ks.length<=sizeLine:=by rw[<- Paired.length hp];rw[List.length_map]at z;exact z
   exact zdp hc pins s σ H _ us Q I rv ⟨_,as,ks,rfl,t.sq,hp,k.dctO rs (RKs.merge .nil hk) (zbk hl) h⟩
 ·exact h.elim
end
end L3
namespace L3
open PySem PySem.Spec PyProof.Rows L2
def uW:PV->z8->String
 | .lst _,_=> "list"
 | .dct _,_=> "dict"
 | .str _,_=> "str"
 | .obj i,st=>(match st[i]? with | some (.lst _)=> "list" | some (.dct _)=> "dict" | _=> "")
 | _,_=> ""
def pI (K:Frag)(R:PV->y4):V->List V->Hp->VK->Prop:=λv vs H Q=> ∃A st x xs Q3,RS K A H st/\RE K A H x v/\yU K A H xs vs/\R x xs st Q3/\Fin K A H Q3 Q
def vBM (T:String)(R:PV->y4)(To:zG)(TA:yS):zG:=λenv st Q=>To env st λx st1=>uW x st1=T/\TA env st1 λxs st2=>R x xs st2 Q
def zqJ (T:String)(R:PV->y4)(To:zG):zG:=λenv st Q=>To env st λx st1=>uW x st1=T/\R x [] st1 Q
section
variable {X:Cx} {o e:Expr} {es:List Expr} {apos cpos:Pos} {To:zG} {TA:yS} {T id:String} {name:Str} {R:PV->y4}
theorem zhJ {K:Frag}{A:List Addr}{H:Hp}{st:z8}{x:PV}{v:V}(rs:RS K A H st)(ex:RE K A H x v)(h:uW x st=T)(hT:T≠ ""):fL K T v H:=by
 subst h;cases ex with
 | val e=>
  cases e with
  | lst t z r=>exact .inl ⟨rfl,_,t.sq⟩
  | dct t z r=>exact .inr (.inr (.inl ⟨rfl,.inl ⟨_,t.1⟩⟩))
  | str z=>exact rfl
  | _=>exact absurd rfl hT
 | obj eo=>
  dsimp only[uW]at hT⊢
  split
  ·rename_i q
   obtain⟨vs,h1,r,z⟩:=rs.at_ _ _ _ eo q;exact .inl ⟨rfl,_,.of h1⟩
  ·rename_i q
   obtain⟨vs,h1,r,z⟩:=rs.at_ _ _ _ eo q;exact .inr (.inr (.inl ⟨rfl,.inl ⟨_,h1⟩⟩))
  ·exfalso
   split at hT
   ·rename_i n1 n2 _ _ q;exact n1 _ q
   ·rename_i n1 n2 _ _ q;exact n2 _ q
   ·exact hT rfl
theorem wY (pa:PlainAttrs T)(slot:Slot T name id)(hty:typeOf (.builtin id)=pure (.type "method_descriptor"))(hT:T≠ "")(hm:tI X id (pI X.K R))(ho:PE X o (zV X.K To))(ha:PA X (e::es) (vF X.K TA))
  (hbase:attributeBase o name X.env (eval o X.env)=eval o X.env:=by rfl)
  (hfew:((backTo cpos (starEach (e::es) X.env)).all (λx=> !x.1)&&(backToKw cpos (keywordEach [] X.env)).all (λx=>x.1.isSome)
   &&decide ((e::es).length+([]:List Keyword).length+(if([]:List Keyword).isEmpty then 0 else 1) < 30))=true:=by rfl)
  (hline:(apos.endLine==cpos.line)=true:=by rfl) (hs:starEach (e::es) X.env=(false,eval e X.env)::starEach es X.env:=by rfl) (hplain:(backTo cpos (starEach es X.env)).any (·.1)=false:=by rfl):
  PE X (.Call (.Attribute o name apos) (e::es) [] cpos) (zV X.K (vBM T R To TA)):=
 xP (znS pa slot hty hm ho ha hbase hfew hline hs hplain) λσ H Q ⟨A,env,st,Q3,rel,h,k⟩=>⟨A,env,st,_,rel,h,λA1 H1 st1 x v g1 s1 e1 h1=>⟨zhJ s1 e1 h1.1 hT,A1,env,st1,_,rel.grow g1 s1,h1.2,λA2 H2 st2 xs vs g2 s2 e2 h2=>
  ⟨A2,st2,x,xs,Q3,s2,e1.grow g2,e2,h2,k.after (g1.trans g2)⟩⟩⟩
def zbB:PV->y4:=λx xs st Q=>match x,xs with
 | .obj i,[y]=>(match st[i]? with | some (.lst zs)=>yQ y=true/\zs.length < sizeLine/\Q .non (st.set i (.lst (zs++ [y]))) | _=>False)
 | _,_=>False
theorem o0:tI X "list.append" (pI X.K zbB):=by
 intro pins s σ H v vs vv us Q I rv rvs ⟨A,st,x,xs,Q3,rs,ex,exs,h,k⟩;unfold zbB at h
 split at h
 ·rename_i i y
  obtain⟨w,rfl,ey⟩:=yU.one exs;cases ex with
  | val e=>cases e
  | obj eo=>
   have hm:=List.mem_of_getElem? eo
   split at h
   ·rename_i zs q
    obtain⟨ws,h1,r,z⟩:=rs.at_ _ _ _ eo q;obtain⟨hn,hl,h⟩:=h;rw[r.len]at hl;refine zm0 pins s σ H _ _ vv us Q I rv rvs ⟨_,ws,w,rfl,rfl,h1,hl,k A _ _ _ _ (.put hm) (rs.put (q:= .lst (zs++ [y])) eo ⟨_,xM,(r.grow (.put hm)).append (.cons ((ey.rv hn).grow (.put hm)) .nil),?_⟩) (.val .non) h⟩;rw[List.length_append,List.length_singleton];exact hl
   ·exact h.elim
 ·exact h.elim
def zpa:PV->y4:=λx xs st Q=>match x,xs with
 | .obj i,[.lst ys]=>(match st[i]? with | some (.lst zs)=>zs.length+ys.length<=sizeLine/\Q .non (st.set i (.lst (zs++ys))) | _=>False)
 | _,_=>False
def zpl:PV->y4:=λx xs st Q=>match x,xs with
 | .obj i,[]=>(match st[i]? with | some (.lst zs)=>(match zs.getLast? with | some y=>Q y (st.set i (.lst zs.dropLast)) | none=>False) | _=>False)
 | _,_=>False
def vN:PV->z8->Option (List (zA×PV))
 | .dct kvs,_=>some kvs
 | .obj i,st=>(match st[i]? with | some (.dct kvs)=>some kvs | _=>none)
 | _,_=>none
theorem kI {K:Frag}{A:List Addr}{H:Hp}{st:z8}{x:PV}{v:V}{kvs:List (zA×PV)}(rs:RS K A H st)(ex:RE K A H x v)(h:vN x st=some kvs): ∃a us,v= .ref a/\H a=some (.dK us)/\RKs K A H kvs us/\us.length<=sizeLine:=by
 cases ex with
 | val e=>
  cases e with
  | dct t z r=>cases h;exact⟨_,_,rfl,t.1,r,z⟩
  | _=>cases h
 | obj eo=>
  dsimp only[vN]at h
  split at h
  ·rename_i q
   cases h;obtain⟨vs,h1,r,z⟩:=rs.at_ _ _ _ eo q;exact⟨_,_,rfl,h1,r,z⟩
  ·cases h
def mR:PV->y4:=λx xs st Q=>match vN x st,xs with
 | some kvs,[y]=>(match wP y with | some k=>Q ((yY kvs k).getD .non) st | none=>False)
 | some kvs,[y,z]=>(match wP y with | some k=>yQ z=true/\Q ((yY kvs k).getD z) st | none=>False)
 | _,_=>False
theorem g9 {k:Nat}(hr:zX k X.A):tI X "dict.get" (pI X.K mR):=by
 intro pins s σ H v vs vv us Q I rv rvs ⟨A,st,x,xs,Q3,rs,ex,exs,h,k⟩;have hu:X.A.units+1 < cLine:=by have:=hr.units;omega
 unfold mR at h
 split at h
 ·rename_i kvs y ed
  obtain⟨a,ks,rfl,h1,r,z⟩:=kI rs ex ed;obtain⟨w,rfl,ey⟩:=yU.one exs;cases rv;obtain⟨u,rfl,ru⟩:=zR.one rvs
  split at h
  ·rename_i kk ek
   have ew:=q9 ey ek;refine zjI hu I (.inl ⟨ks,kk,.inl h1,ew,rfl⟩) ru λw' s' I' rw'=> ?_;rcases r.val (k:=kk)with⟨x',v',e1,e2,r'⟩ | ⟨e1,e2⟩
   ·rw[e2]at rw';rw[e1]at h
    exact⟨v',H,I',rw',k.now rs (.val r') h⟩
   ·rw[e2]at rw';rw[e1]at h
    exact⟨.non,H,I',rw',k.now rs (.val .non) h⟩
  ·exact h.elim
 ·rename_i kvs y z0 ed
  obtain⟨a,ks,rfl,h1,r,z⟩:=kI rs ex ed;obtain⟨w,w2,rfl,ey,ez⟩:=yU.two exs;cases rv;obtain⟨u,u2,rfl,ru,ru2⟩:=zR.two rvs
  split at h
  ·rename_i kk ek
   have ew:=q9 ey ek;refine zjJ hu I (.inl ⟨ks,kk,.inl h1,ew,rfl⟩) ru ru2 λw' s' I' rw'=> ?_;rcases r.val (k:=kk)with⟨x',v',e1,e2,r'⟩ | ⟨e1,e2⟩
   ·rw[e2]at rw';rw[e1]at h
    exact⟨v',H,I',rw',k.now rs (.val r') h.2⟩
   ·rw[e2]at rw';rw[e1]at h
    exact⟨_,H,I',rw',k.now rs ez h.2⟩
  ·exact h.elim
 ·exact h.elim
def zbE:PV->y4:=λx xs st Q=>match x,xs with
 | .str sep,[y]=> ∃ss:List Str,uX y st=some (ss.map PV.str)/\(ss.map (·.length)).sum+ss.length * sep.length<=16777216/\Q (.str (Txt.join sep ss)) st
 | _,_=>False
theorem zmN:tI X "str.join" (pI X.K zbE):=by
 intro pins s σ H v vs vv us Q I rv rvs ⟨A,st,x,xs,Q3,rs,ex,exs,h,k⟩;unfold zbE at h
 split at h
 ·obtain⟨w,rfl,ey⟩:=yU.one exs
  cases p5 ex;obtain⟨ss,e,hl,h⟩:=h;obtain⟨a,ws,rfl,hs,r,z⟩:=hU rs ey e;cases zbV r;exact zm3 pins s σ H _ _ vv us Q I rv rvs ⟨_,a,ss,rfl,rfl,hs,hl,k.now rs (.val (.str _)) h⟩
 ·exact h.elim
def u5:PV->Bool
 | .non=>true
 | .bl _=>true
 | .int _=>true
 | .str _=>true
 | _=>false
def pS (x:PV)(ys:List PV):Bool:=ys.any λy=>yD y x
theorem zaS {K:Frag}{A:List Addr}{H:Hp}{x:PV}{v:V}(r:RV K A H x v):uT v=u5 x:=by
 cases r <;> rfl
theorem zaT {K:Frag}{A:List Addr}{H:Hp} : ∀{xs:List PV} {vs:List V},RVs K A H xs vs->vs.all uT=xs.all u5
 | _,_,.nil=>rfl
 | _,_,.cons r t=>by rw[List.all_cons,List.all_cons,zaS r,zaT t]
theorem zdN {K:Frag}{A:List Addr}{H:Hp}{x y:PV}{v w:V}(r:RV K A H x v)(r2:RV K A H y w)(f:u5 x=true)(f2:u5 y=true):sM v w=yD x y:=by
 cases r <;> first | (exact absurd f Bool.false_ne_true) | skip
 all_goals (cases r2 <;> first | (exact absurd f2 Bool.false_ne_true) | skip)
 all_goals (unfold sM yD;rfl)
theorem zfe {K:Frag}{A:List Addr}{H:Hp}{x:PV}{v:V}(r:RV K A H x v)(f:u5 x=true): ∀{xs:List PV} {vs:List V},RVs K A H xs vs->xs.all u5=true->nZ v vs=pS x xs
 | _,_,.nil,_=>rfl
 | _,_,.cons r1 t,h=>by
  rw[List.all_cons,Bool.and_eq_true]at h;have ih:=zfe r f t h.2;unfold nZ pS at ih⊢
  rw[List.any_cons,List.any_cons,ih,zdN r1 r h.1 f]
def jD:PV->z8->Option (List PV)
 | .tup xs,_=>some xs
 | .lst xs,_=>some xs
 | .obj i,st=>(match st[i]? with | some (.lst xs)=>some xs | _=>none)
 | _,_=>none
def j4 (neg:Bool):R3:=λx y st Q=>match jD y st with
 | some xs=>(u5 x=true/\xs.all u5=true)/\Q (.bl (if neg then !pS x xs else pS x xs)) st
 | none=>(match vN y st with
  | some kvs=>(match wP x with | some k=>Q (.bl (if neg then !(yY kvs k).isSome else(yY kvs k).isSome)) st | none=>False)
  | none=>(match x,y with | .str i,.str j=>Q (.bl (if neg then !(!(Builtin.Str.occurrences j i 0 j.length 1).isEmpty)else !(Builtin.Str.occurrences j i 0 j.length 1).isEmpty)) st | _,_=>False))
theorem zpM {K:Frag}{A:List Addr}{H:Hp}{st:z8}{x:PV}{v:V}{xs:List PV}(rs:RS K A H st)(ex:RE K A H x v)(h:jD x st=some xs): ∃a vs,v= .ref a/\(x5 K H a vs∨x4 K H a vs)/\RVs K A H xs vs:=by
 cases ex with
 | val e=>
  cases e with
  | lst t z r=>cases h;exact⟨_,_,rfl,.inl t.sq,r⟩
  | tup t z r=>cases h;exact⟨_,_,rfl,.inr t.sq,r⟩
  | _=>cases h
 | obj eo=>
  dsimp only[jD]at h
  split at h
  ·rename_i q
   cases h;obtain⟨vs,h1,r,z⟩:=rs.at_ _ _ _ eo q;exact⟨_,_,rfl,.inl (.of h1),r⟩
  ·cases h
theorem zkO {x:PV}(h:u5 x=true):yQ x=true:=by
 cases x <;> first | rfl | cases h
theorem zmP {k:Nat}(hr:zX k X.A):yN X (compareOp .NotIn) (wB X.K (j4 true)):=t6 λpins s σ H A st x y v w vv ww Q3 Q I rs ex ey rv rw h k=>by
 have hu:X.A.units+1 < cLine:=by have:=hr.units;omega
 unfold j4 at h
 split at h
 ·rename_i xs e
  obtain⟨a,ws,rfl,hs,r⟩:=zpM rs ey e;obtain⟨⟨f1,f2⟩,h⟩:=h;have ex':=ex.rv (zkO f1);refine znG pins s σ H _ _ vv ww Q I rv rw ⟨a,ws,rfl,hs,by rw[zaS ex'];exact f1,by rw[zaT r];exact f2,?_⟩;have e2:=zfe ex' f1 r f2;have:(if true=true then !nZ v ws else nZ v ws)= !pS x xs:=by rw[if_pos rfl,e2]
  rw[this];exact k.now rs (.val (.bl _)) h
 ·split at h
  ·rename_i kvs e
   obtain⟨a,us,rfl,h1,r,z⟩:=kI rs ey e
   split at h
   ·rename_i kk ek
    cases rw;refine zjM hu I (.inl ⟨us,kk,.inl h1,q9 ex ek,rfl⟩) rv λs' I'=>⟨.bl _,H,I',rfl,?_⟩;rcases r.val (k:=kk)with⟨x',v',e1,e2,r'⟩ | ⟨e1,e2⟩
    ·rw[e2];rw[e1]at h;exact k.now rs (.val (.bl _)) h
    ·rw[e2];rw[e1]at h;exact k.now rs (.val (.bl _)) h
   ·exact h.elim
  ·split at h
   ·cases p5 ex;cases p5 ey
    exact znH pins s σ H _ _ vv ww Q I rv rw ⟨_,_,rfl,rfl,k.now rs (.val (.bl _)) h⟩
   ·exact h.elim
end
end L3
namespace L3
open PySem PySem.Spec PyProof.Rows L2
theorem zoj {α β:Type}{R:α->β->Prop}{b' b:List β}(p:b'.Perm b): ∀{a:List α},Paired R a b->∃a',a'.Perm a/\Paired R a' b':=by
 induction p with
 | nil=>intro a h;cases h;exact⟨[],.nil,.nil⟩
 | cons x p ih=>
  intro a h;cases h with
  | cons r t=>
   obtain⟨a',h1,h2⟩:=ih t;exact⟨_::a',.cons _ h1,.cons r h2⟩
 | swap x y l=>
  intro a h;cases h with
  | cons r t=>
   cases t with
   | cons r2 t2=>exact⟨_::_::_,.swap _ _ _,.cons r2 (.cons r t2)⟩
 | trans p q ih1 ih2=>
  intro a h;obtain⟨a1,h1,h2⟩:=ih2 h;obtain⟨a2,h3,h4⟩:=ih1 h2;exact⟨a2,h3.trans h1,h4⟩
def lQ (K:Frag)(A:List Addr)(H:Hp):List (Str×PV)->List (Str×V)->Prop:=Paired λp q=>p.1=q.1/\RV K A H p.2 q.2
theorem zbT {K:Frag}{A:List Addr}{H:Hp} : ∀{ss:List (Str×PV)} {us:List (zA×V)},RKs K A H (ss.map λq=>(Sum.inr q.1,q.2)) us->∃ws,us=p4 ws/\lQ K A H ss ws
 | [],_,.nil=>⟨[],rfl,.nil⟩
 | (z,x)::ss,_,.cons (v:=v) r t=>by
  obtain⟨ws,rfl,h⟩:=zbT (ss:=ss) t;exact⟨(z,v)::ws,rfl,.cons ⟨rfl,r⟩ h⟩
def zic (To:zG):zG:=λenv st Q=>To env st λx st1=> ∃ss:List (Str×PV),vN x st1=some (ss.map λq=>(Sum.inr q.1,q.2))/\ss.length < 64/\
 ∀ss':List (Str×PV),ss'.Perm ss->(ss'.Pairwise λa b=>a.1.cps.toList < b.1.cps.toList)->Q (.lst (ss'.map λq=> .tup [.str q.1,q.2])) st1
section
variable {X:Cx} {o:Expr} {To:zG} {p ap cp pos:Pos}
theorem zjO {x:PV}{st:z8}{kvs:List (zA×PV)}(h:vN x st=some kvs):uW x st= "dict" :=by
 cases x with
 | dct k=>rfl
 | obj i=>
  dsimp only[vN]at h;dsimp only[uW]
  split at h
  ·rename_i q;rw[q]
  ·cases h
 | _=>cases h
theorem zgk {A:List Addr}{H H':Hp}{st:z8}(rs:RS X.K A H st)(hk: ∀b,H b≠none->H' b=H b): ∀{as:List Addr} {ss:List (Str×PV)} {ws:List (Str×V)},lQ X.K A H ss ws->Paired (λa (q:Str×V)=>H' a=some (.tup [.str q.1,q.2])) as ws->
  RVs X.K A H' (ss.map λq=> .tup [.str q.1,q.2]) (as.map V.ref)
 | _,_,_,.nil,.nil=> .nil
 | _,_,_,.cons (a:=a) r t,.cons (a:=b) e t2=>by
  have g:yC A H A H':=⟨⟨[],by simp,by simp⟩,λb o h _=>by rw[hk b (by rw[h];exact Option.some_ne_none _)];exact h,λb h=>by rw[hk b h];exact h⟩;rw[List.map_cons,List.map_cons];refine .cons (.tup (.inl ⟨.inl e,λm=> ?_⟩) (by show 2<=sizeLine;decide) (.cons ?_ (.cons (r.2.grow g) .nil))) (zgk rs hk t t2)
  ·obtain⟨i,o,e1,e2,oa⟩:=rs.has m
   rw[hk b oa.some]at e;cases o with
   | lst xs=>obtain⟨vs,h,_⟩:=oa;rw[h]at e;cases e
   | dct xs=>obtain⟨vs,h,_⟩:=oa;rw[h]at e;cases e
   | tbl T pos q=>obtain⟨_,ps,h,_⟩:=oa;rw[h]at e;cases e
   | itb kvs=>rw[show _=_ from oa]at e;cases e
  ·rw[r.1];exact .str _
theorem zoO (hc:X.calm=true)(hg:Gl X "sorted")(hm:X.mg "sorted" =none)(ho:PE X o (zV X.K To))(hb1:attributeBase o "items" X.env (eval o X.env)=eval o X.env:=by rfl)(hl:(ap.endLine==cp.line)=true:=by rfl)
  (he:starEach [.Call (.Attribute o "items" ap) [] [] cp] X.env=(false,eval (.Call (.Attribute o "items" ap) [] [] cp) X.env)::starEach [] X.env:=by rfl) (hpl:(backTo pos (starEach [] X.env)).any (·.1)=false:=by rfl):
  PE X (.Call (.Name "sorted" p) [.Call (.Attribute o "items" ap) [] [] cp] [] pos) (zV X.K (zic To)):=by
 refine xP (gC (zj2 hc) hg hm boot_sorted (xW (znT PySem.F.plainAttrs_dict PySem.F.slot_dict_items PySem.F.type_dict_items zm2 ho hb1 hl) vQ he) (by decide) (by decide) he hpl) λσ H Q ⟨A,env,st,Q3,rel,h,k⟩=> ?_;refine⟨A,env,st,_,rel,h,λA1 H1 st1 x v g1 s1 e1 h1=> ?_⟩;obtain⟨ss,ed,hl,h1⟩:=h1;refine⟨zhJ s1 e1 (zjO ed) (by decide),?_⟩;obtain⟨a,us,rfl,hd,r,z⟩:=kI s1 e1 ed;obtain⟨ws,rfl,hp⟩:=zbT r;refine⟨a,_,rfl,rfl,hd,λvw hvw=> ?_⟩;have hlw:ws.length < 64:=by rw[<- Paired.length hp];exact hl
 refine⟨vw,a,ws,rfl,xM,by rw[yP (uA hd hvw)];exact hd,hlw,λL as ws' H' hpm hpw hL hH' hT hk=> ?_⟩;obtain⟨ss',hp1,hp2⟩:=zoj hpm hp;have s2:=s1.new (o:=pU vw a) hvw;have g2:yC A1 H1 A1 (zQ H1 vw (pU vw a)):= .new hvw;have g3:yC A1 (zQ H1 vw (pU vw a)) A1 H':=⟨⟨[],by simp,by simp⟩,λb o h _=>by rw[hk b (by rw[h];exact Option.some_ne_none _)];exact h,λb h=>by rw[hk b h];exact h⟩;have s3:=s2.move g3 λb m=>hk b (s2.live m);have hp3:lQ X.K A1 (zQ H1 vw (pU vw a)) ss' ws':=Paired.mapP hp2 λp q h=>⟨h.1,h.2.grow g2⟩;have hR:=zgk s2 hk hp3 hT;refine k A1 H' st1 _ _ (g1.trans (g2.trans g3)) s3 (.val (.lst (.inl ⟨.inl hH',s2.fresh hL⟩) ?_ hR)) (h1 ss' hp1 ?_)
 ·rw[List.length_map]
  have l1:=Paired.length hT;have l2:=hpm.length_eq;exact Nat.le_trans (m:=64) (by omega) (by decide)
 ·have:(ws'.map (·.1)).Pairwise λa b=>a.cps.toList < b.cps.toList:=List.pairwise_map.mpr hpw
  have e:ss'.map (·.1)=ws'.map (·.1):=by
   have gen: ∀{a:List (Str×PV)} {b:List (Str×V)},lQ X.K A1 H1 a b->a.map (·.1)=b.map (·.1):=by
    intro a b h
    induction h with
    | nil=>rfl
    | cons r t ih=>rw[List.map_cons,List.map_cons,ih,r.1]
   exact gen hp2
  rw[<- e]at this;exact(List.pairwise_map (f:=λq:Str×PV=>q.1) (R:=λa b:Str=>a.cps.toList < b.cps.toList)).mp this
end
end L3
namespace L3
open PySem PySem.Spec PyProof.Rows L2
theorem sI {α:Type}{x:α}{xs:List α} :atI (x::xs) 0=some x:=v6 (j:=0) rfl
theorem at1 {α:Type}{x y:α}{xs:List α} :atI (x::y::xs) 1=some y:=v6 (j:=1) rfl
theorem at2 {α:Type}{x y z:α}{xs:List α} :atI (x::y::z::xs) 2=some z:=v6 (j:=2) rfl
theorem at3 {α:Type}{x y z u:α}{xs:List α} :atI (x::y::z::u::xs) 3=some u:=v6 (j:=3) rfl
theorem at4 {α:Type}{x y z u v:α}{xs:List α} :atI (x::y::z::u::v::xs) 4=some v:=v6 (j:=4) rfl
theorem ix0 {n:Nat} :wD (n+1) 0=some 0:=by unfold wD;rw[if_pos (by decide),if_pos (by omega)];rfl
theorem ix1 {n:Nat} :wD (n+2) 1=some 1:=by unfold wD;rw[if_pos (by decide),if_pos (by omega)];rfl
theorem zhB {α:Type}{st:List α} :st.take (st.length+0)=st:=by simp
theorem fJ {α:Type}{st:List α}{i:Nat}{x:α} :(st.set i x).take (st.length+0)=st.set i x:=by rw[Nat.add_zero,List.take_of_length_le (by simp)]
theorem wH {α:Type}{st:List α}{i:Nat}{x y:α} :(st.set i x).set i y=st.set i y:=by simp
theorem uV {α:Type}{st:List α}{i:Nat}{x y:α}(h:st[i]?=some y):(st.set i x)[i]?=some x:=List.getElem?_set_self (List.getElem?_eq_some_iff.mp h).1
end L3
namespace L3
open PySem PySem.Spec PyProof.Rows L2
theorem zcz {p:zA×PV}{r:List (zA×PV)}{k:zA}(e:p.1=k):yY (p::r) k=some p.2:=by simp[yY,List.find?_cons,e]
theorem fP {p:zA×PV}{r:List (zA×PV)}{k:zA}(e: ¬ p.1=k):yY (p::r) k=yY r k:=by simp[yY,List.find?_cons,e]
theorem zii (k:zA): ∀kvs:List (zA×PV),(kvs.any λkv=>decide (kv.1=k))=(yY kvs k).isSome
 | []=>rfl
 | p::r=>by
  rw[List.any_cons];by_cases e:p.1=k
  ·rw[zcz e,decide_eq_true e];rfl
  ·rw[fP e,decide_eq_false e,zii k r];rfl
theorem zoD {kvs:List (zA×PV)}{k:zA}(v:PV)(h:yY kvs k=none):wS kvs k v=kvs++ [(k,v)]:=by
 unfold wS;rw[zii,h];rfl
def xE (l:List (Str×Int)):List (zA×PV):=l.map λq=>(Sum.inr q.1,PV.int q.2)
theorem mD {q:Str×Int}{l:List (Str×Int)} :xE (q::l)=(Sum.inr q.1,PV.int q.2)::xE l:=rfl
theorem lE: ∀(l:List (Str×Int)) (x:Str),(yY (xE l) (Sum.inr x)).getD (.int 0)= .int (y9 l x)
 | [],_=>rfl
 | q::l,x=>by
  rw[mD];unfold y9;by_cases h:q.1=x
  ·rw[zcz (by rw[h]),if_pos h];rfl
  ·rw[fP (λe=>h (by cases e;rfl)),if_neg h]
   exact lE l x
theorem zij: ∀{l:List (Str×Int)} {x:Str},¬ x∈l.map (·.1)->yY (xE l) (Sum.inr x)=none
 | [],_,_=>rfl
 | q::l,x,h=>by
  rw[List.map_cons,List.mem_cons,not_or]at h;rw[mD,fP (λe=>h.1 (by cases e;rfl))];exact zij h.2
theorem zlL (a b:List (Str×Int)):xE (a++b)=xE a++xE b:=by
 unfold xE;simp
theorem zf4: ∀{l:List (Str×Int)} {x:Str} {m:Int},¬ x∈l.map (·.1)->((xE l).map λkv=>if kv.1=Sum.inr x then(kv.1,PV.int m)else kv)=xE l
 | [],_,_,_=>rfl
 | q::l,x,m,h=>by
  rw[List.map_cons,List.mem_cons,not_or]at h;rw[mD,List.map_cons,zf4 h.2,if_neg (λe=>h.1 (by cases e;rfl))]
theorem mapP: ∀{l:List (Str×Int)} {x:Str} {m:Int},(l.map (·.1)).Nodup->x∈l.map (·.1)->((xE l).map λkv=>if kv.1=Sum.inr x then(kv.1,PV.int m)else kv)=xE (wE l x m)
 | q::l,x,m,hn,h=>by
  have hn':=List.nodup_cons.mp hn;rw[mD,List.map_cons];unfold wE;by_cases e:q.1=x
  ·subst e
   rw[if_pos rfl,if_pos rfl,zf4 hn'.1];rfl
  ·rw[if_neg (λz=>e (by cases z;rfl)),if_neg e,mapP hn'.2 ((List.mem_cons.mp h).resolve_left λz=>e z.symm)];rfl
theorem zcV: ∀{l:List (Str×Int)} {x:Str},x∈l.map (·.1)->((xE l).any λkv=>decide (kv.1=Sum.inr x))=true
 | q::l,x,h=>by
  rw[mD,List.any_cons];rcases List.mem_cons.mp h with e | h
  ·subst e;simp
  ·rw[zcV h];simp
theorem gH {l:List (Str×Int)}{x:Str}{m:Int}(hn:(l.map (·.1)).Nodup):wS (xE l) (Sum.inr x) (.int m)=xE (wE l x m):=by
 by_cases h:x∈l.map (·.1)
 ·unfold wS
  rw[if_pos (by simpa using zcV h)];exact mapP hn h
 ·rw[zoD _ (zij h),zb4 h,zlL];rfl
theorem zf7: ∀(b a:List (Str×Int)),((a++b).map (·.1)).Nodup->wR (xE a) (xE b)=xE (a++b)
 | [],a,_=>by rw[List.append_nil];rfl
 | q::b,a,hn=>by
  have hq: ¬ q.1∈a.map (·.1):=λz=>by
   rw[List.map_append,List.map_cons]at hn;exact(List.nodup_append.mp hn).2.2 _ z _ (.head _) rfl
  have hna:(a.map (·.1)).Nodup:=by
   rw[List.map_append]at hn;exact(List.nodup_append.mp hn).1
  have e1:a++q::b=(a++ [q])++b:=by simp
  rw[e1]at hn⊢
  show wR (wS (xE a) (Sum.inr q.1) (.int q.2)) (xE b)=_;rw[gH hna,zb4 hq];exact zf7 b (a++ [q]) hn
theorem kU {l:List (Str×Int)}(hn:(l.map (·.1)).Nodup):wR [] (xE l)=xE l:=zf7 l [] hn
def xK (l:List (Str×Int)):PV:= .tup (l.map λq=> .tup [.str q.1,.int q.2])
theorem zbb (l:List (Str×Int)):(xE l).length=l.length:=by unfold xE;rw[List.length_map]
theorem kD (l:List (Str×Int)):(l.map λq:Str×Int=>PV.tup [.str q.1,.int q.2]).map kZ=(xE l).map some:=by
 unfold xE;rw[List.map_map,List.map_map];rfl
theorem zld {α:Type}{st:List α}{i:Nat}{x:α}(h:(st[i]?).isSome=true):(st.set i x)[i]?=some x:=by
 obtain⟨y,e⟩:=Option.isSome_iff_exists.mp h;exact uV e
theorem zkh {Q:K3}{st:z8}{x:PO} :xO (st.length+1) Q (.obj st.length) (st++ [x])=Q (.obj st.length) (st++ [x]):=by
 show(if st.length < st.length+1 then _ else _)=_;rw[if_pos (Nat.lt_succ_self _),List.take_of_length_le (by simp)]
theorem iW {Q:K3}{st:z8}{xs:List PV} :xO (st.length+0) Q (.obj st.length) (st++ [.lst xs])=Q (.lst xs) st:=by
 show(if st.length < st.length+0 then _ else _)=_;rw[if_neg (by omega)];have:(st++ [PO.lst xs])[st.length]?=some (.lst xs):=by simp
 rw[this];simp
theorem zdP {Q:K3}{st:z8}{xs:List (zA×PV)} :xO (st.length+0) Q (.obj st.length) (st++ [.dct xs])=Q (.dct xs) st:=by
 show(if st.length < st.length+0 then _ else _)=_;rw[if_neg (by omega)];have:(st++ [PO.dct xs])[st.length]?=some (.dct xs):=by simp
 rw[this];simp
theorem pH {α:Type}(f:α->PV){ns:List α}{k:Int}(h0:0<=k)(h1:k < ns.length): ∃z∈ns,atI (ns.map f) k=some (f z):=by
 obtain⟨y,hy,e⟩:=zcX (ns.map f) h0 (by simpa using h1);obtain⟨z,hz,rfl⟩:=List.mem_map.mp hy;exact⟨z,hz,e⟩
theorem sR {α:Type}{st:List α}{x:α} :(st++ [x])[st.length]?=some x:=by simp
theorem jE {α:Type}{st:List α}{x y:α} :(st++ [x]).set st.length y=st++ [y]:=by simp
theorem jK {α:Type}{st:List α}{x:α} :(st++ [x]).take (st.length+0)=st:=by simp
theorem zq2 {α:Type}{st:List α}{x:α} :(st++ [x]).take (st.length+1)=st++ [x]:=by rw[List.take_of_length_le (by simp)]
end L3
namespace L3
open PySem PySem.Spec PyProof.Rows L2
theorem sQ {α:Type}{e:List α}(h:e.length=1): ∃a,e= [a]:=List.length_eq_one_iff.mp h
theorem zfw {α:Type}{e:List α}(h:e.length=2): ∃a b,e= [a,b]:=by
 match e,h with
 | [a,b],_=>exact⟨a,b,rfl⟩
def CP (f:PV->Option PV)(own:Nat)(xs:List PV)(env:zO)(st:z8)(i:Nat)(ys:List PV)(env':zO)(st':z8):Prop:=ys=(xs.take i).filterMap f/\st'=st/\∃e',e'.length=own/\env'=env++e'
theorem nB {α:Type}{xs:List α}{i:Nat}{x:α}(h:xs[i]?=some x):xs.take (i+1)=xs.take i++ [x]:=by rw[List.take_succ,h];rfl
theorem CP.yes {f:PV->Option PV}{own:Nat}{xs:List PV}{env:zO}{st:z8}{i:Nat}{x y:PV}{e':zO}(h:xs[i]?=some x)(hf:f x=some y)(he:e'.length=own):CP f own xs env st (i+1) ((xs.take i).filterMap f++ [y]) (env++e') st:=by
 refine⟨?_,rfl,e',he,rfl⟩;rw[nB h,List.filterMap_append,List.filterMap_cons,hf];rfl
theorem CP.no {f:PV->Option PV}{own:Nat}{xs:List PV}{env:zO}{st:z8}{i:Nat}{x:PV}{e':zO}(h:xs[i]?=some x)(hf:f x=none)(he:e'.length=own):CP f own xs env st (i+1) ((xs.take i).filterMap f) (env++e') st:=by
 refine⟨?_,rfl,e',he,rfl⟩;rw[nB h,List.filterMap_append,List.filterMap_cons,hf];simp
theorem vX {own:Nat}{g:wA}{tt:xG}{el:zG}{xs:List PV}{Q:List PV->z8->Prop}{env:zO}{st:z8}(f:PV->Option PV)
  (hs: ∀i x e,xs[i]?=some x->e.length=own->g x (env++e) st λe1 s1=>tt e1 s1 λb s2=>if b=true then el e1 s2 λy s3=>yQ y=true/\CP f own xs env st (i+1) ((xs.take i).filterMap f++ [y]) e1 s3 else CP f own xs env st (i+1) ((xs.take i).filterMap f) e1 s2)
  (hd:Q (xs.filterMap f) st):nG own g tt el none xs Q env st:=by
 refine⟨CP f own xs env st,⟨by simp,rfl,_,by simp,rfl⟩,?_,?_⟩
 ·rintro i x ys env' st' hx ⟨rfl,rfl,e',he,rfl⟩
  exact hs i x e' hx he
 ·rintro ys env' st' ⟨rfl,rfl,e',he,rfl⟩
  show Q _ _;rw[List.take_of_length_le (Nat.le_refl _)];exact hd
theorem pO {g:wA}{b:xF}{src:xY}{xs:List PV}{D:xV}{env:zO}{st:z8}(P:Nat->zO->z8->Prop)(h0:P 0 env st)
  (hs: ∀i x env st,xs[i]?=some x->P i env st->tE src st (g x env st λe s=>b {D with nx:=P (i+1),ct:=P (i+1),bk:=D.nx} e s)) (hd: ∀env st,P xs.length env st->tE src st (D.nx env st)):fW g b src xs D env st:=⟨P,h0,hs,hd⟩
theorem wQ {α:Type}{f:α->PV}{l:List α}{i:Nat}{x:PV}(h:(l.map f)[i]?=some x): ∃y,l[i]?=some y/\x=f y:=by
 rw[List.getElem?_map]at h;cases e:l[i]? with
 | none=>rw[e]at h;cases h
 | some y=>rw[e]at h;exact⟨y,rfl,(Option.some.inj h).symm⟩
def pZ:PV->Option PV:=λx=>match x with | .tup [_,.int m]=>(if m=0 then none else some x) | _=>none
theorem zfF {z:PV}{m:Int}(h:m=0):pZ (.tup [z,.int m])=none:=by unfold pZ;simp[h]
theorem zfG {z:PV}{m:Int}(h: ¬ m=0):pZ (.tup [z,.int m])=some (.tup [z,.int m]):=by unfold pZ;simp[h]
theorem zkN (l:List (Str×Int)):(l.map λq:Str×Int=>PV.tup [.str q.1,.int q.2]).filterMap pZ=(l.filter λq=>decide (q.2≠0)).map λq=>PV.tup [.str q.1,.int q.2]:=by
 induction l with
 | nil=>rfl
 | cons q l ih=>
  rw[List.map_cons,List.filterMap_cons,List.filter_cons];by_cases h:q.2=0
  ·rw[zfF h,ih];simp[h]
  ·rw[zfG h,ih];simp[h]
theorem uS {x:PV}{Q:K3}{st:z8}(h:yQ x=true)(q:Q x st):xO (st.length+0) Q x st:=by
 cases x with
 | obj i=>cases h
 | _=>show Q _ (st.take (st.length+0));rw[zhB];exact q
theorem zkg {x:PV}{Q:K3}{st:z8}{i:Nat}{o:PO}(h:yQ x=true)(q:Q x (st.set i o)):xO (st.length+0) Q x (st.set i o):=by
 cases x with
 | obj i=>cases h
 | _=>show Q _ ((st.set i o).take (st.length+0));rw[fJ];exact q
theorem zdC {α:Type}{f:α->PV}{n:Nat}(h: ∀x,zH (f x)<=n): ∀(l:List α),dpts (l.map f)<=n
 | []=>by rw[List.map_nil];unfold dpts;exact Nat.zero_le _
 | x::l=>by
  rw[List.map_cons];unfold dpts;exact Nat.max_le.mpr ⟨h x,zdC h l⟩
theorem zd9 (l:List (Str×Int)):zH (xK l)<=2:=by
 unfold xK zH;exact Nat.succ_le_succ (zdC (λq=>by simp[zH,dpts]) l)
end L3
namespace L3
open PySem PySem.Spec PyProof.Rows L2
theorem zlK {m:List (Str×Int)}(hn:(m.map (·.1)).Nodup):(m.map (·.1)).map (λw=>(w,y9 m w))=m:=by
 rw[List.map_map]
 conv=>rhs;rw[<- List.map_id m]
 refine List.map_congr_left λq hq=> ?_;show(q.1,y9 m q.1)=q;rw[fO hn hq]
def oR (m:List (Str×Int))(ss:List Str):List (Str×Int):=(ss.map λw=>(w,y9 m w)).filter λq=>decide (q.2≠0)
theorem zp_ {m:List (Str×Int)}{ss:List Str}(hn:(m.map (·.1)).Nodup)(hp:ss.Perm (m.map (·.1)))(hs:sortedS ss=true):vT (oR m ss)/\(∀x,y9 (oR m ss) x=y9 m x)/\(oR m ss).length<=m.length:=by
 have hp2:(ss.map λw=>(w,y9 m w)).Perm m:=by
  have:=hp.map λw=>(w,y9 m w);rw[zlK hn]at this;exact this
 have hr:lR (ss.map λw=>(w,y9 m w)):=List.pairwise_map.mpr (zpy hs (hp.nodup_iff.mpr hn));obtain⟨h1,h2⟩:=zdc hp2 hr;refine⟨h1,h2,?_⟩;unfold oR;exact Nat.le_trans (List.length_filter_le _ _) (by rw[hp2.length_eq];exact Nat.le_refl _)
def kB (m:List (Str×Int)):PV->Option PV:=λx=>match x with | .str w=>(if y9 m w=0 then none else some (.tup [.str w,.int (y9 m w)])) | _=>none
theorem zfq {m:List (Str×Int)}{w:Str}(h:y9 m w=0):kB m (.str w)=none:=by unfold kB;simp[h]
theorem zfr {m:List (Str×Int)}{w:Str}(h: ¬ y9 m w=0):kB m (.str w)=some (.tup [.str w,.int (y9 m w)]):=by unfold kB;simp[h]
theorem zl8 (m:List (Str×Int))(ss:List Str):(ss.map PV.str).filterMap (kB m)=(oR m ss).map λq=>PV.tup [.str q.1,.int q.2]:=by
 unfold oR
 induction ss with
 | nil=>rfl
 | cons w l ih=>
  rw[List.map_cons,List.filterMap_cons,List.map_cons,List.filter_cons];by_cases h:y9 m w=0
  ·rw[zfq h,ih];simp[h]
  ·rw[zfr h,ih];simp[h]
theorem zik: ∀{m:List (Str×Int)} {w:Str},w∈m.map (·.1)->yY (xE m) (Sum.inr w)=some (.int (y9 m w))
 | q::m,w,h=>by
  rw[mD];unfold y9;by_cases e:q.1=w
  ·rw[zcz (by rw[e]),if_pos e]
  ·rw[fP (λz=>e (by cases z;rfl)),if_neg e]
   exact zik ((List.mem_cons.mp h).resolve_left λz=>e z.symm)
theorem fA {α:Type}{st:List α}{i:Nat}{x o:α}(h:i < st.length):(st++ [o]).set i x=st.set i x++ [o]:=by rw[List.set_append_left _ _ h]
theorem iZ {α:Type}{st:List α}{i:Nat}{x o:α}(h:st[i]?=some x):(st++ [o])[i]?=some x:=by rw[List.getElem?_append_left (List.getElem?_eq_some_iff.mp h).1];exact h
end L3
namespace L3
open PySem PySem.Spec PyProof.Rows L2
theorem oX {t u:xF}{D:xV}{env:zO}{st:z8}(P:zO->z8->Prop)(h1: ∀N:zO->z8->Prop,(∀e s,P e s->N e s)->t {D with nx:=N} env st)(h2: ∀e s,P e s->u D e s):p7 t u D env st:=h1 (u D) h2
theorem iT:(∀{i j:Int},yD (.int i) (.int j)=(i==j))/\(∀{a b:Str},yD (.str a) (.str b)=(a==b))/\(∀{a b:Bool},yD (.bl a) (.bl b)=(a==b))/\(yD .non .non=true)/\(∀{a b:List PV},yD (.tup a) (.tup b)=eqPs a b)/\(∀{a b:List PV},yD (.lst a) (.lst b)=eqPs a b)/\(∀{i:Int},yD (.int i) .non=false)/\(∀{i:Str},yD (.str i) .non=false)/\(∀{i:List PV},yD (.tup i) .non=false)/\(∀{i:Int},yD .non (.int i)=false)/\(∀{i:Str},yD .non (.str i)=false)/\(∀{i:List PV},yD .non (.tup i)=false)/\(∀{a:List PV} {b:Str},yD (.tup a) (.str b)=false)/\(∀{a:List PV} {b:Str},yD (.str b) (.tup a)=false)/\(eqPs [] []=true)/\(∀{x xs},eqPs (x::xs) []=false)/\(∀{x xs},eqPs [] (x::xs)=false)/\(∀{x xs y ys},eqPs (x::xs) (y::ys)=(yD x y&&eqPs xs ys)):=by
 refine⟨?_,?_,?_,?_,?_,?_,?_,?_,?_,?_,?_,?_,?_,?_,?_,?_,?_,?_⟩ <;> intros <;> first | rfl | (unfold yD;rfl) | (unfold eqPs;rfl)
theorem zd_:(zH .non=0)/\(∀{i},zH (.int i)=0)/\(∀{i},zH (.str i)=0)/\(∀{i},zH (.bl i)=0)/\(∀{i},zH (.tup i)=dpts i+1)/\(∀{i},zH (.lst i)=dpts i+1)/\(dpts []=0)/\(∀{x xs},dpts (x::xs)=max (zH x) (dpts xs)):=by
 refine⟨?_,?_,?_,?_,?_,?_,?_,?_⟩ <;> intros <;> first | rfl | (unfold zH;rfl) | (unfold dpts;rfl)
theorem zdA (l:List (Str×Int)):zH (xK l)<=50:=Nat.le_trans (zd9 l) (by decide)
theorem zdB (l:List (Str×Int)):zH (xK l) < 1000:=Nat.lt_of_le_of_lt (zd9 l) (by decide)
end L3
namespace L3
open PySem PySem.Spec PyProof.Rows L2
def zqU:xF:=λ_ _ _=>False
section
variable {X:Cx}
def zqY (T:zG)(Tl:sG):zG:=λenv st Q=>T env st λx st1=>Tl env st1 λl st2=>l=some (-1)/\(match x with | .lst xs=>Q (.lst xs.reverse) st2 | _=>False)
end
end L3
namespace L3
open PySem PySem.Spec PyProof.Rows L2
theorem dE (xs:List PV)(a:Nat):vY xs (some (a:Int)) none=xs.drop a:=by
 unfold vY;rw[HT.sIx_nat,HT.sIx_none];rcases Nat.le_total a xs.length with h | h
 ·rw[Nat.min_eq_left h,List.take_of_length_le (by rw[List.length_drop];exact Nat.le_refl _)]
 ·rw[Nat.min_eq_right h,List.drop_of_length_le (Nat.le_refl _),List.drop_of_length_le h];simp
theorem iM (xs:List PV)(b:Nat):vY xs none (some (b:Int))=xs.take b:=by
 unfold vY;rw[HT.sIx_nat,HT.sIx_none,List.drop_zero,Nat.sub_zero];rcases Nat.le_total b xs.length with h | h
 ·rw[Nat.min_eq_left h]
 ·rw[Nat.min_eq_right h,List.take_of_length_le (Nat.le_refl _),List.take_of_length_le h]
end L3
namespace L3
open PySem PySem.Spec PyProof.Rows L2
section
variable {α:Type} [DecidableEq α]
end
section
variable {α:Type} [DecidableEq α]
def both (w:List α)(a b:Nat)(u:List α)(c d:Nat)(v:List α):List α:=w.take a++u++(w.take c).drop b++v++w.drop d
end
section
variable {X:Cx}
def zqZ (T:zG):zG:=λenv st Q=>T env st λx st1=>match x with | .tup xs=>Q (.tup xs.reverse) st1 | _=>False
end
end L3
namespace L3
open PySem PySem.Spec PyProof.Rows L2
section
variable {X:Cx} {a b c:Expr} {pos:Pos} {Tx:yS}
def zqV (i j l:Nat)(T:yS):xF:=λD env st=>T env st λxs st1=>match xs with | [x,y,z]=>D.nx (((env.set l (some z)).set j (some y)).set i (some x)) st1 | _=>False
end
end L3
namespace L3
open PySem PySem.Spec PyProof.Rows L2
section
variable {X:Cx}
def oA:PV->y4:=λx xs st Q=>match xs with
 | [y]=> ∃(ys:List PV) (j:Nat),uX x st=some ys/\ys.all u5=true/\u5 y=true/\ys.findIdx? (λz=>yD z y)=some j/\Q (.int j) st
 | _=>False
theorem zgQ {K:Frag}{A:List Addr}{H:Hp} : ∀{xs:List PV} {vs:List V} {m:Nat} {v:V},RVs K A H xs vs->vs[m]?=some v->∃x,xs[m]?=some x/\RV K A H x v
 | _,_,0,_,.cons r t,h=>by cases h;exact⟨_,rfl,r⟩
 | _,_,m+1,v,.cons (xs:=xs) (vs:=vs) r t,h=>by
  obtain⟨x,e,r'⟩:=zgQ (xs:=xs) (vs:=vs) (m:=m) t (by rw[List.getElem?_cons_succ]at h;exact h);exact⟨x,by rw[List.getElem?_cons_succ];exact e,r'⟩
 | _,_,_,_,.nil,h=>by cases h
theorem zbn:tI X "list.index" (pI X.K oA):=by
 intro pins s σ H v vs vv us Q I rv rvs ⟨A,st,x,xs,Q3,rs,ex,exs,h,k⟩;unfold oA at h
 split at h
 ·rename_i y
  obtain⟨ys,j,el,hfl,hy,hj,q⟩:=h;obtain⟨w,rfl,ey⟩:=yU.one exs;obtain⟨l,ws,rfl,hs,r,z⟩:=hU rs ex el;have ew:RV X.K A H y w:=by cases ey with | val e=>exact e | obj e=>exact absurd hy Bool.false_ne_true
  cases rv;obtain⟨u,rfl,ru⟩:=zR.one rvs;have fw:uT w=true:=(zaS ew).trans hy;have fl:ws.all uT=true:=(zaT r).trans hfl;obtain⟨its,n,rr,e,hzl⟩:=I.listX hs;have hlen:=rr.length;have hl2:=r.len;rw[List.findIdx?_eq_some_iff_getElem]at hj;obtain⟨hjl,hje,hjn⟩:=hj;have hjj:j < its.toArray.size:=by rw[List.size_toArray];omega
  have at_: ∀m (hm:m < its.toArray.size) (hm2:m < ys.length),tK w its.toArray[m]=yD ys[m] y:=λm hm hm2=>by
   obtain⟨w',ew',rw'⟩:=fS rr hm;obtain⟨x',ex',rx'⟩:=zgQ r ew';have:=List.getElem?_eq_getElem hm2;rw[ex']at this;cases this;have f1:=List.all_eq_true.mp fl w' (List.mem_of_getElem? ew');have f2:=List.all_eq_true.mp hfl ys[m] (List.mem_of_getElem? ex');rw[dN rw' f1];exact zdN rx' ew f2 hy
  refine call_meets PySem.F.slot_list_index ⟨_,e,rfl⟩ PySem.F.entry_list_index (PySem.F.args_list_index_2 _ _) (SeqAt.list_indexAt l its.toArray n none #[] u (tK w) j hjj ?_ ?_ ?_) ⟨e,λw' hw=>g7 ru fw rr fl w' (by simpa using hw),?_⟩
  ·have:=pX
   have:j < sizeLine:=by rw[List.size_toArray]at hjj;omega
   have hs:sizeLine < 2 ^ 62:=by decide
   omega
  ·rw[at_ j hjj hjl];exact hje
  ·intro m hm hlt
   have hm2:m < ys.length:=by omega
   rw[at_ m (by omega) hm2];exact Bool.eq_false_iff.mpr (hjn m hlt)
  ·exact⟨.int j,H,I.tok _,⟨_,rfl⟩,k.now rs (.val (.int _)) q⟩
 ·exact h.elim
end
end L3
namespace L3
set_option smartUnfolding false
open PySem PySem.Spec PyProof.Rows L2
def xS {α:Type}(o:Option α)(F:α->Prop):Prop:=match o with | some x=>F x | none=>False
section
variable {i j:Int} {a b:Str} {xs ys zs:List PV} {x y z:PV} {n m:Nat} {st:z8} {Q:K3} {p q:Bool} {kvs:List (zA×PV)} {env:zO}
@[simp] theorem zr6:mP (.int i) (.int j) st Q=Q (.int (i+j)) st:=rfl
@[simp] theorem zr8:mP (.str a) (.str b) st Q=(a.length+b.length<=sizeLine/\Q (.str (a++b)) st):=rfl
@[simp] theorem zr9:mP (.tup xs) (.tup ys) st Q=(xs.length+ys.length<=sizeLine/\Q (.tup (xs++ys)) st):=rfl
@[simp] theorem zr7:mP (.lst xs) (.lst ys) st Q=(xs.length+ys.length<=sizeLine/\Q (.lst (xs++ys)) st):=rfl
@[simp] theorem zt8:zbP (.int i) (.int j) st Q=Q (.int (i - j)) st:=rfl
@[simp] theorem zsP:gP (.int i) (.int j) st Q=(((-(2 ^ 64) < i/\i < 2 ^ 64)∨(-(2 ^ 64) < j/\j < 2 ^ 64))/\Q (.int (i * j)) st):=rfl
@[simp] theorem zsQ:gP (.str a) (.int i) st Q=(if i=0 then Q (.str Str.empty) st else i=1/\Q (.str a) st):=rfl
@[simp] theorem zsO:zbJ (.int i) (.int j) st Q=(0 < j/\Q (.int (i % j)) st):=rfl
@[simp] theorem zrN:zbC (.int i) (.int j) st Q=((0 < j/\j < 1099511627776)/\Q (.int (i / j)) st):=rfl
@[simp] theorem ztt:zbM (.int i) (.int j) st Q=(jO i j/\Q (.int (i ^ j.toNat)) st):=rfl
@[simp] theorem zsR:zbK (.int i) st Q=Q (.int (-i)) st:=rfl
@[simp] theorem zrJ {f:Int->Int->Bool} :mQ f (.int i) (.int j) st Q=Q (.bl (f i j)) st:=rfl
@[simp] theorem zsp:zbD x .non st Q=Q (.bl (u7 x)) st:=rfl
@[simp] theorem ztc:zbL x .non st Q=Q (.bl (!u7 x)) st:=rfl
@[simp] theorem zsS:u7 .non=true:=rfl
@[simp] theorem zsV:u7 (.int i)=false:=rfl
@[simp] theorem zsY:u7 (.str a)=false:=rfl
@[simp] theorem zsT:u7 (.bl p)=false:=rfl
@[simp] theorem zsZ:u7 (.tup xs)=false:=rfl
@[simp] theorem zsW:u7 (.lst xs)=false:=rfl
@[simp] theorem zsU:u7 (.dct kvs)=false:=rfl
@[simp] theorem zsX:u7 (.obj n)=false:=rfl
@[simp] theorem zsB:wP (.int i)=some (.inl i):=rfl
@[simp] theorem zsC:wP (.str a)=some (.inr a):=rfl
def ixO (o:Option PO)(y:PV)(st:z8)(Q:K3):Prop:=match o with
 | some (.lst xs)=>(match y with | .int i=>xS (atI xs i) λz=>Q z st | _=>False)
 | some (.dct kvs)=>xS (wP y) λk=>xS (yY kvs k) λz=>Q z st
 | _=>False
@[simp] theorem zsA:o9 (.tup xs) (.int i) st Q=xS (atI xs i) λz=>Q z st:=rfl
@[simp] theorem zs6:o9 (.lst xs) (.int i) st Q=xS (atI xs i) λz=>Q z st:=rfl
@[simp] theorem zs_:o9 (.str a) (.int i) st Q=(a.length<=sizeLine/\xS (atI a.cps.toList i) λc=>Q (.str ⟨#[c]⟩) st):=rfl
@[simp] theorem zs5:o9 (.dct kvs) y st Q=xS (wP y) λk=>xS (yY kvs k) λz=>Q z st:=rfl
@[simp] theorem zs7:o9 (.obj n) y st Q=ixO st[n]? y st Q:=rfl
@[simp] theorem zs9:ixO (some (.lst xs)) (.int i) st Q=xS (atI xs i) λz=>Q z st:=rfl
@[simp] theorem zs8:ixO (some (.dct kvs)) y st Q=xS (wP y) λk=>xS (yY kvs k) λz=>Q z st:=rfl
def zcc (o:Option PO)(n:Nat)(i v:PV)(st:z8)(Q:z8->Prop):Prop:=match o with
 | some (.lst xs)=>(match i with | .int k=>yQ v=true/\xS (wD xs.length k) λj=>Q (st.set n (.lst (xs.set j v))) | _=>False)
 | some (.dct kvs)=>xS (wP i) λk=>yQ v=true/\kvs.length < sizeLine/\Q (st.set n (.dct (wS kvs k v)))
 | _=>False
@[simp] theorem zt0 {Q:z8->Prop} :j5 (.obj n) x y st Q=zcc st[n]? n x y st Q:=rfl
@[simp] theorem zt2 {Q:z8->Prop} :zcc (some (.lst xs)) n (.int i) y st Q=(yQ y=true/\xS (wD xs.length i) λj=>Q (st.set n (.lst (xs.set j y)))):=rfl
@[simp] theorem zt1 {Q:z8->Prop} :zcc (some (.dct kvs)) n x y st Q=xS (wP x) λk=>yQ y=true/\kvs.length < sizeLine/\Q (st.set n (.dct (wS kvs k y))):=rfl
@[simp] theorem zt5 {l h:Option Int} :oB (.tup xs) l h st Q=Q (.tup (vY xs l h)) st:=rfl
@[simp] theorem zt3 {l h:Option Int} :oB (.lst xs) l h st Q=Q (.lst (vY xs l h)) st:=rfl
@[simp] theorem zt4 {l h:Option Int} :oB (.str a) l h st Q=(a.length<=sizeLine/\((Txt.slice a l h).length<=a.length->Q (.str (Txt.slice a l h)) st)):=rfl
def zbe (o:Option PO)(k:Nat->Prop):Prop:=match o with | some (.lst xs)=>k xs.length | some (.dct kvs)=>k kvs.length | _=>False
@[simp] theorem zsD:zbF [x] st Q=pV x st λn=>Q (.int n) st:=rfl
@[simp] theorem zsJ {k:Nat->Prop} :pV (.tup xs) st k=k xs.length:=rfl
@[simp] theorem zsE {k:Nat->Prop} :pV (.lst xs) st k=k xs.length:=rfl
@[simp] theorem zsI {k:Nat->Prop} :pV (.str a) st k=(a.length<=sizeLine/\k a.length):=rfl
@[simp] theorem zsF {k:Nat->Prop} :pV (.obj n) st k=zbe st[n]? k:=rfl
@[simp] theorem zsH {k:Nat->Prop} :zbe (some (.lst xs)) k=k xs.length:=rfl
@[simp] theorem zsG {k:Nat->Prop} :zbe (some (.dct kvs)) k=k kvs.length:=rfl
def zcp (o:Option PO)(st:z8)(Q:K3):Prop:=match o with | some (.lst ys)=>Q (.tup ys) st | some (.dct kvs)=>Q (.tup (kvs.map λq=>match q.1 with | .inl i=> .int i | .inr z=> .str z)) st | _=>False
@[simp] theorem ztM:j6 [.lst ys] st Q=Q (.tup ys) st:=rfl
@[simp] theorem ztQ:j6 [.tup ys] st Q=Q (.tup ys) st:=rfl
@[simp] theorem ztN:j6 [.obj n] st Q=zcp st[n]? st Q:=rfl
@[simp] theorem ztP:zcp (some (.lst ys)) st Q=Q (.tup ys) st:=rfl
@[simp] theorem ztO:zcp (some (.dct kvs)) st Q=Q (.tup (kvs.map λq=>match q.1 with | .inl i=> .int i | .inr z=> .str z)) st:=rfl
@[simp] theorem zsy {t:String} :gO [x,.ty t] st Q=xS (wC x t) λb=>Q (.bl b) st:=rfl
@[simp] theorem zsd:wC (.bl p) "int" =some true:=rfl
@[simp] theorem zse:wC (.bl p) "bool" =some true:=rfl
@[simp] theorem zsf:wC (.bl p) "str" =some false:=rfl
@[simp] theorem zsg:wC (.bl p) "tuple" =some false:=rfl
@[simp] theorem zsh:wC (.bl p) "list" =some false:=rfl
@[simp] theorem zsi:wC (.int i) "int" =some true:=rfl
@[simp] theorem zsj:wC (.int i) "bool" =some false:=rfl
@[simp] theorem zsk:wC (.int i) "str" =some false:=rfl
@[simp] theorem zsl:wC (.int i) "tuple" =some false:=rfl
@[simp] theorem zsm:wC (.int i) "list" =some false:=rfl
@[simp] theorem zsq:wC (.str a) "int" =some false:=rfl
@[simp] theorem zsr:wC (.str a) "str" =some true:=rfl
@[simp] theorem zss:wC (.str a) "tuple" =some false:=rfl
@[simp] theorem zst:wC (.tup xs) "int" =some false:=rfl
@[simp] theorem zsu:wC (.tup xs) "str" =some false:=rfl
@[simp] theorem zsv:wC (.tup xs) "tuple" =some true:=rfl
@[simp] theorem zsw:wC (.tup xs) "list" =some false:=rfl
@[simp] theorem zsn:wC (.lst xs) "tuple" =some false:=rfl
@[simp] theorem zso:wC (.lst xs) "list" =some true:=rfl
@[simp] theorem zsc:gM [.int i] st Q=Q (.int i) st:=rfl
@[simp] theorem zsb:gM [.bl p] st Q=Q (.int (if p then 1 else 0)) st:=rfl
@[simp] theorem zsN:zbI [.int i,.int j] st Q=Q (.int (if j < i then j else i)) st:=rfl
@[simp] theorem zsM:zbH [.int i,.int j] st Q=Q (.int (if j > i then j else i)) st:=rfl
def zco (o:Option PO)(k:Bool->Prop):Prop:=match o with | some (.lst xs)=>k (!xs.isEmpty) | some (.dct xs)=>k (!xs.isEmpty) | _=>False
@[simp] theorem ztG {k:Bool->Prop} :t8 .non st k=k false:=rfl
@[simp] theorem ztC {k:Bool->Prop} :t8 (.bl p) st k=k p:=rfl
@[simp] theorem ztE {k:Bool->Prop} :t8 (.int i) st k=k (i !=0):=rfl
@[simp] theorem ztK {k:Bool->Prop} :t8 (.str a) st k=(a.length<=sizeLine/\k ((a.length:Int) !=0)):=rfl
@[simp] theorem ztL {k:Bool->Prop} :t8 (.tup xs) st k=k (!xs.isEmpty):=rfl
@[simp] theorem ztF {k:Bool->Prop} :t8 (.lst xs) st k=k (!xs.isEmpty):=rfl
@[simp] theorem ztD {k:Bool->Prop} :t8 (.dct kvs) st k=k (!kvs.isEmpty):=rfl
@[simp] theorem ztH {k:Bool->Prop} :t8 (.obj n) st k=zco st[n]? k:=rfl
@[simp] theorem ztJ {k:Bool->Prop} :zco (some (.lst xs)) k=k (!xs.isEmpty):=rfl
@[simp] theorem ztI {k:Bool->Prop} :zco (some (.dct kvs)) k=k (!kvs.isEmpty):=rfl
def zcW (o:Option PO)(n:Nat)(y:PV)(st:z8)(Q:K3):Prop:=match o with | some (.lst zs)=>yQ y=true/\zs.length < sizeLine/\Q .non (st.set n (.lst (zs++ [y]))) | _=>False
@[simp] theorem zrH:zbB (.obj n) [y] st Q=zcW st[n]? n y st Q:=rfl
@[simp] theorem zrI:zcW (some (.lst zs)) n y st Q=(yQ y=true/\zs.length < sizeLine/\Q .non (st.set n (.lst (zs++ [y])))):=rfl
def zdQ (o:Option PO)(n:Nat)(ys:List PV)(st:z8)(Q:K3):Prop:=match o with | some (.lst zs)=>zs.length+ys.length<=sizeLine/\Q .non (st.set n (.lst (zs++ys))) | _=>False
@[simp] theorem zrV:zpa (.obj n) [.lst ys] st Q=zdQ st[n]? n ys st Q:=rfl
@[simp] theorem zrW:zdQ (some (.lst zs)) n ys st Q=(zs.length+ys.length<=sizeLine/\Q .non (st.set n (.lst (zs++ys)))):=rfl
def zgw (o:Option PO)(n:Nat)(st:z8)(Q:K3):Prop:=match o with | some (.lst zs)=>xS zs.getLast? λy=>Q y (st.set n (.lst zs.dropLast)) | _=>False
@[simp] theorem ztr:zpl (.obj n) [] st Q=zgw st[n]? n st Q:=rfl
@[simp] theorem zts:zgw (some (.lst zs)) n st Q=xS zs.getLast? λy=>Q y (st.set n (.lst zs.dropLast)):=rfl
def dctO (o:Option PO):Option (List (zA×PV)):=match o with | some (.dct kvs)=>some kvs | _=>none
@[simp] theorem zrK:vN (.dct kvs) st=some kvs:=rfl
@[simp] theorem zrL:vN (.obj n) st=dctO st[n]?:=rfl
@[simp] theorem zrM:dctO (some (.dct kvs))=some kvs:=rfl
theorem zdG:mR x [y] st Q=xS (vN x st) λkvs=>xS (wP y) λk=>Q ((yY kvs k).getD .non) st:=by
 unfold mR xS;cases vN x st <;> rfl
theorem zdH:mR x [y,z] st Q=xS (vN x st) λkvs=>xS (wP y) λk=>yQ z=true/\Q ((yY kvs k).getD z) st:=by
 unfold mR xS;cases vN x st <;> rfl
def tyO (o:Option PO):String:=match o with | some (.lst _)=> "list" | some (.dct _)=> "dict" | _=> ""
@[simp] theorem ztS:uW (.lst xs) st= "list" :=rfl
@[simp] theorem ztR:uW (.dct kvs) st= "dict" :=rfl
@[simp] theorem ztW:uW (.str a) st= "str" :=rfl
@[simp] theorem ztT:uW (.obj n) st=tyO st[n]?:=rfl
@[simp] theorem ztV:tyO (some (.lst xs))= "list" :=rfl
@[simp] theorem ztU:tyO (some (.dct kvs))= "dict" :=rfl
def zaY (o:Option PO):Option (List PV):=match o with | some (.lst xs)=>some xs | some (.dct kvs)=>some (kvs.map λq=>rE q.1) | _=>none
@[simp] theorem zs0:sO (.lst xs) st=some xs:=rfl
@[simp] theorem zs4:sO (.tup xs) st=some xs:=rfl
@[simp] theorem zsz:sO (.dct kvs) st=some (kvs.map λq=>rE q.1):=rfl
@[simp] theorem zs1:sO (.obj n) st=zaY st[n]?:=rfl
@[simp] theorem zs3:zaY (some (.lst xs))=some xs:=rfl
@[simp] theorem zs2:zaY (some (.dct kvs))=some (kvs.map λq=>rE q.1):=rfl
@[simp] theorem zsK:zpj [x] st Q=xS (sO x st) λys=>Q (.lst ys) st:=rfl
@[simp] theorem zsL:zbG [x] st Q=xS (sO x st) λys=>Q (.obj st.length) (st++ [.lst ys]):=rfl
def zhC (Q:Bool->z8->Prop)(x:PV)(st:z8):Prop:=match x with | .bl k=>Q k st | _=>False
@[simp] theorem zt9 {T:zG}{Q:Bool->z8->Prop} :zcx T env st Q=T env st (zhC Q):=rfl
@[simp] theorem zt_ {Q:Bool->z8->Prop} :zhC Q (.bl p) st=Q p st:=rfl
def zcU (T:zG)(env:zO)(Q:K3)(x:PV)(st:z8):Prop:=match x with | .bl c=>if c=true then T env st Q else Q (.bl false) st | _=>False
@[simp] theorem zr_ {T U:zG} :zhK T U env st Q=T env st (zcU U env Q):=rfl
@[simp] theorem zrA {T:zG} :zcU T env Q (.bl p) st=if p=true then T env st Q else Q (.bl false) st:=rfl
def orK (T:zG)(env:zO)(Q:K3)(x:PV)(st:z8):Prop:=match x with | .bl c=>if c=true then Q (.bl true) st else T env st Q | _=>False
@[simp] theorem ztl {T U:zG} :zhX T U env st Q=T env st (orK U env Q):=rfl
@[simp] theorem ztm {T:zG} :orK T env Q (.bl p) st=if p=true then Q (.bl true) st else T env st Q:=rfl
def zfE (Q:K3)(x:PV)(st:z8):Prop:=match x with | .bl c=>Q (.bl (!c)) st | _=>False
@[simp] theorem zta {T:zG} :zhW T env st Q=T env st (zfE Q):=rfl
@[simp] theorem ztb:zfE Q (.bl p) st=Q (.bl (!p)) st:=rfl
@[simp] theorem zrY {gs:r9}{Q:zO->z8->Prop} :gT n gs (.tup xs) env st Q=(xs.length=n/\gs xs env st Q):=rfl
@[simp] theorem zrX {gs:r9}{Q:zO->z8->Prop} :gT n gs (.lst xs) env st Q=(xs.length=n/\gs xs env st Q):=rfl
@[simp] theorem zsa {Q:zO->z8->Prop} :gsN [] env st Q=Q env st:=rfl
@[simp] theorem zrZ {g:wA}{gs:r9}{Q:zO->z8->Prop} :gsC g gs (x::xs) env st Q=g x env st λenv1 st1=>gs xs env1 st1 Q:=rfl
def zgm (n m:Nat)(D:xV)(env:zO)(xs:List PV)(st:z8):Prop:=match xs with | [x,y]=>D.nx ((env.set n (some x)).set m (some y)) st | _=>False
@[simp] theorem ztn {T:yS}{D:xV} :zhY n m T D env st=T env st (zgm n m D env):=rfl
@[simp] theorem zto {D:xV} :zgm n m D env [x,y] st=D.nx ((env.set n (some x)).set m (some y)) st:=rfl
def zgl (n m l:Nat)(D:xV)(env:zO)(xs:List PV)(st:z8):Prop:=match xs with | [x,y,z]=>D.nx (((env.set l (some z)).set m (some y)).set n (some x)) st | _=>False
@[simp] theorem ztp {l:Nat}{T:yS}{D:xV} :zqV n m l T D env st=T env st (zgl n m l D env):=rfl
@[simp] theorem ztq {l:Nat}{D:xV} :zgl n m l D env [x,y,z] st=D.nx (((env.set l (some z)).set m (some y)).set n (some x)) st:=rfl
def eO (o:Option PO)(n:Nat)(st:z8)(Q:xY->List PV->z8->Prop):Prop:=match o with | some (.lst xs)=>Q (some (n,.lst xs)) xs st | _=>False
def lY (Q:xY->List PV->z8->Prop)(x:PV)(st:z8):Prop:=match x with
 | .lst xs=>Q none xs st
 | .tup xs=>Q none xs st
 | .str z=>z.length<=sizeLine/\Q none (qY z) st
 | .obj n=>eO st[n]? n st Q
 | _=>False
@[simp] theorem zrB {T:zG}{Q:xY->List PV->z8->Prop} :zeZ T env st Q=T env st (lY Q):=rfl
@[simp] theorem zrC {Q:xY->List PV->z8->Prop} :lY Q (.lst xs) st=Q none xs st:=rfl
@[simp] theorem zrG {Q:xY->List PV->z8->Prop} :lY Q (.tup xs) st=Q none xs st:=rfl
@[simp] theorem zrF {Q:xY->List PV->z8->Prop} :lY Q (.str a) st=(a.length<=sizeLine/\Q none (qY a) st):=rfl
@[simp] theorem zrD {Q:xY->List PV->z8->Prop} :lY Q (.obj n) st=eO st[n]? n st Q:=rfl
@[simp] theorem zrE {Q:xY->List PV->z8->Prop} :eO (some (.lst xs)) n st Q=Q (some (n,.lst xs)) xs st:=rfl
def zgN (Q:xY->List PV->z8->Prop)(xs:List PV)(st:z8):Prop:=match xs with | [.int j]=>(-1000000<=j/\j<=1000000)/\Q none (tY 0 j.toNat) st | _=>False
@[simp] theorem ztw {T:yS}{Q:xY->List PV->z8->Prop} :zfb T env st Q=T env st (zgN Q):=rfl
@[simp] theorem ztx {Q:xY->List PV->z8->Prop} :zgN Q [.int j] st=((-1000000<=j/\j<=1000000)/\Q none (tY 0 j.toNat) st):=rfl
def zgM (Q:xY->List PV->z8->Prop)(xs:List PV)(st:z8):Prop:=match xs with | [.int i,.int j]=>(-1000000<=i/\i<=1000000/\ -1000000<=j/\j<=1000000)/\Q none (tY i (j - i).toNat) st | _=>False
@[simp] theorem zty {T:yS}{Q:xY->List PV->z8->Prop} :zfc T env st Q=T env st (zgM Q):=rfl
@[simp] theorem ztz {Q:xY->List PV->z8->Prop} :zgM Q [.int i,.int j] st=((-1000000<=i/\i<=1000000/\ -1000000<=j/\j<=1000000)/\Q none (tY i (j - i).toNat) st):=rfl
def zhc (Q:Option Int->z8->Prop)(x:PV)(st:z8):Prop:=match x with | .int i=>Q (some i) st | _=>False
@[simp] theorem zt6 {T:zG}{Q:Option Int->z8->Prop} :zfI T env st Q=T env st (zhc Q):=rfl
@[simp] theorem zt7 {Q:Option Int->z8->Prop} :zhc Q (.int i) st=Q (some i) st:=rfl
def zhD (Q:K3)(x:PV)(st:z8):Prop:=match x with | .tup xs=>Q (.tup xs.reverse) st | _=>False
@[simp] theorem ztA {T:zG} :zqZ T env st Q=T env st (zhD Q):=rfl
@[simp] theorem ztB:zhD Q (.tup xs) st=Q (.tup xs.reverse) st:=rfl
def zgH (Q:K3)(x:PV)(st:z8):Prop:=match x with | .lst xs=>Q (.lst xs.reverse) st | _=>False
@[simp] theorem ztu {T:zG}{U:sG} :zqY T U env st Q=T env st λx st1=>U env st1 λl st2=>l=some (-1)/\zgH Q x st2:=rfl
@[simp] theorem ztv:zgH Q (.lst xs) st=Q (.lst xs.reverse) st:=rfl
@[simp] theorem zrQ:xO m Q (.int i) st=Q (.int i) (st.take m):=rfl
@[simp] theorem zrT:xO m Q (.str a) st=Q (.str a) (st.take m):=rfl
@[simp] theorem zrO:xO m Q (.bl p) st=Q (.bl p) (st.take m):=rfl
@[simp] theorem zrS:xO m Q .non st=Q .non (st.take m):=rfl
@[simp] theorem zrU:xO m Q (.tup xs) st=Q (.tup xs) (st.take m):=rfl
@[simp] theorem zrR:xO m Q (.lst xs) st=Q (.lst xs) (st.take m):=rfl
@[simp] theorem zrP:xO m Q (.dct kvs) st=Q (.dct kvs) (st.take m):=rfl
@[simp] theorem ztX {P:Prop} :tE none st P=P:=rfl
@[simp] theorem ztY {P:Prop}{o:PO} :tE (some (n,o)) st P=(st[n]?=some o/\P):=rfl
@[simp] theorem zth:yQ .non=true:=rfl
@[simp] theorem ztf:yQ (.int i)=true:=rfl
@[simp] theorem ztj:yQ (.str a)=true:=rfl
@[simp] theorem ztd:yQ (.bl p)=true:=rfl
@[simp] theorem ztk:yQ (.tup xs)=true:=rfl
@[simp] theorem ztg:yQ (.lst xs)=true:=rfl
@[simp] theorem zte:yQ (.dct kvs)=true:=rfl
@[simp] theorem zti:yQ (.obj n)=false:=rfl
end
@[simp] theorem zu4 {D:xV}{env:zO}{st:z8} :zhT D env st=(D.nx env st):=rfl
@[simp] theorem zui {T:zG}{g:wA}{D:xV}{env:zO}{st:z8} :jL T g D env st=(T env st λx st1=>g x env st1 D.nx):=rfl
@[simp] theorem zuz {c:xG}{t u:xF}{D:xV}{env:zO}{st:z8} :zcv c t u D env st=(c env st λb st1=>if b=true then t D env st1 else u D env st1):=rfl
@[simp] theorem zu_ {T:zG}{D:xV}{env:zO}{st:z8} :zhZ T D env st=(T env st D.rt):=rfl
@[simp] theorem zuA {D:xV}{w1:zO}{st:z8} :zqX D w1 st=(D.rt .non st):=rfl
@[simp] theorem zuw {T:zG}{D:xV}{env:zO}{st:z8} :zhO T D env st=(T env st λ_ st1=>D.nx env st1):=rfl
@[simp] theorem zuC {T:zG}{env:zO}{st:z8}{Q:Bool->z8->Prop} :zie T env st Q=(T env st λx st1=>t8 x st1 λk=>Q k st1):=rfl
@[simp] theorem zuh {t u:xG}{env:zO}{st:z8}{Q:Bool->z8->Prop} :zcu t u env st Q=(t env st λc st1=>if c=true then u env st1 Q else Q false st1):=rfl
@[simp] theorem zu8 {t u:xG}{env:zO}{st:z8}{Q:Bool->z8->Prop} :vOr t u env st Q=(t env st λc st1=>if c=true then Q true st1 else u env st1 Q):=rfl
@[simp] theorem zu6 {t:xG}{env:zO}{st:z8}{Q:Bool->z8->Prop} :zhV t env st Q=(t env st λc st1=>Q (!c) st1):=rfl
@[simp] theorem zuy {t:xG}{Ta Tb:zG}{env:zO}{st:z8}{Q:K3} :vIf t Ta Tb env st Q=(t env st λc st1=>if c=true then Ta env st1 Q else Tb env st1 Q):=rfl
@[simp] theorem zu7 {R:R3}{Ta Tb:zG}{env:zO}{st:z8}{Q:K3} :lB R Ta Tb env st Q=(Ta env st λx st1=>Tb env st1 λy st2=>R x y st2 Q):=rfl
@[simp] theorem zuE {R:PV->z8->K3->Prop}{Ta:zG}{env:zO}{st:z8}{Q:K3} :vUn R Ta env st Q=(Ta env st λx st1=>R x st1 Q):=rfl
@[simp] theorem zun {x:PV}{w0:zO}{st:z8}{Q:K3} :vC x w0 st Q=(Q x st):=rfl
@[simp] theorem zu5 {w0:zO}{st:z8}{Q:List PV->z8->Prop} :zhU w0 st Q=(Q [] st):=rfl
@[simp] theorem zus {Ta:zG}{Tr:yS}{env:zO}{st:z8}{Q:List PV->z8->Prop} :zhM Ta Tr env st Q=(Ta env st λx st1=>Tr env st1 λxs st2=>Q (x::xs) st2):=rfl
@[simp] theorem zuD {T:yS}{env:zO}{st:z8}{Q:K3} :zif T env st Q=(T env st λxs st1=>uB xs=true/\Q (.tup xs) st1):=rfl
@[simp] theorem zu1 {T:yS}{env:zO}{st:z8}{Q:K3} :zhR T env st Q=(T env st λxs st1=>uB xs=true/\Q (.lst xs) st1):=rfl
@[simp] theorem zu2 {T:yS}{env:zO}{st:z8}{Q:K3} :zhS T env st Q=(T env st λxs st1=>uB xs=true/\Q (.obj st1.length) (st1++ [.lst xs])):=rfl
@[simp] theorem zuo {R:y4}{T:yS}{env:zO}{st:z8}{Q:K3} :jM R T env st Q=(T env st λxs st1=>R xs st1 Q):=rfl
@[simp] theorem zuB {T:zG}{Tl Th:sG}{env:zO}{st:z8}{Q:K3} :vSl T Tl Th env st Q=(T env st λx st1=>Tl env st1 λl st2=>Th env st2 λu st3=>oB x l u st3 Q):=rfl
@[simp] theorem zuc {w0:zO}{st:z8}{Q:Option Int->z8->Prop} :zfH w0 st Q=(Q none st):=rfl
@[simp] theorem zub {To Ti:zG}{v:PV}{env:zO}{st:z8}{Q:zO->z8->Prop} :gS To Ti v env st Q=(To env st λo st1=>Ti env st1 λi st2=>j5 o i v st2 λst3=>Q env st3):=rfl
@[simp] theorem zuj {T:String}{R:PV->y4}{To:zG}{TA:yS}{env:zO}{st:z8}{Q:K3} :vBM T R To TA env st Q=(To env st λx st1=>uW x st1=T/\TA env st1 λxs st2=>R x xs st2 Q):=rfl
@[simp] theorem zuk {T:String}{R:PV->y4}{To:zG}{env:zO}{st:z8}{Q:K3} :zqJ T R To env st Q=(To env st λx st1=>uW x st1=T/\R x [] st1 Q):=rfl
@[simp] theorem zuu {w0:zO}{st:z8}{Q:K3} :zqP w0 st Q=(Q (.obj st.length) (st++ [.dct []])):=rfl
@[simp] theorem zum {D:xV}{env:zO}{st:z8} :zqL D env st=(D.bk env st):=rfl
@[simp] theorem zut {D:xV}{env:zO}{st:z8} :zqO D env st=(D.ct env st):=rfl
@[simp] theorem zue {x:PV}{y:PV}{st:z8}{Q:K3} :zg9 x y st Q=((zH x<=50/\zH y < 1000)/\Q (.bl (yD x y)) st):=rfl
@[simp] theorem zuf {x:PV}{y:PV}{st:z8}{Q:K3} :zg_ x y st Q=((zH x<=50/\zH y < 1000)/\Q (.bl (!yD x y)) st):=rfl
@[simp] theorem zua {i:Nat}{x:PV}{env:zO}{st:z8}{Q:zO->z8->Prop} :gN i x env st Q=(Q (env.set i (some x)) st):=rfl
@[simp] theorem zu3 {w0:xV}{w1:zO}{w2:z8} :zqU w0 w1 w2=(False):=rfl
@[simp] theorem zux {I:vV}{g:wA}{b:xF}{D:xV}{env:zO}{st:z8} :zhP I g b D env st=(I env st λsrc xs st1=>fW g b src xs D env st1):=rfl
@[simp] theorem zuq {own:Nat}{I:vV}{g:wA}{tt:xG}{el:zG}{env:zO}{st:z8}{Q:K3} :fM own I g tt el env st Q=(I env st λsrc xs st1=>nG own g tt el src xs (λys st2=>Q (.lst ys) st2) env st1):=rfl
@[simp] theorem zur {own:Nat}{I:vV}{g:wA}{tt:xG}{el:zG}{env:zO}{st:z8}{Q:K3} :zqN own I g tt el env st Q=(I env st λsrc xs st1=>nG own g tt el src xs (λys st2=>Q (.obj st2.length) (st2++ [.lst ys])) env st1):=rfl
@[simp] theorem zuF {w0:zO}{st:z8}{Q:Bool->z8->Prop} :zig w0 st Q=(Q true st):=rfl
@[simp] theorem zug {N:List Str}{xs:List PV} :mY N xs=xs.map some++List.replicate (N.length - xs.length) none:=rfl
@[simp] theorem zud {xs:List PV} :uB xs=(xs.all yQ&&Nat.ble xs.length 1000):=rfl
@[simp] theorem zr4 {x:PV}{e:zO}{st:z8}{Q:K3} :lC 0 (some x::e) st Q=Q x st:=rfl
@[simp] theorem zr5 {i:Nat}{x:Option PV}{e:zO}{st:z8}{Q:K3} :lC (i+1) (x::e) st Q=lC i e st Q:=rfl
@[simp] theorem zrz {α:Type}{x:α}{F:α->Prop} :xS (some x) F=F x:=rfl
section
variable {α β:Type} {x y z u v:α} {xs ys:List α} {f:α->β} {n i:Nat} {p:Prop} {b:Bool} {st:List α}
@[simp] theorem zru:(x::xs).map f=f x::xs.map f:=rfl
@[simp] theorem zrv:([]:List α).map f= []:=rfl
@[simp] theorem zrs:(x::xs).length=xs.length+1:=rfl
@[simp] theorem zrt:([]:List α).length=0:=rfl
@[simp] theorem zrk:(x::xs)++ys=x::(xs++ys):=rfl
@[simp] theorem zrl: []++ys=ys:=rfl
@[simp] theorem zr0:List.replicate (n+1) x=x::List.replicate n x:=rfl
@[simp] theorem zr1:List.replicate 0 x= []:=rfl
@[simp] theorem zr2:(x::xs).set 0 y=y::xs:=rfl
@[simp] theorem zr3:(x::xs).set (n+1) y=x::xs.set n y:=rfl
@[simp] theorem zrq:(x::xs)[0]?=some x:=rfl
@[simp] theorem zrr:(x::xs)[n+1]?=xs[n]?:=rfl
@[simp] theorem zrx:(!true)=false:=rfl
@[simp] theorem zrw:(!false)=true:=rfl
@[simp] theorem zdo:(some x).isSome=true:=rfl
@[simp] theorem zrp:(some x).getD y=x:=rfl
@[simp] theorem zro:(none:Option α).getD y=y:=rfl
@[simp] theorem zri {q:α->Bool} :(x::xs).all q=(q x&&xs.all q):=rfl
@[simp] theorem zrj {q:α->Bool} :([]:List α).all q=true:=rfl
@[simp] theorem zrm {m:Nat} :Nat.ble (n+1) (m+1)=Nat.ble n m:=rfl
end
section
variable {Q:K3} {st:z8} {x:PO} {xs:List PV} {kvs:List (zA×PV)} {i j:Int} {a b:Str} {p q:Bool} {l:List (Str×Int)}
@[simp] theorem zrn {m:Nat} :xO m Q (xK l) st=Q (xK l) (st.take m):=rfl
@[simp] theorem zry:yQ (xK l)=true:=rfl
end
theorem cB:(∀{α:Type} {x:α} {xs:List α},atI (x::xs) 0=some x)/\(∀{α:Type} {x y:α} {xs:List α},atI (x::y::xs) 1=some y)/\(∀{α:Type} {x y z:α} {xs:List α},atI (x::y::z::xs) 2=some z)/\(∀{α:Type} {x y z u:α} {xs:List α},atI (x::y::z::u::xs) 3=some u)/\(∀{α:Type} {x y z u v:α} {xs:List α},atI (x::y::z::u::v::xs) 4=some v)/\
  (∀{n:Nat},wD (n+1) 0=some 0)/\(∀{n:Nat},wD (n+2) 1=some 1)/\(∀{p:Prop},(True/\p)=p)/\(∀{p:Prop},(p/\True)=p)/\(∀{q r:Prop},(if True then q else r)=q)/\(∀{q r:Prop},(if False then q else r)=r)/\((false=true)=False)/\(∀{p:Prop},(p∨True)=True)/\(∀{p:Prop},(True∨p)=True)/\(∀{p:Prop},(p/\p)=p)/\
  (∀{α:Type} {st:List α},st.take (st.length+0)=st)/\(∀{α:Type} {st:List α},st.take st.length=st)/\(∀{α:Type} {st:List α} {i:Nat} {x:α},(st.set i x).take (st.length+0)=st.set i x)/\(∀{α:Type} {st:List α} {i:Nat} {x:α},(st.set i x).take st.length=st.set i x)/\(∀{α:Type} {st:List α} {i:Nat} {x y:α},(st.set i x).set i y=st.set i y)/\
  (∀{α:Type} {st:List α} {i:Nat} {x:α},(st[i]?).isSome=true->(st.set i x)[i]?=some x)/\(∀{α:Type} {st:List α} {x:α},(st++ [x])[st.length]?=some x)/\(∀{α:Type} {st:List α} {x y:α},(st++ [x]).set st.length y=st++ [y])/\(∀{α:Type} {st:List α} {x:α},(st++ [x]).take (st.length+0)=st)/\(∀{α:Type} {st:List α} {x:α},(st++ [x]).take st.length=st)/\(∀{α:Type} {st:List α} {x:α},(st++ [x]).take (st.length+1)=st++ [x])/\
  (∀{b:Bool},(b&&true)=b)/\(∀{b:Bool},(true&&b)=b)/\(∀{m:Nat},Nat.ble 0 m=true)/\(∀{m:Nat},(0<=m)=True)/\(∀{n:Nat},max n 0=n)/\(∀{n:Nat},max 0 n=n)/\(∀{h:Decidable True},@decide True h=true)/\(∀{h:Decidable False},@decide False h=false)/\
  (∀{Q:K3} {st:z8} {x:PO},xO (st.length+1) Q (.obj st.length) (st++ [x])=Q (.obj st.length) (st++ [x]))/\(∀{Q:K3} {st:z8} {xs:List PV},xO (st.length+0) Q (.obj st.length) (st++ [.lst xs])=Q (.lst xs) st)/\(∀{Q:K3} {st:z8} {kvs:List (zA×PV)},xO (st.length+0) Q (.obj st.length) (st++ [.dct kvs])=Q (.dct kvs) st)/\
  (∀{Q:K3} {st:z8} {xs:List PV},xO st.length Q (.obj st.length) (st++ [.lst xs])=Q (.lst xs) st)/\(∀{Q:K3} {st:z8} {kvs:List (zA×PV)},xO st.length Q (.obj st.length) (st++ [.dct kvs])=Q (.dct kvs) st):=
 ⟨sI,at1,at2,at3,at4,ix0,ix1,true_and _,and_true _,if_pos trivial,if_neg id,Bool.false_eq_true,or_true _,true_or _,and_self _,zhB,List.take_length,fJ,fJ,wH,zld,sR,jE,jK,jK,zq2,Bool.and_true _,Bool.true_and _,Nat.ble_eq_true_of_le (Nat.zero_le _),eq_true (Nat.zero_le _),Nat.max_zero _,Nat.zero_max _,(by simp),(by simp),zkh,iW,zdP,iW,zdP⟩
end L3
namespace L3
open PySem PySem.Spec PyProof.Rows L2
def fN:List (zG×zG)->zO->z8->(List (PV×PV)->z8->Prop)->Prop
 | [],_,st,Q=>Q [] st
 | (tk,tv)::r,env,st,Q=>tk env st λx st1=>tv env st1 λy st2=>fN r env st2 λps st3=>Q ((x,y)::ps) st3
abbrev PRs (K:Frag)(A:List Addr)(H:Hp):List (PV×PV)->List (V×V)->Prop:=Paired λp q=>RE K A H p.1 q.1/\RE K A H p.2 q.2
theorem zgj {K:Frag} : ∀{trs:List (zG×zG)} {A:List Addr} {env:zO} {st:z8} {σ:St} {H:Hp} {Q3:List (PV×PV)->z8->Prop} {Q:List (V×V)->Hp->Prop},xJ K A H σ env st->fN trs env st Q3->
  (∀A' H' st' ps qs,yC A H A' H'->RS K A' H' st'->PRs K A' H' ps qs->Q3 ps st'->Q qs H')->fH (trs.map λp=>(zV K p.1,zV K p.2)) σ H Q
 | [],A,env,st,σ,H,Q3,Q,rel,h,k=>k A H st [] [] (.refl _ _) rel.rs .nil h
 | (tk,tv)::r,A,env,st,σ,H,Q3,Q,rel,h,k=>
  ⟨A,env,st,_,rel,h,λA1 H1 st1 x v g1 s1 e1 h1=>⟨A1,env,st1,_,rel.grow g1 s1,h1,λA2 H2 st2 y u g2 s2 e2 h2=>
   zgj (trs:=r) (rel.grow (g1.trans g2) s2) h2 λA3 H3 st3 ps qs g3 s3 e3 h3=>k A3 H3 st3 _ _ ((g1.trans g2).trans g3) s3 (.cons ⟨e1.grow (g2.trans g3),e2.grow g3⟩ e3) h3⟩⟩
theorem zpv {K:Frag}{A:List Addr}{H:Hp}{x:PV}{v:V}(e:RE K A H x v)(h:yQ x=true):RV K A H x v:=by
 cases e with
 | val e=>exact e
 | obj e=>cases h
theorem zlC {k:zA} :wP (rE k)=some k:=by cases k <;> rfl
theorem zgz {K:Frag}{A:List Addr}{H:Hp} : ∀{kvs:List (zA×PV)} {qs:List (V×V)},PRs K A H (kvs.map λkv=>(rE kv.1,kv.2)) qs->(kvs.all λkv=>yQ kv.2)=true->∃us:List (zA×V),qs=us.map (λkv=>(kV kv.1,kv.2))/\RKs K A H kvs us
 | [],qs,h,_=>by cases h;exact⟨[],rfl,.nil⟩
 | kv::kvs,qs,h,hn=>by
  rw[List.all_cons,Bool.and_eq_true]at hn;cases h with
  | @cons _ b _ _ r t=>
   obtain⟨us,rfl,rk⟩:=zgz t hn.2;obtain⟨q1,q2⟩:=b;have e1:q1=kV kv.1:=q9 r.1 zlC;subst e1;exact⟨(kv.1,q2)::us,rfl,.cons (zpv r.2 hn.1) rk⟩
def zhN (trs:List (zG×zG)):zG:=λenv st Q=>fN trs env (st++ [.dct []]) λps st2=> ∃kvs:List (zA×PV),ps=kvs.map (λkv=>(rE kv.1,kv.2))/\kvs.length<=15/\(kvs.all λkv=>yQ kv.2)=true/\st2[st.length]?=some (.dct [])/\Q (.obj st.length) (st2.set st.length (.dct (wR [] kvs)))
section
variable {X:Cx}
theorem zoJ {pos:Pos}{keys:List (Option Expr)}{values:List Expr}{trs:List (zG×zG)}(h:rS X pos keys values (trs.map λp=>(zV X.K p.1,zV X.K p.2)))(hall:keys.all (·.isSome)=true)(hl:keys.length=values.length)(h0:keys≠ [])(h15:keys.length<=15):
  PE X (.Dict keys values pos) (zV X.K (zhN trs)):=by
 refine xP (znY h hall hl h0 h15) λσ H Q ⟨A,env,st,Q3,rel,hT,k⟩=> ?_;intro p hp;have g0:yC A H (A++ [p]) (zQ H p (.dK [])):= .newObj hp;have rs1:RS X.K (A++ [p]) (zQ H p (.dK [])) (st++ [.dct []]):=rel.rs.newObj (q:= .dct []) hp ⟨[],xM,.nil,Nat.zero_le _⟩;refine zgj (rel.grow g0 rs1) hT λA2 H2 st2 ps qs g s2 e h2=> ?_;obtain⟨kvs,rfl,h15,hno,hat,q⟩:=h2;have hA:A2[st.length]?=some p:=by
  obtain⟨B,rfl,_⟩:=g.ext;rw[List.getElem?_append_left (by rw[List.length_append,<- rel.rs.len];exact Nat.lt_succ_self _),<- rel.rs.len,List.getElem?_append_right (Nat.le_refl _),Nat.sub_self];rfl
 obtain⟨us0,e0,r0,_⟩:=s2.at_ _ _ _ hA hat;cases r0;obtain⟨us,rfl,rk⟩:=zgz e hno;have hlen:us.length<=15:=by rw[<- rk.len];exact h15
 refine⟨e0,us,rfl,hlen,?_⟩;have mp:p∈A2:=List.mem_of_getElem? hA;exact k A2 _ _ _ _ ((g0.trans g).trans (.put mp)) (s2.put (q:= .dct (wR [] kvs)) hA ⟨_,xM,(RKs.merge .nil rk).grow (.put mp),Nat.le_trans (zbk hlen) (by decide)⟩) (.obj hA) q
abbrev d4 (K:Frag)(trs:List (zG×zG)):List (TE×TE):=trs.map λp=>(zV K p.1,zV K p.2)
theorem zoS {pos:Pos} :rS X pos [] [] (d4 X.K []):=zo5
theorem j0 {pos:Pos}{k v:Expr}{ks:List (Option Expr)}{vs:List Expr}{Tk Tv:zG}{trs:List (zG×zG)}(hk:PE X k (zV X.K Tk))(hv:PE X v (zV X.K Tv))(hr:rS X pos ks vs (d4 X.K trs)):rS X pos (some k::ks) (v::vs) (d4 X.K ((Tk,Tv)::trs)):=zo4 hk hv hr
end
end L3
namespace L3
open PySem PySem.Spec PyProof.Rows L2 PySem.SeqAt
section
variable {X:Cx} {o e:Expr} {es:List Expr} {apos cpos:Pos} {To:zG} {TA:yS} {id:String} {name:Str} {R:PV->y4}
def zaX:PV->Bool | .tup _=>true | _=>false
@[simp] theorem zsx {xs:List PV} :zaX (.tup xs)=true:=rfl
def zqK (R:PV->y4)(To:zG)(TA:yS):zG:=λenv st Q=>To env st λx st1=>zaX x=true/\TA env st1 λys st2=>R x ys st2 Q
@[simp] theorem zul {env:zO}{st:z8}{Q:K3} :zqK R To TA env st Q=To env st λx st1=>zaX x=true/\TA env st1 λys st2=>R x ys st2 Q:=rfl
end
end L3
namespace L2
open PySem PySem.Spec PyProof.Rows
def vH (H:Hp)(cs:List Addr):Hp:=λb=>if b∈cs then none else H b
theorem w9 {H:Hp}{b:Addr}{cs:List Addr}(h:b∉cs):vH H cs b=H b:=if_neg h
theorem pW {H:Hp}{b:Addr}{cs:List Addr}(h:b∈cs):vH H cs b=none:=if_pos h
theorem zfy {H:Hp}{b:Addr}{cs:List Addr}{o:HO}(h:vH H cs b=some o):b∉cs/\H b=some o:=by
 by_cases e:b∈cs
 ·rw[pW e]at h;cases h
 ·rw[w9 e]at h;exact⟨e,h⟩
def iE (H K:Hp)(cs:List Addr):Hp:=λb=>if b∈cs then K b else H b
theorem rW {H K:Hp}{b:Addr}{cs:List Addr}(h:b∉cs):iE H K cs b=H b:=if_neg h
theorem zda {H K:Hp}{b:Addr}{cs:List Addr}(h:b∈cs):iE H K cs b=K b:=if_pos h
def nE (H:Hp)(cs:List Addr)(oz:Addr->Obj):Hp:=λb=>if b∈cs then some (.ext (wI b (oz b)))else H b
theorem tD {H:Hp}{b:Addr}{cs:List Addr}{oz:Addr->Obj}(h:b∉cs):nE H cs oz b=H b:=if_neg h
theorem zc3 {H:Hp}{b:Addr}{cs:List Addr}{oz:Addr->Obj}(h:b∈cs):nE H cs oz b=some (.ext (wI b (oz b))):=if_pos h
theorem kR {α:Type} : ∀{l:List (Str×α)} {x:Str} {u:α},(l.map (·.1)).Nodup->(x,u)∈l->l.lookup x=some u
 | q::l,x,u,h,m=>by
  obtain⟨k,v⟩:=q;rw[List.map_cons,List.nodup_cons]at h;rcases List.mem_cons.mp m with e | m
  ·cases e;rw[List.lookup_cons];simp
  ·have n:x≠k:=λz=>h.1 (z▸List.mem_map.mpr ⟨_,m,rfl⟩)
   rw[List.lookup_cons,show(x==k)=false by simpa using n];exact kR h.2 m
theorem zlW {ps:List Str}{us:List Value}{i:Nat}{x:Str}{u:Value}(h:ps.Nodup)(hx:ps[i]?=some x)(hu:us[i]?=some u)(hl:us.length=ps.length):(ps.zip us).reverse.lookup x=some u:=by
 refine kR ?_ (List.mem_reverse.mpr ?_)
 ·rw[List.map_reverse,show(ps.zip us).map (·.1)=ps from by rw[List.map_fst_zip (by omega)]];exact(List.reverse_perm ps).nodup_iff.mpr h
 ·refine List.mem_of_getElem? (i:=i) ?_
  rw[List.getElem?_zip_eq_some];exact⟨hx,hu⟩
abbrev h7 (scope:Scope)(qual:Str)(cl:List (Str×Addr))(f c' L:Addr):Env:=newEnv scope L mainGlobals cl (qual++ ".<locals>.") (some f) (.ref c') none builtinsNs
abbrev dF (P:Program)(w:World)(K:Frag)(mg:Str->Option Value)(base:Heap)(scope:Scope)(qual:Str)(ps:List Str)(cl:List (Str×Addr))(f c':Addr)(A:Around)(outer:List Env)(s:Shared)(H:Hp):Cx where
 prog:=P
 w:=w
 K:=K
 mg:=mg
 base:=base
 A:=A.deeper (h7 scope qual cl f c' s.heap.objs.size)
 N:=ps++cl.map (·.1)
 s₀:=s
 H₀:=vH H (cl.map (·.2))
 env:=h7 scope qual cl f c' s.heap.objs.size
 outer:=outer
 stack:=h7 scope qual cl f c' s.heap.objs.size::outer
 ex:= []
 fn:=λ_=>false
 calm:=true
 pn:= []
 xe:=λ_ _=>False
theorem zlN {P:Program}{w:World}{K:Frag}{mg:Str->Option Value}{base:Heap}{k:Nat}{f c':Addr}{ps:List Str}{cl:List (Str×Addr)}{name qual:Str}{params:Arguments}{body:Expr}{scope:Scope}{pm ctv:Value}{sp:Sp}{oz:Addr->Obj}{dv:Addr->Addr}
  (oz2: ∀c∈cl.map (·.2),(oz c).data= .cell (some (.ref (dv c))))
  (hk:scope.kind= .function) (hco:scope.isCoroutine=false) (hgen:scope.isGenerator=false) (hnc: ∀z∈scope.names,z.2≠ .cell) (hx: ∀x∈ps,scope.names.lookup x=some .local) (hy: ∀y∈cl.map (·.1),scope.names.lookup y=some .free)
  (hfr: ∀z,scope.names.lookup z=some .free->z∈cl.map (·.1)) (hpn:ps.Nodup) (hyn:(cl.map (·.1)).Nodup) (hcn:(cl.map (·.2)).Nodup)
  (tr: ∀vs H Q E,sp vs H Q E->vs.length=ps.length/\H f=some (.ext (wI f (PySem.W.kla_obj name qual params body scope cl pm c' ctv)))/\H c'=some (.ext (uG c' qual))/\∀c∈cl.map (·.2),H c=some (.ext (wI c (oz c))))
  (hbody: ∀(A:Around) (outer:List Env) (s:Shared) (H:Hp) (vs:List V) (Q:VK) (E:XK),zX k (A.deeper (h7 scope qual cl f c' s.heap.objs.size))->sp vs H Q E->
   ∃t,PE (dF P w K mg base scope qual ps cl f c' A outer s H) body t/\t (vs.map some++cl.map λp=>some (.ref (dv p.2))) (vH H (cl.map (·.2))) λv' H'=>Q v' (iE H' H (cl.map (·.2)))):
  zJ P w K mg base zI (k+1) f (kla_fn name qual params body scope cl pm (.ref c') ctv) ps sp:=by
 refine⟨λvs H Q E h=>(tr vs H Q E h).1,λA outer s H args us vs Q E hr e0 hb r hsp=> ?_⟩;obtain⟨hl,hf,hc',hc⟩:=tr _ _ _ _ hsp;have hus:us.length=ps.length:=by rw[<- r.length];exact hl
 have KX:K.In s.heap:=e0.mod.kin.keeps λb o e=>(e0.bs b o e).1;have lim:s.heap.NoLimit:=e0.mod.nolimit.keeps λb o e=>(e0.bs b o e).1;obtain⟨of_,_,_⟩:=e0.hok f _ hf;obtain⟨⟨oc,vs',t',oc1,oc2,oc3⟩,_,_⟩:=e0.hok c' _ hc';have oz1: ∀c∈cl.map (·.2),s.heap.get? c=some (oz c):=λc h=>(e0.hok c _ (hc c h)).1;have ncf: ∀c∈cl.map (·.2),c∉wM outer:=λc h z=>by have:=e0.frf c z;rw[hc c h]at this;cases this
 refine PySem.W.kla_callFunE hr.depth of_ rfl hco hgen rfl ⟨c',oc,vs',t',rfl,oc1,oc2,oc3⟩ (hb _ _ _ _ ?_);refine wpAny_newFunctionEnv hnc (λz hz=>hx _ (List.of_mem_zip hz).1) (λh' ns sb=> ?_) hk;have kp: ∀b o,s.heap.get? b=some o->h'.get? b=some o:=λb o e=>(sb.2 b (Nat.ne_of_lt (Heap.lt_size e))).trans (Heap.get?_push_of_some _ e);refine⟨lim.keeps kp,PySem.W.kla_codeExpr ?_⟩;obtain⟨t,ht,hq⟩:=hbody A outer s H vs Q E (hr.deeper _) hsp;have nol: ∀z,z∉([]:List Addr):=λz hz=>by cases hz
 have cl1: ∀z c0,cl.lookup z=some c0->z∈cl.map (·.1)/\c0∈cl.map (·.2)/\(z,c0)∈cl:=λz c0 h=>by
  have m:=PySem.mem_of_lookup h;exact⟨List.mem_map.mpr ⟨_,m,rfl⟩,List.mem_map.mpr ⟨_,m,rfl⟩,m⟩
 have hokL:xC P w (vH H (cl.map (·.2))) h':=λb o e=>by
  obtain⟨nb,e1⟩:=zfy e;refine(e0.hok b o e1).stay (λc0 v0 _ q0=>kp c0 v0 q0) (λdx q0=> ?_) λb0 xs q0=> ?_
  ·rw[w9 (λz=>by rw[hc _ z]at q0;cases q0)];exact q0
  ·rw[w9 (λz=>by rw[hc _ z]at q0;cases q0)];exact q0
 have I:z5 (dF P w K mg base scope qual ps cl f c' A outer s H) [] (vs.map some++cl.map λp=>some (.ref (dv p.2))) (vH H (cl.map (·.2))) {s with heap:=h',toks:=s.toks+(ps.zip us).length} :=by
  refine⟨⟨e0.mod,hk,rfl,rfl,Nat.le_refl _,λz z2 c0 h1 h2=> ?_,λz hz=> ?_,λz c0 h=> ?_,λ_=>hr.hd,Around.frames_deeper e0.frames,.inr ⟨rfl,rfl⟩,λb z=>absurd z (nol b),λb o e=>⟨(e0.bs b o e).1,?_⟩,e0.bsz,λb _ _=>nol b,λb z=>absurd z (nol b),e0.funs,λb hb'=> ?_⟩,
   rfl,e0.bare,Un.kept kp,⟨_,ns,λi z v0 h1 h2 h3=> ?_⟩,λz c0 h=> ?_,?_,λz c0 h=> ?_,λp hp=>absurd hp (by simp),hokL,?_⟩
  ·obtain⟨_,_,m1⟩:=cl1 _ _ h1
   obtain⟨_,_,m2⟩:=cl1 _ _ h2;obtain⟨i,hi,e1⟩:=List.getElem_of_mem m1;obtain⟨j,hj,e2⟩:=List.getElem_of_mem m2;have:i=j:=(List.getElem_inj (h₀:=by simpa using hi) (h₁:=by simpa using hj) hcn).mp (by simp[e1,e2]);subst this;rw[e1]at e2;cases e2;rfl
  ·have m:z∈cl.map (·.1):=by
    rcases hz with hz | hz
    ·exact absurd rfl (hnc _ (PySem.mem_of_lookup (show scope.names.lookup z=some .cell from hz)))
    ·exact hfr z hz
   obtain⟨⟨z',c⟩,m',rfl⟩:=List.mem_map.mp m;exact⟨c,kR hyn m'⟩
  ·cases h
  ·show vH H (cl.map (·.2)) b=none
   by_cases e1:b∈cl.map (·.2)
   ·exact pW e1
   ·rw[w9 e1];exact(e0.bs b o e).2
  ·show vH H (cl.map (·.2)) b=none
   by_cases e1:b∈cl.map (·.2)
   ·exact pW e1
   ·rw[w9 e1];exact e0.frf b hb'
  ·have h1':(ps++cl.map (·.1))[i]?=some z:=h1
   by_cases hi:i < ps.length
   ·rw[List.getElem?_append_left hi]at h1'
    rw[List.getElem?_append_left (by rw[List.length_map,hl];exact hi),List.getElem?_map]at h2;obtain⟨v1,e1,e2⟩:=Option.map_eq_some_iff.mp h2;cases e2;have hiu:i < us.length:=by omega
    have eu:us[i]?=some us[i]:=List.getElem?_eq_getElem hiu;refine⟨us[i],?_,.inl ⟨hx z (List.mem_of_getElem? h1'),zlW hpn h1' eu hus⟩⟩;obtain⟨w',ew,rw'⟩:=fS (its:=us) r (j:=i) (by simpa using hiu);rw[e1]at ew;cases ew;simpa using rw'
   ·have hi':ps.length<=i:=by omega
    rw[List.getElem?_append_right hi',List.getElem?_map]at h1';rw[List.getElem?_append_right (by rw[List.length_map,hl];exact hi'),List.getElem?_map,List.length_map,hl]at h2;obtain⟨p,e1,e2⟩:=Option.map_eq_some_iff.mp h1';rw[e1]at h2;cases h2;have m:=List.mem_of_getElem? e1;have m1:p.1∈cl.map (·.1):=List.mem_map.mpr ⟨_,m,rfl⟩;have m2:p.2∈cl.map (·.2):=List.mem_map.mpr ⟨_,m,rfl⟩;subst e2;exact⟨.ref (dv p.2),rfl,.inr ⟨.inr (hy _ m1),p.2,kR hyn m,oz p.2,kp _ _ (oz1 _ m2),oz2 _ m2⟩⟩
  ·obtain⟨_,m2,_⟩:=cl1 _ _ h
   exact⟨_,oz c0,kp _ _ (oz1 _ m2),oz2 _ m2⟩
  ·show vH H (cl.map (·.2)) s.heap.objs.size=none
   by_cases e1:s.heap.objs.size∈cl.map (·.2)
   ·exact pW e1
   ·rw[w9 e1];exact e0.hok.fresh (Nat.le_refl _)
  ·exact pW (cl1 _ _ h).2.1
  ·show(vs.map some++cl.map λp=>some (V.ref (dv p.2))).length=(ps++cl.map (·.1)).length
   simp[hl]
 refine wpAny_mono (ht [] _ _ _ _ I hq) (λu' s' hs=> ?_) λe' s' z=>z.elim;obtain⟨v',H4,J,rv,q⟩:=hs;have j:=J.base;have H4c: ∀c∈cl.map (·.2),H4 c=none:=λc h=>by
  obtain⟨⟨y,c⟩,m,rfl⟩:=List.mem_map.mp h;exact J.freeC y c (kR hyn m)
 have eH:(dF P w K mg base scope qual ps cl f c' A outer s H).H₀=vH H (cl.map (·.2)):=rfl;have nn: ∀{b:Addr},H b=none->b∉cl.map (·.2):=λn z=>by rw[hc _ z]at n;cases n
 refine⟨v',iE H4 H (cl.map (·.2)),J.os,J.bare,⟨λb o e n hb1 hx1=> ?_,λb o e n hb1 hx1=> ?_,λb o e n hx1=> ?_,λb o e hx1=>j.there b o e hx1,λb xs e=> ?_,λb o u0 e=> ?_,λb ps e=> ?_⟩,λb o e=> ?_,rv,q⟩
 ·exact j.keep b o e (by rw[eH,w9 (nn n)];exact n) hb1 hx1
 ·exact j.slot b o e (by rw[eH,w9 (nn n)];exact n) hb1 hx1
 ·rw[rW (nn n)]
  exact j.free b o e (by rw[eH,w9 (nn n)];exact n) hx1
 ·have n1:b∉cl.map (·.2):=λz=>by rw[hc _ z]at e;cases e
  rw[rW n1];exact j.tups b xs (by rw[eH,w9 n1];exact e)
 ·have n1:b∉cl.map (·.2):=λz=>by rw[hc _ z]at e;cases e
  rw[rW n1];exact j.frzs b o u0 (by rw[eH,w9 n1];exact e)
 ·have n1:b∉cl.map (·.2):=λz=>by rw[hc _ z]at e;cases e
  rw[rW n1];exact j.tbls b ps (by rw[eH,w9 n1];exact e)
 ·by_cases n1:b∈cl.map (·.2)
  ·rw[zda n1,hc _ n1]at e
   cases e;have k1:s'.heap.get? b=some (oz b):=j.keep b (oz b) (oz1 _ n1) (pW n1) (ncf _ n1) (nol b);exact⟨k1,⟨oz b,k1⟩,λh1 h2 e1 k2=>k2 _ e1⟩
  ·rw[rW n1]at e
   refine(J.hok b o e).stay (λ_ _ _ q0=>q0) (λdx q0=> ?_) λb0 xs q0=> ?_
   ·rw[rW (λz=>by rw[H4c _ z]at q0;cases q0)];exact q0
   ·rw[rW (λz=>by rw[H4c _ z]at q0;cases q0)];exact q0
section
variable {X:Cx}
def zqd (cl:List (Str×Addr))(ix:List Nat)(sp:Sp)(t:TA):TE:=λσ H Q=>t σ H λvs H1=> ∃dv:Addr->Addr,(∀(j:Nat) (p:Str×Addr),cl[j]?=some p->∃i,ix[j]?=some i/\σ[i]?=some (some (.ref (dv p.2))))/\
 ((∀c∈cl.map (·.2),H1 c=none)->∀oz:Addr->Obj,(∀c∈cl.map (·.2),(oz c).data= .cell (some (.ref (dv c))))->
 sp vs (nE H1 (cl.map (·.2)) oz) (λv H'=>(∀c∈cl.map (·.2),H' c=some (.ext (wI c (oz c))))/\Q v (vH H' (cl.map (·.2)))) E0)
theorem znU {k:Nat}{f:Addr}{fd:FuncData}{x:Str}{p pos:Pos}{e:Expr}{es:List Expr}{ps:List Str}{sp:Sp}{t:TA}{cl:List (Str×Addr)}{ix:List Nat}(F:zJ X.prog X.w X.K X.mg X.base zI k f fd ps sp)(hr:zX k X.A)(hg:Gl X x)(hm:X.mg x=some (.ref f))(hk:keepIn X.K (.ref f)=true)
  (hb:yH X.K fd ps []) (hN: ∀(j:Nat) (p:Str×Addr) (i:Nat),cl[j]?=some p->ix[j]?=some i->X.N[i]?=some p.1) (hy: ∀p∈cl,X.env.scope.names.lookup p.1=some .cell) (hc: ∀p∈cl,X.env.cells.lookup p.1=some p.2) (hfn: ∀p∈cl,X.fn p.1=true) (ha:PA X (e::es) t)
  (hdb:(x==("__debug__" :Str))=false:=by decide) (he:starEach (e::es) X.env=(false,eval e X.env)::starEach es X.env:=by rfl) (hpl:(backTo pos (starEach es X.env)).any (·.1)=false:=by rfl):
  PE X (.Call (.Name x p) (e::es) [] pos) (zqd cl ix sp t):=⟨λpins s σ H Q I h=>by
 refine wpAny_Call_Name_kw (zbd I hg hm ?_ hdb);refine callWith_K (h₀:=X.base) I.ok.mod.kin hk (y8 (ha pos pins s σ H _ I h) λus s1 ⟨vs,H1,I1,r,dv,ed,q⟩=>⟨I1.kIn,?_⟩) he hpl;obtain⟨m,hn,hl⟩:=id I1.loc;have hcell: ∀c∈cl.map (·.2),∃oz:Obj,s1.heap.get? c=some oz/\oz.data= .cell (some (.ref (dv c))):=λc hcm=>by
  obtain⟨p,pm,rfl⟩:=List.mem_map.mp hcm;obtain⟨j,hj,ej⟩:=List.getElem_of_mem pm;have ej':cl[j]?=some p:=by rw[List.getElem?_eq_getElem hj,ej]
  obtain⟨i,ei,es'⟩:=ed j p ej';obtain⟨u,ru,lu⟩:=hl i p.1 _ (hN j p i ej' ei) es' (.inr (.inl (hy p pm)));cases ru;rcases lu with⟨z,_⟩ | ⟨_,c0,ec,hz⟩
  ·have z':X.env.scope.names.lookup p.1=some .local:=z
   rw[hy p pm]at z';cases z'
  ·rw[hc p pm]at ec;cases ec
   obtain⟨o,h1,h2⟩:=hz;exact⟨o,h1,h2⟩
 obtain⟨oz,ho⟩: ∃oz:Addr->Obj,∀c∈cl.map (·.2),s1.heap.get? c=some (oz c)/\(oz c).data= .cell (some (.ref (dv c))):=by
  refine⟨λc=>(s1.heap.get? c).getD default,λc hcm=> ?_⟩;obtain⟨o,h1,h2⟩:=hcell c hcm;show s1.heap.get? c=some ((s1.heap.get? c).getD default)/\((s1.heap.get? c).getD default).data=_;rw[h1];exact⟨rfl,h2⟩
 have nc: ∀c∈cl.map (·.2),H1 c=none:=λc hcm=>by
  obtain⟨p,pm,rfl⟩:=List.mem_map.mp hcm;exact I1.freeC p.1 p.2 (hc p pm)
 have q:=q nc oz λc h=>(ho c h).2;have low: ∀c∈cl.map (·.2),X.s₀.heap.objs.size<=c:=λc hcm=>by
  obtain⟨p,pm,rfl⟩:=List.mem_map.mp hcm;exact I1.ok.cab p.1 p.2 (hfn p pm) (hc p pm)
 have ncf: ∀c∈cl.map (·.2),c∉wM X.stack:=λc hcm z=>by
  have hl:=low c hcm;rcases List.mem_cons.mp (I1.stkSub c z)with z | z
  ·obtain⟨p,pm,rfl⟩:=List.mem_map.mp hcm
   exact I1.cne p.1 p.2 (hc p pm) z
  ·obtain⟨_,o,ho',_⟩:=I1.ok.funs.mem z
   exact absurd (Nat.lt_of_lt_of_le (Heap.lt_size ho') hl) (Nat.lt_irrefl _)
 have nm: ∀{b:Addr} {o:HO},H1 b=some o->b∉cl.map (·.2):=λe z=>by rw[nc _ z]at e;cases e
 have E1:=I1.env0;have hok2:xC X.prog X.w (nE H1 (cl.map (·.2)) oz) s1.heap:=λb o e=>by
  by_cases n:b∈cl.map (·.2)
  ·rw[zc3 n]at e;cases e
   exact⟨(ho b n).1,⟨oz b,(ho b n).1⟩,λh1 h2 e1 k1=>k1 _ e1⟩
  ·rw[tD n]at e
   refine(I1.hok b o e).stay (λ_ _ _ q0=>q0) (λdx q0=> ?_) λb0 xs q0=> ?_
   ·rw[tD (nm q0)];exact q0
   ·rw[tD (nm q0)];exact q0
 have E2:lG X.prog X.w X.K X.mg X.base X.A X.stack s1 (nE H1 (cl.map (·.2)) oz):=⟨E1.frames,E1.mod,λb o e=>⟨(E1.bs b o e).1,by
   rw[tD (λz=>absurd (Nat.lt_of_lt_of_le (Heap.lt_size e) (Nat.le_trans I1.ok.bsz (low b z))) (Nat.lt_irrefl _))];exact(E1.bs b o e).2⟩,E1.bsz,E1.funs,λb hb'=>by
   rw[tD (λz=>ncf b z hb')];exact E1.frf b hb',hok2,E1.bare⟩
 have hl2:us.length=ps.length:=by rw[<- r.length];exact F.len _ _ _ _ q
 refine wpAny_call (codeAny_mono (F.run X.A X.stack s1 _ ⟨us,[]⟩ us vs _ E0 hr E2 (by have:=hb s1 us I1.kIn (by rw[List.append_nil];exact hl2);rw[List.append_nil]at this;exact this) r q) λrr s' hq=> ?_);cases rr with
 | error e=>exact hq.elim
 | ok fl=>
  cases fl with
  | next=>exact False.elim hq
  | brk=>exact False.elim hq
  | cont=>exact False.elim hq
  | ret u'=>
   obtain⟨v,H',os,bare,un,hok',rv,hcc,qq⟩:=hq;have k1: ∀c∈cl.map (·.2),s'.heap.get? c=some (oz c):=λc h=>(hok' c _ (hcc c h)).1;refine⟨v,vH H' (cl.map (·.2)),I1.call' (ch:= []) os ⟨λb o e n hb1 hx1=> ?_,λb o e n hb1 hx1=> ?_,λb o e n hx1=> ?_,λb o e hx1=>un.there b o e hx1,λb xs e=> ?_,λb o u0 e=> ?_,λb ps0 e=> ?_⟩ (λb o e=> ?_) bare (λb z=>absurd z (by simp)),rv,qq⟩
   ·by_cases nb:b∈cl.map (·.2)
    ·rw[(ho b nb).1]at e;rw[<- e];exact k1 b nb
    ·exact un.keep b o e (by rw[tD nb];exact n) hb1 hx1
   ·exact un.slot b o e (by rw[tD (λz=>ncf b z hb1)];exact n) hb1 hx1
   ·by_cases nb:b∈cl.map (·.2)
    ·exact pW nb
    ·rw[w9 nb];exact un.free b o e (by rw[tD nb];exact n) hx1
   ·have nb:=nm e
    rw[w9 nb];exact un.tups b xs (by rw[tD nb];exact e)
   ·have nb:=nm e
    rw[w9 nb];exact un.frzs b o u0 (by rw[tD nb];exact e)
   ·have nb:=nm e
    rw[w9 nb];exact un.tbls b ps0 (by rw[tD nb];exact e)
   ·obtain⟨nb,e1⟩:=zfy e
    refine(hok' b o e1).stay (λ_ _ _ q0=>q0) (λdx q0=> ?_) λb0 xs q0=> ?_
    ·rw[w9 (λz=>by rw[hcc _ z]at q0;cases q0)];exact q0
    ·rw[w9 (λz=>by rw[hcc _ z]at q0;cases q0)];exact q0⟩
open PySem.W in
def zql (T:Addr)(cl:List (Str×Addr))(pos:Pos)(q:Str)(params:Arguments)(body:Expr)(scope:Scope):TE:=λ_ H Q=>rV T pos q H/\∀f c' pm ctv H2,H f=none->lF T H H2->rV T pos q H2->
 H2 f=some (.ext (wI f (kla_obj "<lambda>" q params body scope cl pm c' ctv)))->H2 c'=some (.ext (uG c' q))->Q (.ref f) H2
open PySem.W in
theorem znZ {T c0:Addr}{cl:List (Str×Addr)}{params:Arguments}{body:Expr}{scope:Scope}{pos:Pos}(hdef:defaultsOf params X.env=([],[]))(hcl:closureFor scope X.env=pure cl)(hcode:X.env.code= .ref c0)(hC:codeHdIn X.K c0 T=true)
  (hB:X.base.BuiltinsAt X.mg T) (ham: ∀c',codeAmong pos [rawInt pos.line,rawInt pos.col,.ref c']=some (.ref c')) (htr: ∀c',TriplesOk [rawInt pos.line,rawInt pos.col,.ref c']):
  PE X (.Lambda params body scope pos) (zql T cl pos (X.env.qual++ "<lambda>") params body scope):=⟨λpins s σ H Q I h=>by
 obtain⟨⟨ps,hT,hps⟩,q⟩:=h;have hP:s.heap.get? T=some (tabObj ps):=I.hok T _ hT;have hg:s.heap.Ns mainGlobals X.mg:=I.mod.glob.keeps I.bk;have C:CodeHd s.heap c0 T:=codeHd_of_K I.kIn hC;have hgT:mainGlobals≠T:=λz=>by
  obtain⟨o,es,ep,e,d,_⟩:=hg;rw[z,hP]at e;cases e;cases d
 have hb:s.heap.BuiltinsAt X.mg T:=by
  obtain⟨bm,o,a1,a2,a3,a4,a5,a6⟩:=hB;exact⟨bm,o,a1,a2,a3,a4,I.bk _ _ a5,a6⟩
 refine kla_eval hdef ?_;rcases hps with rfl | ⟨c',rfl,hc'⟩
 ·refine kla_makeFunction hcl I.ok.glob hg hcode C hP trivial rfl hgT hb λc' ctv h' tk hx l1 l2 cr ht'=> ?_
  obtain⟨c2,oc,vs',t',ec2,oc1,oc2,oc3⟩:=cr;cases ec2;have sz:s.heap.objs.size<=h'.objs.size:=Nat.le_trans l1 (Nat.le_of_lt l2);have lT:T < s.heap.objs.size:=Heap.lt_size hP;have kp: ∀b o,b≠T->s.heap.get? b=some o->(h'.push (kla_obj "<lambda>" (X.env.qual++ "<lambda>") params body scope cl ((X.mg "__name__").getD .none) c' ctv)).get? b=some o:=λb o n e=>Heap.get?_push_of_some _ (hx b o n e);have nTc:T≠c':=Nat.ne_of_lt (Nat.lt_of_lt_of_le lT l1);have nTf:T≠h'.objs.size:=Nat.ne_of_lt (Nat.lt_of_lt_of_le lT sz);have ncf:c'≠h'.objs.size:=Nat.ne_of_lt l2;have fr: ∀b,s.heap.objs.size<=b->H b=none:=λb hb'=>I.hok.fresh hb';have lo: ∀{b:Addr} {o:HO},H b=some o->b≠c'/\b≠h'.objs.size:=λe=>⟨Nat.ne_of_lt (Nat.lt_of_lt_of_le (I.hok.lt e) l1),Nat.ne_of_lt (Nat.lt_of_lt_of_le (I.hok.lt e) sz)⟩;have kT:(h'.push (kla_obj "<lambda>" (X.env.qual++ "<lambda>") params body scope cl ((X.mg "__name__").getD .none) c' ctv)).get? T=some (tabObj (#[]++ #[rawInt pos.line,rawInt pos.col,.ref c'])):=Heap.get?_push_of_some _ ht';have kc:(h'.push (kla_obj "<lambda>" (X.env.qual++ "<lambda>") params body scope cl ((X.mg "__name__").getD .none) c' ctv)).get? c'=some oc:=Heap.get?_push_of_some _ oc1;have kf:(h'.push (kla_obj "<lambda>" (X.env.qual++ "<lambda>") params body scope cl ((X.mg "__name__").getD .none) c' ctv)).get? h'.objs.size=some (kla_obj "<lambda>" (X.env.qual++ "<lambda>") params body scope cl ((X.mg "__name__").getD .none) c' ctv):=Heap.get?_push_size _ rfl;generalize hobj:kla_obj "<lambda>" (X.env.qual++ "<lambda>") params body scope cl ((X.mg "__name__").getD .none) c' ctv=obj at kp kT kc kf⊢
  generalize hN:h'.push obj=hN' at kp kT kc kf⊢
  have eT:zQ (zQ (zQ H T (.tbl (#[]++ #[rawInt pos.line,rawInt pos.col,.ref c']))) c' (.ext (uG c' (X.env.qual++ "<lambda>")))) h'.objs.size (.ext (wI h'.objs.size obj)) T=some (.tbl (#[]++ #[rawInt pos.line,rawInt pos.col,.ref c'])):=by rw[yP nTf,yP nTc,xM]
  have ec:zQ (zQ (zQ H T (.tbl (#[]++ #[rawInt pos.line,rawInt pos.col,.ref c']))) c' (.ext (uG c' (X.env.qual++ "<lambda>")))) h'.objs.size (.ext (wI h'.objs.size obj)) c'=some (.ext (uG c' (X.env.qual++ "<lambda>"))):=by rw[yP ncf,xM]
  have ef:zQ (zQ (zQ H T (.tbl (#[]++ #[rawInt pos.line,rawInt pos.col,.ref c']))) c' (.ext (uG c' (X.env.qual++ "<lambda>")))) h'.objs.size (.ext (wI h'.objs.size obj)) h'.objs.size=some (.ext (wI h'.objs.size obj)):=xM;have eo: ∀b,b≠T->b≠c'->b≠h'.objs.size->zQ (zQ (zQ H T (.tbl (#[]++ #[rawInt pos.line,rawInt pos.col,.ref c']))) c' (.ext (uG c' (X.env.qual++ "<lambda>")))) h'.objs.size (.ext (wI h'.objs.size obj)) b=H b:=λb n1 n2 n3=>by rw[yP n3,yP n2,yP n1]
  generalize zQ (zQ (zQ H T (.tbl (#[]++ #[rawInt pos.line,rawInt pos.col,.ref c']))) c' (.ext (uG c' (X.env.qual++ "<lambda>")))) h'.objs.size (.ext (wI h'.objs.size obj))=H2 at eT ec ef eo;have un:Un (wM X.stack) [] H H2 s.heap hN':=by
   have nT: ∀{b:Addr},H b=none->b≠T:=λn z=>by rw[z,hT]at n;cases n
   refine⟨λb o e n _ _=>kp b o (nT n) e,λb o e n _ _=>⟨o.slots,kp b o (nT n) e⟩,λb o e n _=> ?_,λb o e _=> ?_,λb xs e=> ?_,λb o u0 e=> ?_,λb ps0 e=> ?_⟩
   ·rw[eo b (nT n) (Nat.ne_of_lt (Nat.lt_of_lt_of_le (Heap.lt_size e) l1)) (Nat.ne_of_lt (Nat.lt_of_lt_of_le (Heap.lt_size e) sz))];exact n
   ·by_cases z:b=T
    ·rw[z];exact⟨_,kT⟩
    ·exact⟨o,kp b o z e⟩
   ·rw[eo b (λz=>by rw[z,hT]at e;cases e) (lo e).1 (lo e).2];exact e
   ·rw[eo b (λz=>by rw[z,hT]at e;cases e) (lo e).1 (lo e).2];exact e
   ·by_cases z:b=T
    ·rw[z,hT]at e;cases e
     rw[z];exact⟨_,eT⟩
    ·refine⟨#[],?_⟩
     rw[eo b z (lo e).1 (lo e).2,e];simp
  have hok:xC X.prog X.w H2 hN':=λb o e=>by
   by_cases z1:b=T
   ·rw[z1,eT]at e;cases e;rw[z1];exact kT
   by_cases z2:b=c'
   ·rw[z2,ec]at e;cases e;rw[z2]
    exact⟨⟨oc,vs',t',kc,oc2,oc3⟩,⟨oc,kc⟩,λh1 h2 ⟨o1,v1,t1,e1,r1⟩ k1=>⟨o1,v1,t1,k1 _ e1,r1⟩⟩
   by_cases z3:b=h'.objs.size
   ·rw[z3,ef]at e;cases e;rw[z3]
    exact⟨kf,⟨_,kf⟩,λh1 h2 e1 k1=>k1 _ e1⟩
   rw[eo b z1 z2 z3]at e;refine(I.hok b o e).stay (λb0 u0 h0 q0=>kp b0 u0 (λz=> ?_) q0) (λdx q0=> ?_) λb0 xs q0=> ?_
   ·rcases h0 with h0 | h0
    ·exact z1 (h0.symm.trans z)
    ·rw[z,hT]at h0;cases h0
   ·rw[eo dx (λz=>by rw[z,hT]at q0;cases q0) (lo q0).1 (lo q0).2];exact q0
   ·rw[eo b0 (λz=>by rw[z,hT]at q0;cases q0) (lo q0).1 (lo q0).2];exact q0
  refine⟨.ref h'.objs.size,H2,I.call (ch:= []) (g':=s.gens) (d':=s.drawn) (t':=tk) un hok I.bare (λb z=>absurd z (by simp)),rfl,q h'.objs.size c' _ ctv H2 (fr _ sz) (λb o e n=> ?_) ⟨_,eT,.inr ⟨c',rfl,ec⟩⟩ (hobj▸ef) ec⟩;rw[eo b n (lo e).1 (lo e).2];exact e
 ·refine kla_makeFunctionHit hcl I.ok.glob hg hcode C hP (htr c') (ham c') hb λctv h' tk kk sz=> ?_
  have I1:z5 X pins σ H {s with heap:=h',toks:=tk} :=I.kept (t':=tk) kk;have fr:H h'.objs.size=none:=I.hok.fresh sz;have nc:c'≠h'.objs.size:=Nat.ne_of_lt (Nat.lt_of_lt_of_le (I.hok.lt hc') sz);have nT:T≠h'.objs.size:=Nat.ne_of_lt (Nat.lt_of_lt_of_le (I.hok.lt hT) sz);refine⟨.ref h'.objs.size,_,I1.laid (t':=tk) (o:= .ext (wI h'.objs.size (kla_obj "<lambda>" (X.env.qual++ "<lambda>") params body scope cl ((X.mg "__name__").getD .none) c' ctv))) (λb o e=>Heap.get?_push_of_some _ e) (Nat.le_refl _) ⟨Heap.get?_push_size _ rfl,⟨_,Heap.get?_push_size _ rfl⟩,λh1 h2 e1 k1=>k1 _ e1⟩,rfl,q h'.objs.size c' _ ctv _ fr (wK.but (zqI fr)) ⟨_,(yP nT).trans hT,.inr ⟨c',rfl,(yP nc).trans hc'⟩⟩ xM ((yP nc).trans hc')⟩⟩
end
end L2
namespace L2
open PySem PySem.Spec PyProof.Rows
end L2
namespace L3
open PySem PySem.Spec PyProof.Rows L2
def hJ (kvs:List (List Int×Int))(k:List Int):Option Int:=(kvs.find? λkv=>decide (kv.1=k)).map (·.2)
def zg3 (kvs:List (List Int×Int))(k:List Int)(v:Int):List (List Int×Int):=
 if(kvs.any λkv=>decide (kv.1=k))=true then kvs.map (λkv=>if kv.1=k then(kv.1,v)else kv)else kvs++ [(k,v)]
def zfk:PV->z8->Option (List (List Int×Int))
 | .itb kvs,_=>some kvs
 | .obj i,st=>(match st[i]? with | some (.itb kvs)=>some kvs | _=>none)
 | _,_=>none
def zqQ:zG:=λ_ st Q=>Q (.obj st.length) (st++ [.itb []])
def zqT (Ta:zG)(TA:yS):zG:=λenv st Q=>Ta env st λx st1=>TA env st1 λys st2=> ∃(k:List Int) (kvs:List (List Int×Int)) (v:Int),ys=k.map PV.int/\zfk x st2=some kvs/\k.length<=100/\hJ kvs k=some v/\Q (.int v) st2
def zqW (Td:zG)(TA:yS)(Tv:zG):xF:=λD env st=>Tv env st λv st1=>Td env st1 λx st2=>TA env st2 λys st3=> ∃(k:List Int) (i:Nat) (kvs:List (List Int×Int)) (z:Int),ys=k.map PV.int/\v= .int z/\x= .obj i/\st3[i]?=some (.itb kvs)/\k.length<=100/\kvs.length < sizeLine/\D.nx env (st3.set i (.itb (zg3 kvs k z)))
@[simp] theorem zuv {env:zO}{st:z8}{Q:K3} :zqQ env st Q=Q (.obj st.length) (st++ [.itb []]):=rfl
@[simp] theorem zu0 {Ta:zG}{TA:yS}{env:zO}{st:z8}{Q:K3} :zqT Ta TA env st Q=(Ta env st λx st1=>TA env st1 λys st2=> ∃(k:List Int) (kvs:List (List Int×Int)) (v:Int),ys=k.map PV.int/\zfk x st2=some kvs/\k.length<=100/\hJ kvs k=some v/\Q (.int v) st2):=rfl
@[simp] theorem zu9 {Td:zG}{TA:yS}{Tv:zG}{D:xV}{env:zO}{st:z8} :zqW Td TA Tv D env st=(Tv env st λv st1=>Td env st1 λx st2=>TA env st2 λys st3=> ∃(k:List Int) (i:Nat) (kvs:List (List Int×Int)) (z:Int),ys=k.map PV.int/\v= .int z/\x= .obj i/\st3[i]?=some (.itb kvs)/\k.length<=100/\kvs.length < sizeLine/\D.nx env (st3.set i (.itb (zg3 kvs k z)))):=rfl
section
variable {X:Cx} {a value:Expr} {es:List Expr} {pos pos' p2:Pos} {Ta Tv:zG} {TA:yS}
end
end L3
namespace L3
open PySem PySem.Spec PyProof.Rows L2
def zqM (good:p9->Prop)(i:Nat)(TA:yS):zG:=λenv st Q=> ∃D:p9,env[i]?=some (some (.clo D))/\good D/\TA env st λxs st1=> ∃(k:List Int) (v:Int),xs=k.map PV.int/\k.length=3/\hJ D.kvs k=some v/\Q (.int v) st1
@[simp] theorem zup {good:p9->Prop}{i:Nat}{TA:yS}{env:zO}{st:z8}{Q:K3} :zqM good i TA env st Q= ∃D:p9,env[i]?=some (some (.clo D))/\good D/\TA env st λxs st1=> ∃(k:List Int) (v:Int),xs=k.map PV.int/\k.length=3/\hJ D.kvs k=some v/\Q (.int v) st1:=rfl
section
variable {X:Cx} {e:Expr} {es:List Expr} {p pos:Pos} {TA:yS}
end
end L3
namespace L2
open PySem PySem.Spec PyProof.Rows
section
variable {prog:Program} {w:World} {A:Around} {J:Addr} {fp wr:List Addr} {n:Nat} {P:Nat->Value->Prop} {Sn:Nat->Heap->Prop}
end
section
variable {prog:Program} {w:World} {A:Around} {E:Value->Shared->Prop} {s:Shared}
end
section
variable {X:Cx} {e e2:Expr} {t:TA} {tk:TA} {p pos kpos:Pos}
end
end L2
namespace L3
open PySem PySem.Spec PyProof.Rows L2
end L3
namespace L3
open PySem PySem.Spec PyProof.Rows L2
section
variable {X:Cx} {a b e:Expr} {es:List Expr} {pos p p2:Pos} {Ta Tb:zG} {TA:yS}
def zbN:PV->Option Int->Option Int->z8->K3->Prop:=λx lo hi st Q=> ∃i xs,x= .obj i/\st[i]?=some (.lst xs)/\Q (.lst (vY xs lo hi)) st
def zj9 (K:Frag):V->Option Int->Option Int->Hp->VK->Prop:=λv lo hi H Q=> ∃A st x Q3,RS K A H st/\RE K A H x v/\zbN x lo hi st Q3/\Fin K A H Q3 Q
theorem zmT:nO X (zj9 X.K):=by
 intro pins s σ H v vv vl vu lo hi sl Q I rx hs pl pu ⟨A,st,x,Q3,rs,ex,⟨i,xs,e,q,h⟩,k⟩;subst e;cases ex with
 | val ex=>cases ex
 | obj eo=>
  obtain⟨vs,h1,r,hz⟩:=rs.at_ _ _ _ eo q;exact zha pins s σ H _ vv vl vu lo hi sl Q I rx hs pl pu ⟨_,_,rfl,.of h1,k.lst rs (r.cut lo hi) (Nat.le_trans (kF _ lo hi) hz) h⟩
def zib (T:zG)(Tl Th:sG):zG:=λenv st Q=>T env st λx st1=>Tl env st1 λl st2=>Th env st2 λu st3=>zbN x l u st3 Q
theorem zoN {lo hi:Option Expr}{Tl Th:sG}(he:PE X e (zV X.K Ta))(hl:L2.PO X lo (nR X.K Tl))(hu:L2.PO X hi (nR X.K Th)):PE X (.Subscript e (.Slice lo hi none p2) pos) (zV X.K (zib Ta Tl Th)):=
 xP (zgp zmT he hl hu) λσ H Q ⟨A,env,st,Q3,rel,h,k⟩=>⟨A,env,st,_,rel,h,λA1 H1 st1 x v g1 s1 e1 h1=>⟨A1,env,st1,_,rel.grow g1 s1,h1,λA2 H2 st2 l g2 s2 h2=>⟨A2,env,st2,_,(rel.grow g1 s1).grow g2 s2,h2,λA3 H3 st3 u g3 s3 h3=>
  ⟨A3,st3,x,Q3,s3,e1.grow (g2.trans g3),h3,k.after (g1.trans (g2.trans g3))⟩⟩⟩⟩
def sL (xs:List PV):List PV:=xs.mapIdx λi x=> .tup [.int (i:Int),x]
theorem iS {xs:List PV} :(sL xs).length=xs.length:=by unfold sL;simp
theorem dL {xs:List PV}{i:Nat}{y:PV}(h:(sL xs)[i]?=some y): ∃x,xs[i]?=some x/\y= .tup [.int (i:Int),x]:=by
 unfold sL at h;rw[List.getElem?_mapIdx]at h;cases e:xs[i]? with
 | none=>rw[e]at h;cases h
 | some x=>rw[e]at h;exact⟨x,rfl,(Option.some.inj h).symm⟩
end
end L3
namespace Sets
open PySem
def rT (xs:Array Nat):Prop:= ∀i j (hi:i < xs.size) (hj:j < xs.size),i < j->xs[i] < xs[j]
theorem zaU {xs:Array Nat}{j:Nat}(hr:rT xs): ∀(fuel lo hi:Nat),hi - lo<=fuel->lo<=hi->hi<=xs.size->(∀i (h:i < xs.size),i < lo->xs[i] < j)->(∀i (h:i < xs.size),hi<=i->j<=xs[i])->
  SetTable.below.go xs j fuel lo hi<=xs.size/\(∀i (h:i < xs.size),i < SetTable.below.go xs j fuel lo hi->xs[i] < j)/\(∀i (h:i < xs.size),SetTable.below.go xs j fuel lo hi<=i->j<=xs[i])
 | 0,lo,hi,hf,hl,hs,h1,h2=>by
  unfold SetTable.below.go;have:lo=hi:=by omega
  subst this;exact⟨hs,h1,h2⟩
 | f+1,lo,hi,hf,hl,hs,h1,h2=>by
  unfold SetTable.below.go;by_cases hlt:lo < hi
  ·rw[if_pos hlt]
   dsimp only;have hm:(lo+hi) / 2 < xs.size:=by omega
   have e:xs.getD ((lo+hi) / 2) j=xs[(lo+hi) / 2]:=by simp[Array.getD,hm]
   rw[e];by_cases hc:xs[(lo+hi) / 2] < j
   ·rw[if_pos hc]
    refine zaU hr f _ hi (by omega) (by omega) hs (λi h hi'=> ?_) h2;by_cases hq:i=(lo+hi) / 2
    ·subst hq;exact hc
    ·have:=hr i ((lo+hi) / 2) h hm (by omega);omega
   ·rw[if_neg hc]
    refine zaU hr f lo _ (by omega) (by omega) (by omega) h1 (λi h hi'=> ?_);by_cases hq:i=(lo+hi) / 2
    ·subst hq;omega
    ·have:=hr ((lo+hi) / 2) i hm h (by omega);omega
  ·rw[if_neg hlt]
   have:lo=hi:=by omega
   subst this;exact⟨hs,h1,h2⟩
theorem zdf {xs:Array Nat}(hr:rT xs)(j:Nat):SetTable.below xs j<=xs.size/\(∀i (h:i < xs.size),i < SetTable.below xs j->xs[i] < j)/\(∀i (h:i < xs.size),SetTable.below xs j<=i->j<=xs[i]):=
 zaU hr xs.size 0 xs.size (by omega) (Nat.zero_le _) (Nat.le_refl _) (λi h hi=>by omega) (λi h hi=>by omega)
theorem zbS {xs:Array Nat} :rT xs↔xs.toList.Pairwise (· < ·):=by
 rw[List.pairwise_iff_getElem];constructor
 ·intro h i j hi hj hij
  simpa using h i j (by simpa using hi) (by simpa using hj) hij
 ·intro h i j hi hj hij
  have:=h i j (by rw[Array.length_toList];exact hi) (by rw[Array.length_toList];exact hj) hij
  rwa [Array.getElem_toList,Array.getElem_toList]at this
theorem zlp {α:Type}(xs:Array α)(p:Nat)(x:α):(SetTable.insertAt xs p x).toList=xs.toList.take p++x::xs.toList.drop p:=by
 rw[SetTable.toList_insertAt]
theorem zlq {xs:Array Nat}(hr:rT xs){j:Nat}(hn:xs[SetTable.below xs j]?≠some j):rT (SetTable.insertAt xs (SetTable.below xs j) j):=by
 obtain⟨h0,h1,h2⟩:=zdf hr j;rw[zbS,zlp];have hl:=zbS.mp hr;refine List.pairwise_append.mpr ⟨hl.sublist (List.take_sublist _ _),List.pairwise_cons.mpr ⟨λy hy=> ?_,hl.sublist (List.drop_sublist _ _)⟩,λx hx y hy=> ?_⟩
 ·obtain⟨i,hi,e⟩:=List.getElem_of_mem hy
  rw[List.length_drop,Array.length_toList]at hi;rw[List.getElem_drop,Array.getElem_toList]at e;have:=h2 (SetTable.below xs j+i) (by omega) (by omega);by_cases hz:i=0
  ·subst hz
   have hne:xs[SetTable.below xs j+0]≠j:=λq=>hn (by rw[Array.getElem?_eq_getElem (by omega)];exact congrArg some q);omega
  ·have h3:=h2 (SetTable.below xs j) (by omega) (Nat.le_refl _)
   have h4:=hr (SetTable.below xs j) (SetTable.below xs j+i) (by omega) (by omega) (by omega);omega
 ·have hx':x < j:=by
   obtain⟨i,hi,e⟩:=List.getElem_of_mem hx;rw[List.length_take,Array.length_toList]at hi;rw[List.getElem_take,Array.getElem_toList]at e;have:=h1 i (by omega) (by omega);omega
  have hy':j<=y:=by
   rcases List.mem_cons.mp hy with rfl | hy
   ·exact Nat.le_refl _
   ·obtain⟨i,hi,e⟩:=List.getElem_of_mem hy
    rw[List.length_drop,Array.length_toList]at hi;rw[List.getElem_drop,Array.getElem_toList]at e;have:=h2 (SetTable.below xs j+i) (by omega) (by omega);omega
  omega
theorem zps (n:Nat):rT (Array.range n):=by
 intro i j hi hj hij;simpa using hij
structure wJ (led:Bool)(n:Nat)(t:SetTable):Prop where
 fits:t.fits n=true
 led:t.led=led
 rise:rT t.place
 dum:t.dummies= #[]
theorem wJ.stand {led:Bool}{m:Nat}{t:SetTable}(h:t.led=led)(n:Nat):wJ led n (t.standIn n):=
 ⟨SetTable.standIn_fits t n,h,zps n,rfl⟩
theorem wJ.plainOff {led:Bool}{n:Nat}{t:SetTable}(h:wJ led n t):wJ led n {t with plain:=false} :=⟨SetTable.fits_plain_off h.fits,h.led,h.rise,h.dum⟩
theorem zgy {t:SetTable}(hd:t.dummies= #[]){f:Nat->Int}{h:Int} : ∀(fuel:Nat) (p:SetTable.Probe),p.dummy=none->∀j d,SetTable.probe.go t f h fuel p=some (.empty j d)->d=none/\t.place[SetTable.below t.place j]?≠some j
 | 0,p,hp,j,d,e=>by unfold SetTable.probe.go at e;cases e
 | n+1,p,hp,j,d,e=>by
  unfold SetTable.probe.go at e;have hs:t.slot p.j=(if t.place[SetTable.below t.place p.j]?==some p.j then .live (SetTable.below t.place p.j)else .empty):=by
   unfold SetTable.slot;dsimp only
   split
   ·rfl
   ·have:SetTable.has t.dummies p.j=false:=by unfold SetTable.has;rw[hd];simp
    rw[this];rfl
  rw[hs]at e
  split at e
  ·rename_i q
   split at q
   ·cases q
   ·rename_i q2
    cases e;exact⟨hp,by simpa using q2⟩
  ·rename_i q
   split at q <;> cases q
  ·split at e
   ·cases e
   ·refine zgy hd n _ ?_ j d e
    unfold SetTable.advance
    split
    ·exact hp
    ·exact hp
theorem zkT {t:SetTable}(hd:t.dummies= #[]){h:Int}{j:Nat}{b:Bool}(e:t.freeSlot h=some (j,b)):b=false/\t.place[SetTable.below t.place j]?≠some j:=by
 unfold SetTable.freeSlot at e
 split at e
 ·rename_i j' d q
  obtain⟨rfl,hn⟩:=zgy hd _ _ rfl j' d q;cases e;exact⟨rfl,hn⟩
 ·cases e
theorem zlQ {led:Bool}{t:SetTable}{es:Array (Int×Value)}(g:wJ led es.size t)(h:Int)(x:Value):wJ led (layNew t es h x).1.size (layNew t es h x).2.1/\(layNew t es h x).2.2.1=false:=by
 unfold layNew
 split
 ·rename_i slot wd e
  obtain⟨rfl,hn⟩:=zkT g.dum e;dsimp only;refine⟨?_,rfl⟩;unfold SetTable.orStandIn
  split
  ·rename_i hf
   refine⟨hf,g.led,zlq g.rise hn,?_⟩;show(if SetTable.has t.dummies slot=true then SetTable.eraseAt t.dummies (SetTable.below t.dummies slot)else t.dummies)= #[];have:SetTable.has t.dummies slot=false:=by unfold SetTable.has;rw[g.dum];simp
   rw[this,g.dum];rfl
  ·exact wJ.stand (m:=0) g.led _
 ·dsimp only
  refine⟨?_,rfl⟩;rw[Array.size_push];exact wJ.stand (m:=0) g.led _
theorem zpw {led:Bool}{t:SetTable}{es:Array (Int×Value)}(g:wJ led es.size t)(n:Nat):wJ led (relayAll t es n).1.size (relayAll t es n).2.1:=by
 unfold relayAll
 split
 ·rename_i t' order e
  dsimp only
  split
  ·rename_i hc
   rw[Bool.and_eq_true]at hc;unfold SetTable.relaid SetTable.laid at e;obtain⟨owner,e1,e2⟩:=Option.bind_eq_some_iff.mp e;cases e2;refine⟨hc.2,g.led,?_,rfl⟩;rw[zbS];show((List.map _ _).toArray.toList).Pairwise _;rw[List.toList_toArray];have hp: ∀(l:List Nat),l.Pairwise (· < ·)->((l.filterMap λj=>(owner.getD j none).map λy=>(j,y)).map λq:Nat×Nat=>q.1).Pairwise (· < ·):=by
    intro l hl
    induction l with
    | nil=>exact .nil
    | cons a l ih=>
     rw[List.filterMap_cons];obtain⟨h1,h2⟩:=List.pairwise_cons.mp hl
     split
     ·exact ih h2
     ·rename_i b hb
      rw[List.map_cons];refine List.pairwise_cons.mpr ⟨λy hy=> ?_,ih h2⟩;obtain⟨c,hc1,rfl⟩:=List.mem_map.mp hy;obtain⟨j,hj,hj2⟩:=List.mem_filterMap.mp hc1;obtain⟨u,_,rfl⟩:=Option.map_eq_some_iff.mp hj2;obtain⟨u2,_,rfl⟩:=Option.map_eq_some_iff.mp hb;exact h1 j hj
   exact hp _ List.pairwise_lt_range
  ·exact wJ.stand (m:=0) g.led _
 ·exact wJ.stand (m:=0) g.led _
end Sets
namespace Sets
open PySem PyProof.Rows
def r6 (led:Bool)(a:Addr)(es:Array (Int×Value))(h:Heap):Prop:= ∃o ep t,h.get? a=some o/\o.ExactSet/\o.data= .set es ep t/\wJ led es.size t
theorem r6.keep {led:Bool}{a:Addr}{es:Array (Int×Value)}{h h':Heap}(x:r6 led a es h)(k: ∀o,h.get? a=some o->h'.get? a=some o):r6 led a es h':=
 let⟨o,ep,t,e,r⟩:=x;⟨o,ep,t,k _ e,r⟩
section
variable {prog:Program} {w:World} {K:Type} [DecidableEq K] {knd:KeyKind prog w K} {A:Around} {E:Value->Shared->Prop} {s:Shared}
theorem zb5 {led:Bool}{a:Addr}{o:Obj}{es:Array (Int×Value)}{ep:Nat}{t:SetTable}{h:Heap}(ho:h.get? a=some o)(hx:o.ExactSet)(hd:o.data= .set es ep t){es':Array (Int×Value)}{t':SetTable}(g:wJ led es'.size t'):
  (h.update a (Obj.putSet es' t')).get? a=some {o with data:= .set es' (ep+1) t'} /\r6 led a es' (h.update a (Obj.putSet es' t')):=by
 have e:=Heap.get?_update_self (Obj.putSet es' t') ho (by rw[putSet_of es' t' hd];rfl);rw[putSet_of es' t' hd]at e;exact⟨e,_,_,_,e,hx,rfl,g⟩
theorem zhA {led:Bool}{g:Bool->Sem Unit}(hg: ∀(b:Bool) (u:Shared) (R:Unit->Shared->Prop),R () u->wpAny (model prog w) A (g b) R E u){a:Addr}{o:Obj}{es:Array (Int×Value)}{ep:Nat}{t:SetTable}
  (ho:s.heap.get? a=some o) (hx:o.ExactSet) (hd:o.data= .set es ep t) {e1:Array (Int×Value)} {t2:SetTable} (hz:e1.size < scanBound) (gd:wJ led e1.size t2) {wd:Bool} {R:Option Bool->Shared->Prop}
  (h: ∀h' e',Heap.SameBut a s.heap h'->r6 led a e' h'->e'.toList.Perm e1.toList->R (some true) {s with heap:=h'}):
  wpAny (model prog w) A (do
   storeSet a e1 t2
   if(!wd&&t2.tooFull)=true then do
      g (relayAll t2 e1 (SetTable.grown e1.size)).2.2
      storeSet a (relayAll t2 e1 (SetTable.grown e1.size)).1 (relayAll t2 e1 (SetTable.grown e1.size)).2.1
      pure (some true)
    else pure (some true)) R E s:=by
 refine wpAny_bind (wpAny_storeSet_of ho hd ?_ (fits_of_scanBound hz));obtain⟨p1,p2⟩:=zb5 ho hx hd gd;have sb:=Heap.SameBut.update s.heap a (Obj.putSet e1 t2)
 split
 ·have pm:=relayAll_perm t2 e1 (SetTable.grown e1.size)
  have gr:=zpw gd (SetTable.grown e1.size);generalize relayAll t2 e1 (SetTable.grown e1.size)=L at pm gr⊢
  obtain⟨e2,t3,gv⟩:=L;dsimp only at pm gr⊢
  have sz:e2.size=e1.size:=by have:=pm.length_eq;simpa using this
  refine wpAny_bind (hg _ _ _ (wpAny_bind (wpAny_storeSet_of p1 rfl ?_ (fits_of_scanBound (by rw[sz];exact hz)))));exact wpAny_pure (h _ e2 (sb.trans (Heap.SameBut.update _ a _)) (zb5 p1 hx rfl gr).2 pm)
 ·exact wpAny_pure (h _ e1 sb p2 (List.Perm.refl _))
theorem ziR {led:Bool}{a:Addr}{es:Array (Int×Value)}{k:K}{x:Value}{Q:Bool->Shared->Prop}(hk:knd.is k x=true)(hc:x.scannable=true)(hel:ElemsOf knd es.toList)(hS:r6 led a es s.heap)(hz:es.size+1 < scanBound)
  (h: ∀(b:Bool) h' es',Heap.SameBut a s.heap h'->r6 led a es' h'->(if es.toList.any (λe=>knd.is k e.2)=true then es'=es else es'.toList.Perm (es.toList++ [(knd.hash k,x)]))->Q b {s with heap:=h'}):
  wpAny (model prog w) A (setAddHashed a x (knd.hash k)) Q E s:=by
 obtain⟨o,ep,t,ho,hx,hd,gd⟩:=hS;have hb:es.size < scanBound:=by omega
 unfold setAddHashed setAddHashedIn;refine wpAny_holding (wpAny_bind (wpAny_setState_of ho hd gd.fits ?_));dsimp only;rw[byScan_of hc hb hel,if_pos rfl];unfold setAddByScan;refine wpAny_bind (wpAny_bind (wpAny_rule (wpAny_bind (wpAny_setScan_of hk ho hd gd.fits hel ?_))));cases hr:List.findIdx? (λe=>knd.is k e.2) es.toList with
 | some j=>
  dsimp only;obtain⟨hj,pj,_⟩:=List.findIdx?_eq_some_iff_getElem.mp hr;refine wpAny_pure (wpAny_pure ?_);have e:s= {s with heap:=s.heap} :=by cases s;rfl
  rw[e];refine h _ s.heap es (Heap.SameBut.refl a s.heap) ⟨o,ep,t,ho,hx,hd,gd⟩ ?_;rw[if_pos (List.any_eq_true.mpr ⟨_,List.getElem_mem hj,pj⟩)]
 | none=>
  dsimp only;have hno: ¬ es.toList.any (λe=>knd.is k e.2)=true:=λq=>by
   obtain⟨e,he,hp⟩:=List.any_eq_true.mp q;have:=List.findIdx?_eq_none_iff.mp hr e he;rw[hp]at this;cases this
  have gv: ∀(b:Bool) {u:Shared} {R:Unit->Shared->Prop},R () u->wpAny (model prog w) A (match b with | true=>rule "set.scan.the-table-gave-way" | false=>pure ()) R E u:=
   λb u R q=>by cases b <;> first | exact wpAny_pure q | exact wpAny_rule q
  have pm:=layNew_perm t es (knd.hash k) x;obtain⟨gl,wd0⟩:=zlQ gd (knd.hash k) x;generalize layNew t es (knd.hash k) x=L at pm gl wd0⊢
  obtain⟨e1,t1,wd,gave⟩:=L;dsimp only at pm gl wd0⊢
  rw[Array.toList_push]at pm;have z1:e1.size < scanBound:=by have:=pm.length_eq;simp at this;omega
  refine wpAny_bind (gv _ ?_);have fin: ∀h' e',Heap.SameBut a s.heap h'->r6 led a e' h'->e'.toList.Perm e1.toList->Q true {s with heap:=h'} :=λh' e' sb si pe=>h true h' e' sb si (by rw[if_neg hno];exact pe.trans pm)
  split
  ·refine wpAny_bind ?_
   rw[hashByValue_scannable 8 hc];refine wpAny_pure (zhA (led:=led) ?_ ho hx hd z1 ?_ ?_)
   ·intro b u R q;cases b <;> first | exact wpAny_pure q | exact wpAny_rule q
   ·split
    ·exact gl
    ·exact gl.plainOff
   ·intro h' e' sb si pe;dsimp only;exact wpAny_pure (fin h' e' sb si pe)
  ·refine wpAny_bind (wpAny_pure ?_)
   rw[if_pos rfl];refine zhA (led:=led) ?_ ho hx hd z1 gl ?_
   ·intro b u R q;cases b <;> first | exact wpAny_pure q | exact wpAny_rule q
   ·intro h' e' sb si pe;dsimp only;exact wpAny_pure (fin h' e' sb si pe)
end
end Sets
namespace Sets
open PySem PyProof.Rows
theorem tB:Slot "set_iterator" "__next__" "set_iterator.__next__" := .of (owner:= "set_iterator") (n:= "__next__")
 (by rw[typeLookup_type,builtinLookup_eq_fast];kernel_rfl) (by decide+kernel) (by decide+kernel) (by decide+kernel) (by first | exact .inl (by decide+kernel) | exact .inr (by decide+kernel)) (by rw[isSubtype_type];kernel_rfl)
theorem iR:entryFor table "set_iterator.__next__" =some Builtin.«set_iterator.__next__»:=entryFor_of_tree (by kernel_rfl)
theorem zjZ:entryFor table "set.__iter__" =some Builtin.«frozenset.__iter__»:=entryFor_alias (id':= "frozenset.__iter__") (by kernel_rfl) rfl (by decide+kernel) (by kernel_rfl)
theorem zgg:Manifest.owners.lookup (String.ofList ['r','o','t','a','r','e','t','i','_','t','e','s'].reverse)=some Manifest.sig_set_iterator:=by kernel_rfl
theorem iB (a:Value):argsOk "set_iterator.__next__" ⟨[a],[]⟩:=by
 unfold argsOk;rw[signature?_of (id:= "set_iterator.__next__") (n:= ['_','_','t','x','e','n','_','_']) (o:= ['r','o','t','a','r','e','t','i','_','t','e','s']) (by kernel_rfl) zgg];kernel_rfl
def SI (it a:Addr)(f:Value)(i n ep:Nat)(h:Heap):Prop:= ∃o,h.get? it=some o/\o.cls= .type "set_iterator" /\o.data= .fields #[f,.int i 0,.ref a,.int n 0,.int ep 0]
theorem SI.type {it a:Addr}{f:Value}{i n ep:Nat}{s:Shared}(x:SI it a f i n ep s.heap):s.TypeIs (.ref it) "set_iterator" :=let⟨o,ho,hc,_⟩:=x;⟨o,ho,hc⟩
theorem SI.keep {it a:Addr}{f:Value}{i n ep:Nat}{h h':Heap}(x:SI it a f i n ep h)(k: ∀o,h.get? it=some o->h'.get? it=some o):SI it a f i n ep h':=let⟨o,ho,r⟩:=x;⟨o,k o ho,r⟩
structure At (a:Addr)(es:Array (Int×Value))(ep:Nat)(t:SetTable)(h:Heap):Prop where
 at_: ∃o,h.get? a=some o/\o.ExactSet/\o.data= .set es ep t
theorem At.keep {a:Addr}{es:Array (Int×Value)}{ep:Nat}{t:SetTable}{h h':Heap}(x:At a es ep t h)(k: ∀o,h.get? a=some o->h'.get? a=some o):At a es ep t h':=let⟨⟨o,e,r⟩⟩:=x;⟨o,k o e,r⟩
section
variable {prog:Program} {w:World} {A:Around} {E:Value->Shared->Prop} {s:Shared}
theorem iC {Q:Bool->Shared->Prop}(h:Q (w.params.followText "set-order") s):wpAny (model prog w) A setsByText Q E s:=by
 unfold setsByText;exact wpAny_bind (wpAny_askSetting (wpAny_pure h))
theorem zpS {it a:Addr}{f:Value}{i n ep:Nat}{h:Heap}(x:SI it a f i n ep h)(g:Value):
  SI it a g (i+1) n ep ((h.update it (Obj.mapFields (·.setIfInBounds 0 g))).update it (Obj.mapFields (·.setIfInBounds 1 (rawInt ((i:Int)+1))))):=by
 obtain⟨o,ho,hc,hd⟩:=x;have e1:=Heap.get?_update_self (Obj.mapFields (·.setIfInBounds 0 g)) ho (Obj.isFreed_of_fields (Obj.data_mapFields hd _));have d1:=Obj.data_mapFields hd (·.setIfInBounds 0 g);have e2:=Heap.get?_update_self (Obj.mapFields (·.setIfInBounds 1 (rawInt ((i:Int)+1)))) e1 (Obj.isFreed_of_fields (Obj.data_mapFields d1 _));refine⟨_,e2,(Obj.cls_mapFields ..).trans ((Obj.cls_mapFields ..).trans hc),?_⟩;rw[Obj.data_mapFields d1];simp[rawInt]
theorem zpT {it a:Addr}{f:Value}{i n ep:Nat}{h:Heap}(x:SI it a f i n ep h):
  SI it a f (i+1) n ep (h.update it (Obj.mapFields (·.setIfInBounds 1 (rawInt ((i:Int)+1))))):=by
 obtain⟨o,ho,hc,hd⟩:=x;have e1:=Heap.get?_update_self (Obj.mapFields (·.setIfInBounds 1 (rawInt ((i:Int)+1)))) ho (Obj.isFreed_of_fields (Obj.data_mapFields hd _));refine⟨_,e1,(Obj.cls_mapFields ..).trans hc,?_⟩;rw[Obj.data_mapFields hd];simp[rawInt]
theorem zfB {it a:Addr}{slot i ep:Nat}{es:Array (Int×Value)}{t:SetTable}{Q:Option Value->Shared->Prop}(x:SI it a (.int slot 0) i es.size ep s.heap)(y:At a es ep t s.heap)(hf:t.fits es.size=true){v:Value}{nx:Nat}
  (hn: ∀(B:Around) (R:Option (Value×Nat)->Shared->Prop) (E':Value->Shared->Prop),R (some (v,nx)) s->wpAny (model prog w) B (setNext a slot i ep) R E' s)
  (h: ∀h',Heap.SameBut it s.heap h'->SI it a (.int nx 0) (i+1) es.size ep h'->Q (some v) {s with heap:=h'}):wpAny (model prog w) A (pyNext (.ref it)) Q E s:=by
 obtain⟨o,ho,hc,hd⟩:=id x;obtain⟨⟨oa,ha,hx,hda⟩⟩:=id y;unfold pyNext;refine wpAny_bind (wpAny_attempt (wpAny_callSpecial?_slot (name:=Str.ofString "__next__") x.type tB (wpAny_call_entry tB x.type iR ?_ (iB _))));unfold Builtin.«set_iterator.__next__»;refine wpAny_bind (wpAny_pure ?_);refine wpAny_bind (wpAny_fieldsOf ho hd ?_);show wpAny _ _ (setEntries a >>= _) _ _ s;refine wpAny_bind (wpAny_setEntries_of ha hda hf ?_);rw[if_neg (by simp)];refine wpAny_bind (hn _ _ _ ?_);show wpAny _ _ (setField (.ref it) 0 (rawInt nx) >>= _) _ _ s;refine wpAny_bind (wpAny_setField ho hd (by simp) ?_);have e1:=Heap.get?_update_self (Obj.mapFields (·.setIfInBounds 0 (rawInt nx))) ho (Obj.isFreed_of_fields (Obj.data_mapFields hd _));have d1:=Obj.data_mapFields hd (·.setIfInBounds 0 (rawInt nx));show wpAny _ _ (setField (.ref it) 1 (rawInt ((i:Int)+1)) >>= _) _ _ _;refine wpAny_bind (wpAny_setField (s:= {s with heap:=s.heap.update it (Obj.mapFields (·.setIfInBounds 0 (rawInt nx)))}) e1 d1 (by simp) ?_);show wpAny _ _ (ret v) _ _ _;refine wpAny_pure ⟨_,rfl,wpAny_pure (h _ ((Heap.SameBut.update ..).trans (Heap.SameBut.update ..)) (zpS x _))⟩
theorem zh2 {B:Around}{R:Fin->Shared->Prop}{X:Value->Shared->Prop}(hh:B.handled=none){u:Shared}(h: ∀e h',(∀b o,u.heap.get? b=some o->h'.get? b=some o)->Shared.TypeIs {u with heap:=h'} e "StopIteration" ->X e {u with heap:=h'}):
  wpAny (model prog w) B (newExc (.type "StopIteration") [] >>= λe=>raiseNew e) R X u:=by
 refine wpAny_bind ?_;simp only[newExc,newTuple];refine wpAny_bind (wpAny_newObj_type ?_ (by size_fits));refine wpAny_bind (m:=firstArgMember _ _) (wpAny_of_eq (a:=Value.none) (by first | rfl | (simp only[firstArgMember];rfl)) ?_);refine wpAny_newObj_type ?_ (by size_fits);simp only[raiseNew];refine wpAny_bind (wpAny_handled ?_);rw[hh];refine wpAny_bind (wpAny_pure (wpAny_throw ?_));exact h _ _ (λb o e=>Heap.get?_push_of_some _ (Heap.get?_push_of_some _ e)) ⟨_,Heap.get?_push_size _ rfl,rfl⟩
theorem zdI {it a:Addr}{slot i ep:Nat}{es:Array (Int×Value)}{t:SetTable}{Q:Option Value->Shared->Prop}(hh:A.handled=none)(x:SI it a (.int slot 0) i es.size ep s.heap)(y:At a es ep t s.heap)(hf:t.fits es.size=true)
  (hn: ∀(B:Around) (R:Option (Value×Nat)->Shared->Prop) (E':Value->Shared->Prop),R none s->wpAny (model prog w) B (setNext a slot i ep) R E' s)
  (h: ∀h',(∀b o,b≠it->s.heap.get? b=some o->h'.get? b=some o)->Q none {s with heap:=h'}):wpAny (model prog w) A (pyNext (.ref it)) Q E s:=by
 obtain⟨o,ho,hc,hd⟩:=id x;obtain⟨⟨oa,ha,hx,hda⟩⟩:=id y;unfold pyNext;refine wpAny_bind (wpAny_attempt (wpAny_callSpecial?_slot (name:=Str.ofString "__next__") x.type tB (wpAny_call_entry tB x.type iR ?_ (iB _))));unfold Builtin.«set_iterator.__next__»;refine wpAny_bind (wpAny_pure ?_);refine wpAny_bind (wpAny_fieldsOf ho hd ?_);show wpAny _ _ (setEntries a >>= _) _ _ s;refine wpAny_bind (wpAny_setEntries_of ha hda hf ?_);rw[if_neg (by simp)];refine wpAny_bind (hn _ _ _ ?_);show wpAny _ _ (setField (.ref it) 2 .none >>= _) _ _ s;refine wpAny_bind (wpAny_setField ho hd (by simp) ?_);refine zh2 (show A.in1.handled=none from hh) λe h' hk hT=> ?_;refine wpAny_bind (wpAny_isInstance (T:= "StopIteration") (b:=true) hT isSubtype_stop (wpAny_pure (h _ λb o hb eb=>hk b o ?_)));exact(Heap.get?_update_other _ _ (Ne.symm hb)).trans eb
theorem zmH {it a tp:Addr}{i ep:Nat}{es:Array (Int×Value)}{t:SetTable}{ps:Array Value}{Q:Option Value->Shared->Prop}(x:SI it a (.ref tp) i es.size ep s.heap)(y:At a es ep t s.heap)(hf:t.fits es.size=true)(z:s.heap.IsTuple tp ps)
  {j:Nat} (hp:ps[i]?=some (.int j 0)) {e:Int×Value} (he:es[j]?=some e)
  (h: ∀h',Heap.SameBut it s.heap h'->SI it a (.ref tp) (i+1) es.size ep h'->Q (some e.2) {s with heap:=h'}):wpAny (model prog w) A (pyNext (.ref it)) Q E s:=by
 obtain⟨o,ho,hc,hd⟩:=id x;obtain⟨⟨oa,ha,hx,hda⟩⟩:=id y;obtain⟨ot,hot,hct,nt,hdt⟩:=id z;unfold pyNext;refine wpAny_bind (wpAny_attempt (wpAny_callSpecial?_slot (name:=Str.ofString "__next__") x.type tB (wpAny_call_entry tB x.type iR ?_ (iB _))));unfold Builtin.«set_iterator.__next__»;refine wpAny_bind (wpAny_pure ?_);refine wpAny_bind (wpAny_fieldsOf ho hd ?_);show wpAny _ _ (setEntries a >>= _) _ _ s;refine wpAny_bind (wpAny_setEntries_of ha hda hf ?_);rw[if_neg (by simp)];show wpAny _ _ (seqItems? (.ref tp) >>= _) _ _ s;unfold seqItems?;refine wpAny_bind (wpAny_bind (wpAny_load hot ?_));rw[hdt];refine wpAny_pure ?_;dsimp only;have hp':ps[(i:Int).toNat]?=some (.int j 0):=by simpa using hp
 rw[hp'];dsimp only;unfold setNextDrawn;refine wpAny_bind (wpAny_bind (wpAny_setState_of ha hda hf ?_));dsimp only;rw[if_neg (by simp)];have he':es[(j:Int).toNat]?=some e:=by simpa using he
 rw[he'];refine wpAny_pure ?_;show wpAny _ _ (setField (.ref it) 1 (rawInt ((i:Int)+1)) >>= _) _ _ _;refine wpAny_bind (wpAny_setField ho hd (by simp) ?_);exact wpAny_pure ⟨_,rfl,wpAny_pure (h _ (Heap.SameBut.update ..) (zpT x))⟩
theorem zkc {it a tp:Addr}{i ep:Nat}{es:Array (Int×Value)}{t:SetTable}{ps:Array Value}{Q:Option Value->Shared->Prop}(hh:A.handled=none)(x:SI it a (.ref tp) i es.size ep s.heap)(y:At a es ep t s.heap)(hf:t.fits es.size=true)(z:s.heap.IsTuple tp ps)
  (hp:ps[i]?=none) (h: ∀h',(∀b o,b≠it->s.heap.get? b=some o->h'.get? b=some o)->Q none {s with heap:=h'}):wpAny (model prog w) A (pyNext (.ref it)) Q E s:=by
 obtain⟨o,ho,hc,hd⟩:=id x;obtain⟨⟨oa,ha,hx,hda⟩⟩:=id y;obtain⟨ot,hot,hct,nt,hdt⟩:=id z;unfold pyNext;refine wpAny_bind (wpAny_attempt (wpAny_callSpecial?_slot (name:=Str.ofString "__next__") x.type tB (wpAny_call_entry tB x.type iR ?_ (iB _))));unfold Builtin.«set_iterator.__next__»;refine wpAny_bind (wpAny_pure ?_);refine wpAny_bind (wpAny_fieldsOf ho hd ?_);show wpAny _ _ (setEntries a >>= _) _ _ s;refine wpAny_bind (wpAny_setEntries_of ha hda hf ?_);rw[if_neg (by simp)];show wpAny _ _ (seqItems? (.ref tp) >>= _) _ _ s;unfold seqItems?;refine wpAny_bind (wpAny_bind (wpAny_load hot ?_));rw[hdt];refine wpAny_pure ?_;dsimp only;have hp':ps[(i:Int).toNat]?=none:=by simpa using hp
 rw[hp'];show wpAny _ _ (setField (.ref it) 0 (rawInt 0) >>= _) _ _ s;refine wpAny_bind (wpAny_setField ho hd (by simp) ?_);have e1:=Heap.get?_update_self (Obj.mapFields (·.setIfInBounds 0 (rawInt 0))) ho (Obj.isFreed_of_fields (Obj.data_mapFields hd _));have d1:=Obj.data_mapFields hd (·.setIfInBounds 0 (rawInt 0));show wpAny _ _ (setField (.ref it) 2 .none >>= _) _ _ _;refine wpAny_bind (wpAny_setField (s:= {s with heap:=s.heap.update it (Obj.mapFields (·.setIfInBounds 0 (rawInt 0)))}) e1 d1 (by simp) ?_);refine zh2 (show A.in1.handled=none from hh) λe h' hk hT=> ?_;refine wpAny_bind (wpAny_isInstance (T:= "StopIteration") (b:=true) hT isSubtype_stop (wpAny_pure (h _ λb o hb eb=>hk b o ?_)));exact(Heap.get?_update_other _ _ (Ne.symm hb)).trans ((Heap.get?_update_other _ _ (Ne.symm hb)).trans eb)
end
end Sets
namespace Sets
open PySem PyProof.Rows
theorem dA {α:Type} : ∀{l:List α} {i:Nat} (h:i < l.length),(l[i]::l.eraseIdx i).Perm l
 | x::l,0,_=>List.Perm.refl _
 | x::l,i+1,h=>(List.Perm.swap _ _ _).trans ((dA (l:=l) (i:=i) (by simpa using h)).cons x)
theorem zgt {α:Type}(f:Nat->Nat): ∀(n k:Nat) (l:List α) (out:Array α),l.length=n->(pickOrder.go f n k l out).toList.Perm (out.toList++l)
 | 0,k,l,out,h=>by
  unfold pickOrder.go;rw[List.length_eq_zero_iff.mp h,List.append_nil]
 | n+1,k,l,out,h=>by
  unfold pickOrder.go;have hlt:f k % l.length < l.length:=Nat.mod_lt _ (by omega);rw[List.getElem?_eq_getElem hlt];dsimp only;refine(zgt f n (k+1) _ _ (by rw[List.length_eraseIdx_of_lt hlt];omega)).trans ?_;rw[Array.toList_push,List.append_assoc];exact(List.Perm.refl _).append (dA hlt)
theorem zoy {α:Type}(f:Nat->Nat)(xs:Array α):(pickOrder f xs).toList.Perm xs.toList:=by
 unfold pickOrder;have:=zgt f xs.size 0 xs.toList #[] (by simp);simpa using this
section
variable {prog:Program} {w:World} {A:Around} {E:Value->Shared->Prop} {s:Shared}
theorem zdD {α:Type} : ∀(n:Nat) (xs:List α) (s:Shared) {Q:List α->Shared->Prop},xs.length<=n->(∀ys d,ys.Perm xs->Q ys {s with drawn:=d})->wpAny (model prog w) A (drawOrder n xs) Q E s
 | 0,xs,s,Q,hn,h=>by
  have e:xs= []:=List.length_eq_zero_iff.mp (by omega);subst e;unfold drawOrder;exact wpAny_pure (h [] s.drawn (List.Perm.refl _))
 | n+1,[],s,Q,hn,h=>by
  unfold drawOrder;exact wpAny_pure (h [] s.drawn (List.Perm.refl _))
 | n+1,x::xs,s,Q,hn,h=>by
  unfold drawOrder;refine wpAny_bind (m:=choose .order (x::xs).length) ?_;intro Γ p hΓ;unfold choose;rw[Sem.wp_choose];refine⟨by simp,?_⟩;rw[show(Sem.pure:Nat->Sem Nat)=(pure:Nat->Sem Nat)from rfl];generalize hi:(model prog w).w.draws Source.order (s.drawn.get Source.order) % (x::xs).length=i;have hlt:i < (x::xs).length:=by rw[<- hi];exact Nat.mod_lt _ (by simp)
  refine wpAny_pure (M:=model prog w) (A:=A) (E:=E) (s:= {s with drawn:=s.drawn.bump Source.order}) (Q:=λi s'=>wpAny (model prog w) A (match(x::xs)[i]? with | some y=>do return y::(<- drawOrder n ((x::xs).eraseIdx i)) | none=>unsupported "internal:drawOrder") Q E s') ?_ Γ p hΓ;rw[List.getElem?_eq_getElem hlt];dsimp only;refine wpAny_bind (zdD n _ _ (by rw[List.length_eraseIdx_of_lt hlt];simp at hn hlt⊢;omega) λys d hp=>wpAny_pure (h _ d ?_));exact(hp.cons _).trans (dA hlt)
theorem zfC {a:Addr}{es:Array (Int×Value)}{ep slot i:Nat}{t:SetTable}{R:Option (Value×Nat)->Shared->Prop}(y:At a es ep t s.heap)(hf:t.fits es.size=true)(hT:w.params.followText "set-order" =true)
  (h:R (((pickOrder (w.params.setOrder a ep) es)[i]?).map λe=>(e.2,slot)) s):wpAny (model prog w) A (setNext a slot i ep) R E s:=by
 obtain⟨⟨o,ho,hx,hd⟩⟩:=y;unfold setNext;refine wpAny_bind (wpAny_setState_of ho hd hf (wpAny_bind (iC ?_)));rw[hT,if_pos rfl,if_neg (by simp)];unfold setWalk;refine wpAny_bind (wpAny_bind (wpAny_setState_of ho hd hf (wpAny_bind (iC ?_))));rw[hT,if_pos rfl];exact wpAny_bind (wpAny_askSetting (wpAny_pure (wpAny_pure h)))
theorem zfA {a:Addr}{es:Array (Int×Value)}{ep slot i:Nat}{t:SetTable}{R:Option (Value×Nat)->Shared->Prop}(y:At a es ep t s.heap)(hf:t.fits es.size=true)(hT:w.params.followText "set-order" =false)(hled:t.led=true)(hp:(!t.plain&&decide (es.size > 1))=false)
  (h:R (match es[SetTable.below t.place slot]?,t.place[SetTable.below t.place slot]? with | some (_,x),some j=>some (x,j+1) | _,_=>none) s):wpAny (model prog w) A (setNext a slot i ep) R E s:=by
 obtain⟨⟨o,ho,hx,hd⟩⟩:=y;unfold setNext;refine wpAny_bind (wpAny_setState_of ho hd hf (wpAny_bind (iC ?_)));rw[hT,if_neg Bool.false_ne_true];show wpAny _ _ (if(!t.plain&&decide (es.size > 1))=true then _ else _) _ _ s;rw[hp,if_neg Bool.false_ne_true];show wpAny _ _ ((if(!t.led&& !es.isEmpty)=true then unsupported "set:maker-not-led" else pure ()) >>= _) _ _ s;rw[hled];exact wpAny_bind (wpAny_pure (wpAny_pure h))
def sA (t:SetTable)(i:Nat):Nat:=if i=0 then 0 else t.place.getD (i - 1) 0+1
theorem zde {t:SetTable}(hr:rT t.place){i:Nat}(hi:i<=t.place.size):SetTable.below t.place (sA t i)=i:=by
 obtain⟨h0,h1,h2⟩:=zdf hr (sA t i);have key: ∀j (h:j < t.place.size),j < i->t.place[j] < sA t i:=λj h hj=>by
  unfold sA;rw[if_neg (by omega)];have e:t.place.getD (i - 1) 0=t.place[i - 1]:=by simp[Array.getD,show i - 1 < t.place.size by omega]
  rw[e];by_cases hq:j=i - 1
  ·subst hq;omega
  ·have:=hr j (i - 1) h (by omega) (by omega);omega
 have key2: ∀(h:i < t.place.size),sA t i<=t.place[i]:=λh=>by
  unfold sA;by_cases hz:i=0
  ·rw[if_pos hz];omega
  ·rw[if_neg hz]
   have e:t.place.getD (i - 1) 0=t.place[i - 1]:=by simp[Array.getD,show i - 1 < t.place.size by omega]
   rw[e];have:=hr (i - 1) i (by omega) h (by omega);omega
 rcases Nat.lt_trichotomy (SetTable.below t.place (sA t i)) i with h | h | h
 ·have a1:=h2 _ (by omega) (Nat.le_refl _)
  have a2:=key _ (by omega) h;omega
 ·exact h
 ·have a1:=h1 i (by omega) h
  have a2:=key2 (by omega);omega
theorem zgZ:Slot "set_iterator" "__iter__" "set_iterator.__iter__" := .of (owner:= "set_iterator") (n:= "__iter__")
 (by rw[typeLookup_type,builtinLookup_eq_fast];kernel_rfl) (by decide+kernel) (by decide+kernel) (by decide+kernel) (by first | exact .inl (by decide+kernel) | exact .inr (by decide+kernel)) (by rw[isSubtype_type];kernel_rfl)
theorem zka:entryFor table "set_iterator.__iter__" =some Builtin.«dict_keyiterator.__iter__»:=entryFor_alias (id':= "dict_keyiterator.__iter__") (by kernel_rfl) rfl (by decide+kernel) (by kernel_rfl)
theorem ziU (a:Value):argsOk "set_iterator.__iter__" ⟨[a],[]⟩:=by
 unfold argsOk;rw[signature?_of (id:= "set_iterator.__iter__") (n:= ['_','_','r','e','t','i','_','_']) (o:= ['r','o','t','a','r','e','t','i','_','t','e','s']) (by kernel_rfl) zgg];kernel_rfl
theorem zca {it a:Addr}{f:Value}{i n ep:Nat}{Q:Value->Shared->Prop}(x:SI it a f i n ep s.heap)(h:Q (.ref it) s):wpAny (model prog w) A (pyIter (.ref it)) Q E s:=by
 refine wpAny_pyIter_slot x.type zgZ (wpAny_call_entry zgZ x.type zka ?_ (ziU _));show wpAny _ _ (ret (.ref it)) _ _ s;exact wpAny_pure ⟨_,rfl,"set_iterator",_,x.type,tB.lookup,h⟩
def i9 (prog:Program)(w:World)(I:Addr)(fp:List Addr)(ord:List Value)(St:Nat->Heap->Prop):Prop:= ∀B:Around,B.handled=none->Walks prog w B I fp [I] ord.length (λi v=>ord[i]?=some v) St
theorem zrf {it a:Addr}(ne:a≠it){es:Array (Int×Value)}{ep:Nat}{t:SetTable}(hf:t.fits es.size=true)(hT:w.params.followText "set-order" =true):
  i9 prog w it [it,a] ((pickOrder (w.params.setOrder a ep) es).toList.map (·.2)) (λi h=>SI it a (.int (0:Nat) 0) i es.size ep h/\At a es ep t h):=λB hB=>
 {sub:=λb hb=>by simp at hb;simp[hb]
  frame:=λi h h' st k=>⟨st.1.keep (k it (by simp)),st.2.keep (k a (by simp))⟩
  item:=λi u Q X hi st hQ=>by
   have hl:i < (pickOrder (w.params.setOrder a ep) es).size:=by simpa using hi
   refine zfB (v:=(pickOrder (w.params.setOrder a ep) es)[i].2) (nx:=0) st.1 st.2 hf (λB' R X' r=>zfC st.2 hf hT ?_) λh' sb si=>hQ _ h' u.toks ?_ ⟨si,st.2.keep λo e=>(sb.2 a ne).trans e⟩ λb o hb e=>(sb.2 b (by simpa using hb)).trans e
   ·rw[Array.getElem?_eq_getElem hl];exact r
   ·rw[List.getElem?_map,Array.getElem?_toList,Array.getElem?_eq_getElem hl];rfl
  done:=λu Q X st hQ=>by
   refine zdI hB st.1 st.2 hf (λB' R X' r=>zfC st.2 hf hT ?_) λh' k=>hQ h' u.toks λb o hb e=>k b o (by simpa using hb) e;rw[Array.getElem?_eq_none (by simp)];exact r
  self:=λi u Q X st hQ=>zca st.1 hQ}
theorem zre {it a:Addr}(ne:a≠it){es:Array (Int×Value)}{ep:Nat}{t:SetTable}(g:wJ true es.size t)(hT:w.params.followText "set-order" =false)(hp:(!t.plain&&decide (es.size > 1))=false):
  i9 prog w it [it,a] (es.toList.map (·.2)) (λi h=>SI it a (.int (sA t i:Nat) 0) i es.size ep h/\At a es ep t h):=λB hB=>by
 have hsz:t.place.size=es.size:=by have:=g.fits;unfold SetTable.fits at this;simp at this;exact this.1
 exact
 {sub:=λb hb=>by simp at hb;simp[hb]
  frame:=λi h h' st k=>⟨st.1.keep (k it (by simp)),st.2.keep (k a (by simp))⟩
  item:=λi u Q X hi st hQ=>by
   have hl:i < es.size:=by simpa using hi
   have hl2:i < t.place.size:=by omega
   have hs:t.place[i]+1=sA t (i+1):=by unfold sA;rw[if_neg (by omega)];simp[Array.getD,hl2]
   refine zfB (v:=es[i].2) (nx:=sA t (i+1)) st.1 st.2 g.fits (λB' R X' r=>zfA st.2 g.fits hT g.led hp ?_) λh' sb si=>hQ _ h' u.toks ?_ ⟨si,st.2.keep λo e=>(sb.2 a ne).trans e⟩ λb o hb e=>(sb.2 b (by simpa using hb)).trans e
   ·rw[zde g.rise (by omega),Array.getElem?_eq_getElem hl,Array.getElem?_eq_getElem hl2,<- hs]at *;exact r
   ·rw[List.getElem?_map,Array.getElem?_toList,Array.getElem?_eq_getElem hl];rfl
  done:=λu Q X st hQ=>by
   refine zdI hB st.1 st.2 g.fits (λB' R X' r=>zfA st.2 g.fits hT g.led hp ?_) λh' k=>hQ h' u.toks λb o hb e=>k b o (by simpa using hb) e;rw[zde g.rise (by simp[hsz]),Array.getElem?_eq_none (by simp)];exact r
  self:=λi u Q X st hQ=>zca st.1 hQ}
theorem zrd {it a tp:Addr}(ne:a≠it)(nt:tp≠it){es:Array (Int×Value)}{ep:Nat}{t:SetTable}(hf:t.fits es.size=true){js:List Nat}(hj:js.Perm (List.range es.size)):
  i9 prog w it [it,a,tp] (js.map λj=>(es.getD j default).2) (λi h=>SI it a (.ref tp) i es.size ep h/\At a es ep t h/\h.IsTuple tp (js.map λ(j:Nat)=>rawInt j).toArray):=λB hB=>
 {sub:=λb hb=>by simp at hb;simp[hb]
  frame:=λi h h' st k=>⟨st.1.keep (k it (by simp)),st.2.1.keep (k a (by simp)),let⟨o,e,r⟩:=st.2.2;⟨o,k tp (by simp) o e,r⟩⟩
  item:=λi u Q X hi st hQ=>by
   have hl:i < js.length:=by simpa using hi
   have hjl:js[i] < es.size:=List.mem_range.mp (hj.mem_iff.mp (List.getElem_mem hl));refine zmH (j:=js[i]) (e:=es[js[i]]) st.1 st.2.1 hf st.2.2 ?_ (Array.getElem?_eq_getElem hjl) λh' sb si=>hQ _ h' u.toks ?_ ⟨si,st.2.1.keep λo e=>(sb.2 a ne).trans e,let⟨o,e,r⟩:=st.2.2;⟨o,(sb.2 tp nt).trans e,r⟩⟩ λb o hb e=>(sb.2 b (by simpa using hb)).trans e
   ·simp[hl,rawInt]
   ·simp[hl,Array.getD,hjl]
  done:=λu Q X st hQ=>by
   refine zkc hB st.1 st.2.1 hf st.2.2 ?_ λh' k=>hQ h' u.toks λb o hb e=>k b o (by simpa using hb) e;simp
  self:=λi u Q X st hQ=>zca st.1 hQ}
end
end Sets
namespace Sets
open PySem PyProof.Rows
section
variable {prog:Program} {w:World} {A:Around} {E:Value->Shared->Prop} {s:Shared}
structure zir (prog:Program)(w:World)(a:Addr)(es:Array (Int×Value))(s s1:Shared)(I:Addr)(fp:List Addr)(ord:List Value)(St:Nat->Heap->Prop):Prop where
 keep: ∀b o,s.heap.get? b=some o->s1.heap.get? b=some o
 fresh:s.heap.objs.size<=I
 foot: ∀b∈fp,b=a∨s.heap.objs.size<=b
 same:s1.gens=s.gens/\s1.os=s.os/\s1.toks=s.toks
 perm:ord.Perm (es.toList.map (·.2))
 walk:i9 prog w I fp ord St
 st:St 0 s1.heap
theorem zlb (es:Array (Int×Value)):((List.range es.size).map λj=>(es.getD j default).2)=es.toList.map (·.2):=by
 apply List.ext_getElem?;intro i;rw[List.getElem?_map,List.getElem?_map];by_cases h:i < es.size
 ·rw[List.getElem?_range h];simp[Array.getD,h]
 ·rw[List.getElem?_eq_none (by simpa using h),List.getElem?_eq_none (by simpa using h)];rfl
theorem zl3 {a:Addr}{es:Array (Int×Value)}{ep:Nat}{t:SetTable}{Q:Value->Shared->Prop}(y:At a es ep t s.heap)(g:wJ (!w.params.followText "set-order") es.size t)(hz:es.size<=1000)
  (h: ∀I s1 fp ord St,zir prog w a es s s1 I fp ord St->Q (.ref I) s1):wpAny (model prog w) A (pyIter (.ref a)) Q E s:=by
 obtain⟨⟨o,ho,hx,hd⟩⟩:=id y;have hT:s.TypeIs (.ref a) "set" :=⟨o,ho,hx.1⟩;have hal:a < s.heap.objs.size:=Heap.lt_size ho;refine wpAny_pyIter_slot hT F.slot_set_iter (wpAny_call_entry F.slot_set_iter hT zjZ ?_ (F.args_set_iter_1 _));unfold Builtin.«frozenset.__iter__» Builtin.Frozenset.slot0 slotArgs;simp only[List.isEmpty_nil,Bool.not_true,Bool.false_eq_true,if_false,bind_assoc,List.length_nil,bne_self_eq_false];unfold Builtin.Frozenset.addrOf Builtin.Frozenset.sizeOf;refine wpAny_bind (wpAny_pure (wpAny_bind (wpAny_pure ?_)));refine wpAny_bind (wpAny_bind (wpAny_setEntries_of ho hd g.fits (wpAny_pure ?_)));unfold setDrawn;refine wpAny_bind (wpAny_bind (wpAny_setState_of ho hd g.fits (wpAny_bind (iC (wpAny_pure ?_)))));show wpAny _ _ (if(!w.params.followText "set-order" &&(!t.plain&&decide (es.size > 1)))=true then _ else _) _ _ s;by_cases hc:(!w.params.followText "set-order" &&(!t.plain&&decide (es.size > 1)))=true
 ·rw[if_pos hc]
  refine wpAny_bind (zdD es.size (List.range es.size) s (by simp) λjs d hj=> ?_);have hjl:js.length=es.size:=by have:=hj.length_eq;simpa using this
  refine wpAny_bind (wpAny_newObj_type ?_ (by show(List.map _ js).toArray.size<=sizeLine;rw[List.size_toArray,List.length_map,hjl];exact Nat.le_trans hz (by decide)));refine wpAny_bind (wpAny_setEpoch_of (Heap.get?_push_of_some _ ho) hd g.fits ?_);refine wpAny_bind (wpAny_newObj_type ?_ (by size_fits));generalize ht:({cls:= .type "tuple",data:= .seq (js.map λ(i:Nat)=>rawInt i).toArray} :Obj)=ot;have e1:(s.heap.push ot).get? s.heap.objs.size=some ot:=Heap.get?_push_size _ (by subst ht;rfl);refine wpAny_pure ⟨_,rfl,"set_iterator",_,⟨_,Heap.get?_push_size _ rfl,rfl⟩,tB.lookup,h _ _ [(s.heap.push ot).objs.size,a,s.heap.objs.size] (js.map λj=>(es.getD j default).2) (λi h=>SI (s.heap.push ot).objs.size a (.ref s.heap.objs.size) i es.size ep h/\At a es ep t h/\h.IsTuple s.heap.objs.size (js.map λ(j:Nat)=>rawInt j).toArray) ?_⟩;have sz:(s.heap.push ot).objs.size=s.heap.objs.size+1:=Heap.size_push ..;refine⟨λb o e=>Heap.get?_push_of_some _ (Heap.get?_push_of_some _ e),by rw[sz];omega,λb hb=> ?_,⟨rfl,rfl,rfl⟩,?_,zrd (t:=t) (ep:=ep) (by rw[sz];exact Nat.ne_of_lt (Nat.lt_succ_of_lt hal)) (by rw[sz];exact Nat.ne_of_lt (Nat.lt_succ_self _)) g.fits hj,⟨_,Heap.get?_push_size _ rfl,rfl,rfl⟩,y.keep λo e=>Heap.get?_push_of_some _ (Heap.get?_push_of_some _ e),⟨ot,Heap.get?_push_of_some _ e1,by subst ht;exact⟨rfl,_,rfl⟩⟩⟩
  ·simp only[List.mem_cons,List.not_mem_nil,or_false]at hb
   rcases hb with rfl | rfl | rfl
   ·rw[sz];exact .inr (Nat.le_succ _)
   ·exact .inl rfl
   ·exact .inr (Nat.le_refl _)
  ·rw[<- zlb];exact hj.map _
 ·rw[if_neg hc]
  refine wpAny_bind (wpAny_pure (wpAny_bind (wpAny_setEpoch_of ho hd g.fits ?_)));refine wpAny_bind (wpAny_newObj_type ?_ (by size_fits));have ne:a≠s.heap.objs.size:=Nat.ne_of_lt hal;have keep: ∀(oI:Obj) b o,s.heap.get? b=some o->(s.heap.push oI).get? b=some o:=λoI b o e=>Heap.get?_push_of_some _ e;have foot: ∀b∈ [s.heap.objs.size,a],b=a∨s.heap.objs.size<=b:=λb hb=>by
   simp only[List.mem_cons,List.not_mem_nil,or_false]at hb;rcases hb with rfl | rfl
   ·exact .inr (Nat.le_refl _)
   ·exact .inl rfl
  cases hT:w.params.followText "set-order" with
  | true=>
   exact wpAny_pure ⟨_,rfl,"set_iterator",_,⟨_,Heap.get?_push_size _ rfl,rfl⟩,tB.lookup,h _ _ _ _ _ ⟨keep _,Nat.le_refl _,foot,⟨rfl,rfl,rfl⟩,(zoy _ es).map _,zrf (t:=t) (ep:=ep) ne g.fits hT,⟨_,Heap.get?_push_size _ rfl,rfl,rfl⟩,y.keep λo e=>Heap.get?_push_of_some _ e⟩⟩
  | false=>
   rw[hT]at hc g;have hp:(!t.plain&&decide (es.size > 1))=false:=by simpa using hc
   exact wpAny_pure ⟨_,rfl,"set_iterator",_,⟨_,Heap.get?_push_size _ rfl,rfl⟩,tB.lookup,h _ _ _ _ _ ⟨keep _,Nat.le_refl _,foot,⟨rfl,rfl,rfl⟩,List.Perm.refl _,zre (ep:=ep) ne g hT hp,⟨_,Heap.get?_push_size _ rfl,rfl,rfl⟩,y.keep λo e=>Heap.get?_push_of_some _ e⟩⟩
theorem zlh {a:Addr}{Q:Bool->Shared->Prop}(hT:s.TypeIs (.ref a) "set")(h:Q false s):wpAny (model prog w) A (Builtin.List.listLengthHint (.ref a)) Q E s:=by
 unfold Builtin.List.listLengthHint;refine wpAny_bind (wpAny_specialOf hT F.slot_set_len.lookup ?_);generalize hid:("set.__len__" :String)=nm
 wp_delta
 rw[show splitId nm=some ("set","__len__")from by subst hid;decide+kernel];subst hid;refine wpAny_bind (wpAny_isInstance (T:= "set") (b:=true) hT sub_set_self ?_);refine wpAny_ite_split (λz=>absurd z (by decide)) (λ_=> ?_);refine wpAny_ite_split (λ_=> ?_) (λz=>absurd (by decide+kernel) z);exact wpAny_bind (wpAny_typeOf hT (wpAny_pure h))
theorem zkM {a:Addr}{es:Array (Int×Value)}{ep:Nat}{t:SetTable}{R:Result->Shared->Prop}(hh:A.handled=none)(y:At a es ep t s.heap)(g:wJ (!w.params.followText "set-order") es.size t)(hz:es.size<=1000)(S:Addr)(hSa:S≠a)(res:Value)(c:Nat)
  (hS:s.heap.get? S=some {cls:= .type "list",data:= .seq #[] c})
  (hR: ∀s' acc c',(∀b o,b≠S->s.heap.get? b=some o->s'.heap.get? b=some o)->s'.heap.get? S=some {cls:= .type "list",dict:=none,data:= .seq acc c',slots:= #[]} ->acc.toList.Perm (es.toList.map (·.2))->s'.gens=s.gens/\s'.os=s.os/\s.toks<=s'.toks->R (.ok (.ret res)) s'):
  wpAny (model prog w) A.in1 (Builtin.List.listExtendWith (.ref S) (.ref a) res) (λfin s'=>match fin with | .done f=>R (.ok f) s' | .again c'=>c'.quiet=true/\codeAny (model prog w) A c' R s') (λe s'=>R (.error e) s') s:=by
 obtain⟨⟨o,ho,hx,hd⟩⟩:=id y;have hT:s.TypeIs (.ref a) "set" :=⟨o,ho,hx.1⟩;have hSl:S < s.heap.objs.size:=Heap.lt_size hS;unfold Builtin.List.listExtendWith;refine wpAny_bind (wpAny_typeOf hT ?_);have h1:Builtin.List.listSameRef (.ref S) (.ref a)=false:=by simp[Builtin.List.listSameRef,hSa]
 simp only[h1,show(Value.type "set" ==Value.type "list")=false by decide,show(Value.type "set" ==Value.type "tuple")=false by decide,Bool.or_false,Bool.false_eq_true,if_false];refine wpAny_bind (zl3 y g hz λI s1 fp ord St bg=> ?_);have hS1:=bg.keep _ _ hS;have hT1:s1.TypeIs (.ref a) "set" :=⟨o,bg.keep _ _ ho,hx.1⟩;have hSf:S∉fp:=λz=>by
  rcases bg.foot S z with e | e
  ·exact hSa e
  ·exact absurd hSl (Nat.not_lt.mpr e)
 have ol:ord.length=es.size:=by have:=bg.perm.length_eq;simpa using this
 refine wpAny_bind (wpAny_holding (zlh hT1 ?_));refine wpAny_ite_split (λ_=> ?_) (λz=>absurd (by decide) z);refine wpAny_bind (wpAny_rule (wpAny_bind ?_));show wpAny _ _ (updateSeq S (·.push .none) >>= λ_=>updateSeq S (·.pop)) _ _ _;refine wpAny_bind (wpAny_updateSeq hS1 rfl ?_);have hS2:=Heap.get?_update_self (Obj.mapSeq (·.push Value.none)) hS1 rfl;refine wpAny_updateSeq (hz:=by seq_fits) hS2 rfl ?_;have hS3:=Heap.get?_update_self (Obj.mapSeq (·.pop)) hS2 rfl;have ot: ∀b ob,b≠S->s1.heap.get? b=some ob->((s1.heap.update S (Obj.mapSeq (·.push Value.none))).update S (Obj.mapSeq (·.pop))).get? b=some ob:=λb ob hb e=>
  (Heap.get?_update_other _ _ (Ne.symm hb)).trans ((Heap.get?_update_other _ _ (Ne.symm hb)).trans e)
 refine wpAny_pure ⟨plainId_quiet F.plain_extend_loop _,?_⟩;have W:=bg.walk A.in1 hh;refine codeAny_extend_loopS W.toS (by rw[ol];exact Nat.le_trans hz (by decide)) S hSf res ord.length 0 _ #[] _ rfl (Nat.zero_le _) (W.frame 0 _ _ bg.st λb hb ob e=>ot b ob (λz=>hSf (z▸hb)) e) hS3 (ItemsOf.nil _) λs' acc c' hm hS' hacc=> ?_;have ea:acc.toList=ord:=by
  apply List.ext_getElem?;intro i;by_cases hi:i < acc.size
  ·have e1:acc[i]?=some acc[i]:=Array.getElem?_eq_getElem hi
   have:=hacc.2 i _ e1;rw[Array.getElem?_toList,e1,this]
  ·rw[Array.getElem?_toList,Array.getElem?_eq_none (by omega),List.getElem?_eq_none (by rw[<- hacc.1];omega)]
 refine hR s' acc c' (λb ob hb e=>hm.heap b ob (λz=> ?_) (ot b ob hb (bg.keep b ob e))) hS' (by rw[ea];exact bg.perm) ?_
 ·rcases List.mem_cons.mp z with z | z
  ·exact hb z
  ·exact absurd (Heap.lt_size e) (Nat.not_lt.mpr (by rw[List.mem_singleton.mp z];exact bg.fresh))
 ·obtain⟨g1,g2,g3⟩:=bg.same
  exact⟨Eq.trans hm.gens g1,Eq.trans hm.os g2,by have:=hm.toks;rw[<- g3];exact this⟩
theorem collect_set {a:Addr}{es:Array (Int×Value)}{ep:Nat}{t:SetTable}{R:List Value->Shared->Prop}(hh:A.handled=none)(y:At a es ep t s.heap)(g:wJ (!w.params.followText "set-order") es.size t)(hz:es.size<=1000)
  (h: ∀(s':Shared) (vs:List Value),(∀b o,s.heap.get? b=some o->s'.heap.get? b=some o)->vs.Perm (es.toList.map (·.2))->s'.gens=s.gens/\s'.os=s.os/\s.toks<=s'.toks->R vs s'):wpAny (model prog w) A (collect (.ref a)) R E s:=by
 have hal:a < s.heap.objs.size:=let⟨⟨o,ho,_⟩⟩:=y;Heap.lt_size ho;unfold collect;refine wpAny_bind (wpAny_runValue (codeAny_builtin F.entry_proto_collect ?_));rw[Around.under_plainId F.plain_proto_collect _];show wpAny _ A.in1 (newList [] >>= λl=>again (.builtin "list.__iadd__" ⟨[l,.ref a],[]⟩)) _ _ s;refine wpAny_bind (wpAny_newObj_type ?_);refine wpAny_pure ⟨plainId_quiet F.plain_list_iadd _,codeAny_builtin F.entry_list_iadd ?_⟩;rw[Around.under_plainId F.plain_list_iadd _];have hS1:(s.heap.push {cls:= .type "list",data:= .seq ([]:List Value).toArray}).get? s.heap.objs.size=some {cls:= .type "list",data:= .seq #[]} :=Heap.get?_push_size _ rfl;show wpAny _ A.in1 (Builtin.List.listExtendWith (.ref s.heap.objs.size) (.ref a) (.ref s.heap.objs.size)) _ _ _;have key:=zkM (prog:=prog) (A:=A) (s:= {s with heap:=s.heap.push {cls:= .type "list",data:= .seq ([]:List Value).toArray}}) (R:=λq s'=> ∃acc c',q= .ok (.ret (.ref s.heap.objs.size))/\(∀b o,s.heap.get? b=some o->s'.heap.get? b=some o)/\
   s'.heap.get? s.heap.objs.size=some {cls:= .type "list",dict:=none,data:= .seq acc c',slots:= #[]} /\acc.toList.Perm (es.toList.map (·.2))/\s'.gens=s.gens/\s'.os=s.os/\s.toks<=s'.toks) hh (y.keep λo e=>Heap.get?_push_of_some _ e) g hz s.heap.objs.size (Nat.ne_of_gt hal) (.ref s.heap.objs.size) 0 hS1
  (λs' acc c' k k2 pm sm=>⟨acc,c',rfl,λb o e=>k b o (Nat.ne_of_lt (Heap.lt_size e)) (Heap.get?_push_of_some _ e),k2,pm,sm⟩)
 refine wpAny_mono key (λfin s' x=> ?_) λe s' x=> ?_
 ·cases fin with
  | done f=>
   obtain⟨acc,c',e,k,k2,pm,sm⟩:=x;cases e;exact wpAny_bind (wpAny_load k2 (wpAny_pure (h s' acc.toList k pm sm)))
  | again c1=>
   refine⟨x.1,codeAny_mono x.2 λq s2 x=> ?_⟩;obtain⟨acc,c',rfl,k,k2,pm,sm⟩:=x;exact wpAny_bind (wpAny_load k2 (wpAny_pure (h s2 acc.toList k pm sm)))
 ·obtain⟨_,_,e',_⟩:=x
  cases e'
end
end Sets
namespace Sets
open PySem PyProof.Rows
section
variable {prog:Program} {w:World} {A:Around} {E:Value->Shared->Prop} {s:Shared}
abbrev uU (led:Bool):Obj:= {cls:= .type "set",dict:=none,data:= .set #[] 0 (.fresh 0 0 led)}
abbrev vD (w:World):Bool:= !w.params.followText "set-order"
theorem zmG (arg:Value){Q:Value->Shared->Prop}(h:Q (.ref s.heap.objs.size) {s with heap:=s.heap.push (uU (vD w))}):codeAny (model prog w) A (.call (.builtin "set.__new__") ⟨[.type "set",arg],[]⟩) (wants Q E) s:=by
 refine codeAny_of_tree ?_;show wpAny _ A.in1 (do checkBuiltinCall "set.__new__" ⟨[.type "set",arg],[]⟩;again (.builtin "set.__new__" ⟨[.type "set",arg],[]⟩)) _ _ s;refine wpAny_bind (wpAny_of_eq (F.newCall_set_1 arg) (wpAny_pure ⟨plainId_quiet F.plain_set_new _,codeAny_builtin F.entry_set_new ?_⟩));rw[Around.under_plainId F.plain_set_new _];unfold Builtin.«set.__new__» Builtin.Frozenset.newClass;have hsub:=sub_set_self;obtain⟨hp,g,d,tk,os⟩:=s;dsimp only
 wp_walk
 refine wpAny_askSetting (wpAny_pure ?_);dsimp only;simp only[newObj];refine wpAny_bind (wpAny_alloc (wpAny_pure ?_));exact wpAny_pure h
theorem zj0 {arg:Value}{Post:Shared->Prop}{Q:Value->Shared->Prop}(hh:A.handled=none)
  (hu: ∀(B:Around) (X:Value->Shared->Prop) (R:Unit->Shared->Prop),B.handled=none->(∀s',Post s'->R () s')->wpAny (model prog w) B (Builtin.Frozenset.updateFrom "set.__init__" s.heap.objs.size arg) R X {s with heap:=s.heap.push (uU (vD w))})
  (h: ∀s',Post s'->Q (.ref s.heap.objs.size) s'):wpAny (model prog w) A (call (.type "set") [arg]) Q E s:=by
 obtain⟨c,tl,hmro⟩:=F.called_set.mro;have hmade:=F.called_set.made;have hsub:=F.called_set.sub;refine wpAny_call (codeAny_of_tree ?_);show wpAny _ _ (callAny (.type "set") _) _ _ _;refine wpAny_pure ⟨Code.quiet_builtin _ (by decide+kernel),codeAny_builtin F.entry_type_call ?_⟩;rw[Around.under_plain (weight_type_call_type "set" [arg] []) rfl];have h1:=F.called_set.notType;have h2:=F.called_set.canCreate;have hct:=F.typeCall_set_1 arg
 repeat(any_goals (first | assumption | wp_step))
 refine codeAny_mono (zmG arg (E:=E) (Q:=λobj u=>obj= .ref s.heap.objs.size/\u= {s with heap:=s.heap.push (uU (vD w))}) ⟨rfl,rfl⟩) λr u hr=> ?_;cases r with
 | error e=>exact hr
 | ok fl=>
  cases fl with
  | ret obj=>
   obtain⟨rfl,rfl⟩:=hr;have hS:(s.heap.push (uU (vD w))).get? s.heap.objs.size=some (uU (vD w)):=Heap.get?_push_size _ rfl;have hT:Shared.TypeIs {s with heap:=s.heap.push (uU (vD w))} (.ref s.heap.objs.size) "set" :=⟨_,hS,rfl⟩;have hli:=F.called_set.init.lookup;have hbi:=F.called_set.init.bind (.ref s.heap.objs.size)
   repeat(any_goals (first | assumption | wp_step))
   refine codeAny_mono (codeAny_call_builtin (R:=wants (λr u=>r= .none/\Post u) E) F.called_set.init.plain F.entry_set_init (check_set_init_1 hT ?_)) λr2 s2 hr2=> ?_
   ·unfold Builtin.«set.__init__» noKeywords
    have hu':=hu;generalize Builtin.Frozenset.updateFrom=U at hu'⊢
    wp_walk
    exact hu' _ _ _ (by simp[hh]) λs' hP=>wpAny_pure ⟨rfl,hP⟩
   ·cases r2 with
    | error e=>exact hr2
    | ok fl2=>
     cases fl2 with
     | ret r=>
      obtain⟨rfl,hP⟩:=hr2
      repeat(any_goals (first | assumption | wp_step))
      exact h _ hP
     | _=>exact hr2.elim
  | _=>exact hr.elim
end
inductive Two {α β:Type}(R:α->β->Prop):List α->List β->Prop
 | nil:Two R [] []
 | cons {a:α} {b:β} {l:List α} {m:List β} :R a b->Two R l m->Two R (a::l) (b::m)
theorem Two.perm {α β:Type}{R:α->β->Prop}{l l':List α}(p:l'.Perm l): ∀{m:List β},Two R l m->∃m',m'.Perm m/\Two R l' m':=by
 induction p with
 | nil=>intro m h;exact⟨m,List.Perm.refl _,h⟩
 | cons x _ ih=>
  intro m h;cases h with
  | cons r t=>
   obtain⟨m',p',h'⟩:=ih t;exact⟨_,p'.cons _,.cons r h'⟩
 | swap x y l=>
  intro m h;cases h with
  | cons r t=>
   cases t with
   | cons r' t=>exact⟨_,List.Perm.swap _ _ _,.cons r' (.cons r t)⟩
 | trans _ _ ih1 ih2=>
  intro m h;obtain⟨m1,p1,h1⟩:=ih2 h;obtain⟨m2,p2,h2⟩:=ih1 h1;exact⟨m2,p2.trans p1,h2⟩
theorem Two.append {α β:Type}{R:α->β->Prop}{l l':List α}{m m':List β}(h:Two R l m)(h':Two R l' m'):Two R (l++l') (m++m'):=by
 induction h with
 | nil=>exact h'
 | cons r _ ih=>exact .cons r ih
theorem Two.map {α β γ:Type}{R:α->β->Prop}{S:γ->β->Prop}{f:α->γ}(hf: ∀a b,R a b->S (f a) b){l:List α}{m:List β}(h:Two R l m):Two S (l.map f) m:=by
 induction h with
 | nil=>exact .nil
 | cons r _ ih=>exact .cons (hf _ _ r) ih
theorem Two.len {α β:Type}{R:α->β->Prop}{l:List α}{m:List β}(h:Two R l m):l.length=m.length:=by
 induction h with
 | nil=>rfl
 | cons _ _ ih=>rw[List.length_cons,List.length_cons,ih]
def addK {K:Type}[DecidableEq K](ds:List K)(k:K):List K:=if k∈ds then ds else ds++ [k]
def dd {K:Type}[DecidableEq K](ks:List K):List K:=ks.foldl addK []
theorem ziP {K:Type}[DecidableEq K]{ds:List K}{k:K} :(addK ds k).length<=ds.length+1:=by
 unfold addK
 split
 ·exact Nat.le_succ _
 ·rw[List.length_append];exact Nat.le_refl _
theorem zeS {K:Type}[DecidableEq K]: ∀(ks:List K) {ds:List K},(ks.foldl addK ds).length<=ds.length+ks.length
 | [],_=>Nat.le_refl _
 | k::ks,ds=>by
  have h1:=zeS ks (ds:=addK ds k);have h2:=ziP (ds:=ds) (k:=k);rw[List.foldl_cons,List.length_cons];omega
section
variable {prog:Program} {w:World} {K:Type} [DecidableEq K] (knd:KeyKind prog w K)
def jZ (e:Int×Value)(k:K):Prop:=knd.is k e.2=true/\e.1=knd.hash k/\e.2.scannable=true
def Ents (es:Array (Int×Value))(ds:List K):Prop:= ∃ds':List K,ds'.Perm ds/\Two (jZ knd) es.toList ds'
variable {knd}
theorem zqD {l:List (Int×Value)}{ds:List K}(h:Two (jZ knd) l ds):ElemsOf knd l:=by
 induction h with
 | nil=>intro e he;cases he
 | cons r _ ih=>
  intro e he;rcases List.mem_cons.mp he with rfl | he
  ·exact⟨⟨_,r.1,r.2.1⟩,r.2.2⟩
  ·exact ih e he
theorem zqC {l:List (Int×Value)}{ds:List K}(h:Two (jZ knd) l ds)(k:K):(l.any λe=>knd.is k e.2)=decide (k∈ds):=by
 induction h with
 | nil=>rfl
 | cons r _ ih=>
  rw[List.any_cons,ih,KeyKind.is_eq_decide r.1 k];simp[List.mem_cons]
theorem Ents.elems {es:Array (Int×Value)}{ds:List K}(h:Ents knd es ds):ElemsOf knd es.toList:=let⟨_,_,t⟩:=h;zqD t
theorem Ents.size {es:Array (Int×Value)}{ds:List K}(h:Ents knd es ds):es.size=ds.length:=by
 obtain⟨ds',p,t⟩:=h;have:=t.len;rw[Array.length_toList]at this;rw[this,p.length_eq]
theorem Ents.add {es es':Array (Int×Value)}{ds:List K}{k:K}{x:Value}(h:Ents knd es ds)(hk:knd.is k x=true)(hc:x.scannable=true)(e:if es.toList.any (λe=>knd.is k e.2)=true then es'=es else es'.toList.Perm (es.toList++ [(knd.hash k,x)])):Ents knd es' (addK ds k):=by
 obtain⟨ds',p,t⟩:=h;rw[zqC t]at e;unfold addK;by_cases hm:k∈ds
 ·rw[if_pos hm]
  rw[decide_eq_true (p.mem_iff.mpr hm),if_pos rfl]at e;rw[e];exact⟨ds',p,t⟩
 ·rw[if_neg hm]
  rw[decide_eq_false (λz=>hm (p.mem_iff.mp z)),if_neg Bool.false_ne_true]at e;obtain⟨m',p',t'⟩:=(t.append (.cons ⟨hk,rfl,hc⟩ .nil:Two (jZ knd) [(knd.hash k,x)] [k])).perm e;exact⟨m',p'.trans (p.append (List.Perm.refl _)),t'⟩
end
end Sets
namespace Sets
open PySem PyProof.Rows
section
variable {prog:Program} {w:World} {A:Around} {E:Value->Shared->Prop} {s:Shared} {K:Type} [DecidableEq K] {knd:KeyKind prog w K}
def Holds (knd:KeyKind prog w K)(a:Addr)(ds:List K)(h:Heap):Prop:= ∃es,r6 (vD w) a es h/\Ents knd es ds
theorem Holds.keep {a:Addr}{ds:List K}{h h':Heap}(x:Holds knd a ds h)(k: ∀o,h.get? a=some o->h'.get? a=some o):Holds knd a ds h':=let⟨es,y,z⟩:=x;⟨es,y.keep k,z⟩
theorem ziQ {a:Addr}{ds:List K}{k:K}{x:Value}{Q:Bool->Shared->Prop}(hk:knd.is k x=true)(hc:x.scannable=true)(hS:Holds knd a ds s.heap)(hz:ds.length+1 < scanBound)
  (h: ∀(b:Bool) h',Heap.SameBut a s.heap h'->Holds knd a (addK ds k) h'->Q b {s with heap:=h'}):wpAny (model prog w) A (setAddHashed a x (knd.hash k)) Q E s:=by
 obtain⟨es,y,z⟩:=hS;exact ziR hk hc z.elems y (by rw[z.size];exact hz) λb h' es' sb si e=>h b h' sb ⟨es',si,z.add hk hc e⟩
theorem zli {a:Addr}{h:Heap}(e:h.get? a=some (uU (vD w))):Holds knd a [] h:=
 ⟨#[],⟨_,0,_,e,⟨rfl,rfl,rfl⟩,rfl,⟨rfl,rfl,λi j hi=>by simp[SetTable.fresh]at hi,rfl⟩⟩,[],List.Perm.refl _,.nil⟩
end
end Sets
namespace Sets
open PySem PyProof.Rows
theorem ziN: ∀n,n < 130->SetTable.sizeAbove n<=1024:=by decide+kernel
theorem zlM (mask finger moves:Nat)(led plain:Bool):SetTable.laid mask finger moves led plain (#[]:Array Int)=some ({mask,place:= #[],dummies:= #[],finger,led,moves,plain},#[]):=by
 unfold SetTable.laid SetTable.layClean;have e:(List.range (mask+1)).filterMap (λj=>((Array.replicate (mask+1) (none:Option Nat)).getD j none).map (j,·))= []:=by
  refine List.filterMap_eq_nil_iff.mpr λj hj=> ?_;have:(Array.replicate (mask+1) (none:Option Nat)).getD j none=none:=by simp[Array.getD]
  rw[this];rfl
 simp;intro a ha;simp[ha]
section
variable {prog:Program} {w:World} {A:Around} {E:Value->Shared->Prop} {s:Shared} {K:Type} [DecidableEq K] {knd:KeyKind prog w K}
theorem zp1 {a:Addr}{more:Nat}{R:Unit->Shared->Prop}(hS:s.heap.get? a=some (uU (vD w)))(hm:more<=64)(h: ∀h',Heap.SameBut a s.heap h'->Holds knd a [] h'->R () {s with heap:=h'}):wpAny (model prog w) A (setRoomFor a more) R E s:=by
 have hf:(SetTable.fresh 0 0 (vD w)).fits (#[]:Array (Int×Value)).size=true:=rfl;unfold setRoomFor;refine wpAny_bind (wpAny_setState_of hS rfl hf ?_);have e0:s= {s with heap:=s.heap} :=by cases s;rfl
 unfold SetTable.roomFor
 split
 ·rename_i wanted q
  split at q
  ·cases q
   have hw:(SetTable.fresh 0 0 (vD w)).place.size=0:=rfl;unfold setRelay;refine wpAny_bind (wpAny_setState_of hS rfl hf ?_);dsimp only;rw[if_neg (by rw[hw];have:=ziN ((0+more) * 2) (by omega);exact Nat.not_lt.mpr (Nat.le_trans this (by decide)))];unfold SetTable.relaid;rw[show(Array.map (λx:Int×Value=>x.1) #[])= #[] by simp,zlM];refine wpAny_bind (wpAny_pure ?_);dsimp only;rw[show Array.filterMap (λx:Nat=>(#[]:Array (Int×Value))[x]?) #[]= #[] by simp];refine wpAny_storeSet_of hS rfl ?_ (Nat.zero_le _);refine h _ (Heap.SameBut.update ..) ⟨#[],?_,[],List.Perm.refl _,.nil⟩;refine(zb5 (led:=vD w) hS ⟨rfl,rfl,rfl⟩ rfl (es':= #[]) ⟨?_,rfl,λi j hi=>by simp at hi,rfl⟩).2;show(decide _&&decide _)=true;simp[SetTable.fill]
  ·cases q
 ·rw[e0]
  exact wpAny_pure (h _ (Heap.SameBut.refl _ _) (zli hS))
theorem set_dict {d:Addr}{kvs:List (K×Value)}{ep:Nat}{Q:Value->Shared->Prop}(hh:A.handled=none)(hd:s.heap.DictAt knd d kvs ep)(hsys:(d==sysModules)=false)(hc: ∀k v,knd.is k v=true->v.scannable=true)(hz:kvs.length<=64)
  (h: ∀h' tk,(∀b o,s.heap.get? b=some o->h'.get? b=some o)->Holds knd s.heap.objs.size (dd (kvs.map (·.1))) h'->Q (.ref s.heap.objs.size) {s with heap:=h',toks:=tk}):wpAny (model prog w) A (call (.type "set") [.ref d]) Q E s:=by
 refine zj0 (Post:=λs'=> ∃h' tk,s'= {s with heap:=h',toks:=tk} /\(∀b o,s.heap.get? b=some o->h'.get? b=some o)/\Holds knd s.heap.objs.size (dd (kvs.map (·.1))) h') hh (λB X R hB hR=> ?_) λs' ⟨h',tk,e,k,hS⟩=>by subst e;exact h h' tk k hS
 obtain⟨od,es,hod,hxd,hdd,hks,hps,hnd⟩:=id hd;have hlS:d < s.heap.objs.size:=Heap.lt_size hod;have hS:(s.heap.push (uU (vD w))).get? s.heap.objs.size=some (uU (vD w)):=Heap.get?_push_size _ rfl;have hod1:(s.heap.push (uU (vD w))).get? d=some od:=Heap.get?_push_of_some _ hod;have hT:Shared.TypeIs {s with heap:=s.heap.push (uU (vD w))} (.ref d) "dict" :=⟨od,hod1,hxd.1⟩;have i1:=F.sub_dict_set;have i2:=F.sub_dict_frozenset;have sz:es.size=kvs.length:=by rw[<- hps.length];simp
 unfold Builtin.Frozenset.updateFrom;generalize hRF:setRoomFor=RF
 wp_walk
 subst hRF;rw[hdd];refine wpAny_pure (wpAny_bind (wpAny_dictEntries hod1 hdd (wpAny_bind (zp1 (knd:=knd) hS (by rw[sz];exact hz) λh1 sb1 hS1=> ?_))));have nS:d≠s.heap.objs.size:=Nat.ne_of_lt hlS;refine wpAny_bind (wpAny_dictEntries ((sb1.2 d nS).trans hod1) hdd ?_);have low: ∀h':Heap,Heap.SameBut s.heap.objs.size h1 h'->∀b o,s.heap.get? b=some o->h'.get? b=some o:=λh' sb b o e=>by
  have hb:b≠s.heap.objs.size:=Nat.ne_of_lt (Heap.lt_size e);exact(sb.2 b hb).trans ((sb1.2 b hb).trans (Heap.get?_push_of_some _ e))
 rw[Std.Legacy.Range.forIn_eq_forIn_range'];refine wpAny_bind (wpAny_forIn_list _ (λzB _ u=> ∃i h',i+zB.length=es.size/\zB=List.range' i zB.length/\u= {s with heap:=h'} /\Heap.SameBut s.heap.objs.size h1 h'/\Holds knd s.heap.objs.size (((kvs.map (·.1)).take i).foldl addK []) h') _ ?_ ?_ _ _ ?_)
 ·rintro x zB b u ⟨i,h',hi,hr,rfl,sb,hh'⟩
  rw[List.length_cons]at hi hr;rw[List.range'_succ]at hr;injection hr with e1 e2
  subst e1;have hlt:x < es.size:=by omega
  have hx:x < kvs.length:=by omega
  have hod':h'.get? d=some od:=(sb.2 d nS).trans ((sb1.2 d nS).trans hod1);refine wpAny_bind (wpAny_dictEntries hod' hdd ?_);rw[Array.getElem?_eq_getElem hlt];dsimp only;obtain⟨k,hk,hhash⟩:=hks es[x] (by simp);have ek:k=kvs[x].1:=by
   have h3:=(hps.get? (i:=x) (e:=es[x]) (k:=kvs[x].1) (v:=kvs[x].2) (by simp[hlt]) (by simp[hx])).1;exact knd.inj _ _ _ hk h3
  rw[hhash];have hl:(((kvs.map (·.1)).take x).foldl addK []).length<=x:=by
   have:=zeS ((kvs.map (·.1)).take x) (ds:= []);rw[List.length_nil,Nat.zero_add,List.length_take]at this;omega
  refine wpAny_bind (wpAny_holding (ziQ (s:= {s with heap:=h'}) hk (hc k _ hk) hh' (by unfold scanBound;omega) λb2 h2 sb2 hh2=> ?_));refine wpAny_bind (wpAny_dictEpoch ((sb2.2 d nS).trans hod') hdd ?_);rw[if_neg (by simp)];refine wpAny_pure ⟨x+1,h2,by omega,e2,rfl,sb.trans sb2,?_⟩;have e3:addK (((kvs.map (·.1)).take x).foldl addK []) k=((kvs.map (·.1)).take (x+1)).foldl addK []:=by
   rw[List.take_succ,List.foldl_append,List.getElem?_map,List.getElem?_eq_getElem hx,ek];rfl
  rw[e3]at hh2;exact hh2
 ·rintro b u ⟨i,h',hi,hr,rfl,sb,hh'⟩
  have:i=kvs.length:=by simp at hi;omega
  subst this;rw[List.take_of_length_le (by simp)]at hh';exact wpAny_pure (hR _ ⟨h',s.toks,rfl,low h' sb,hh'⟩)
 ·refine⟨0,h1,by simp,by simp,rfl,Heap.SameBut.refl _ _,hS1⟩
end
end Sets
namespace L2
open PySem PySem.Spec PyProof.Rows
section
variable {X:Cx} {pins:List (Addr×Obj)} {σ:St} {H:Hp} {s s':Shared}
theorem zls (I:z5 X pins σ H {s with heap:=s'.heap})(e:s'.gens=s.gens/\s'.os=s.os):z5 X pins σ H s':=
 ⟨I.ok,e.2.trans I.os,by rw[e.1];exact I.bare,I.base,I.loc,I.cell,I.free,I.freeC,I.pin,I.hok,I.len⟩
theorem zmv {P:Program}{w:World}(k:zA)(v:Value)(h:(yW P w).is k v=true):v.scannable=true:=by
 rcases vO h with⟨i,t,rfl,rfl⟩ | ⟨x,t,rfl,rfl⟩ <;> rfl
def gZ (P:Program)(w:World)(a:Addr)(ds:List zA):HO:= .ext (Sets.Holds (yW P w) a ds)
theorem zpP {P:Program}{w:World}{H:Hp}{a:Addr}{ds:List zA}{h:Heap}(x:Sets.Holds (yW P w) a ds h):xX P w H h a (gZ P w a ds):=
 ⟨x,let⟨es,⟨o,_,_,e,_⟩,_⟩:=x;⟨o,e⟩,λh1 h2 y k=>y.keep k⟩
theorem zj1 (hc:X.calm=true):xB X (.type "set") (λxs H Q=> ∃(d:Addr) (kvs:List (zA×V)),xs= [.ref d]/\H d=some (.dK kvs)/\kvs.length<=64/\∀p,H p=none->Q (.ref p) (zQ H p (gZ X.prog X.w p (Sets.dd (kvs.map (·.1)))))):=by
 intro pins s σ H xs us Q I r h;obtain⟨d,kvs,rfl,hd,hz,q⟩:=h;obtain⟨u,rfl,ru⟩:=vK r;cases ru;obtain⟨_,hsys,vs,kv,dd⟩:=pK I.hok hd;have hl:=kP kv;obtain⟨o,es0,ep,e1,e2,e3,e4,e5,e6⟩:=id dd;refine Sets.set_dict (knd:=yW X.prog X.w) (kvs:=vs) (ep:=ep) (I.ok.hd hc) ⟨o,es0,e1,e2,e3,e4,e5,e6⟩ hsys zmv (by omega) λh' tk k hS=> ?_;rw[<- kv.keys]at hS;exact⟨.ref s.heap.objs.size,_,I.laid (t':=tk) k (Nat.le_refl _) (zpP hS),rfl,q _ I.fresh⟩
theorem zhH: ∀{vs:List Value} {ss:List Str},Sets.Two (λv k=>sP k v=true) vs (ss.map Sum.inr)->StrsAre vs ss
 | [],[],_=> .nil
 | _::_,[],h=>nomatch h
 | [],_::_,h=>nomatch h
 | v::vs,x::ss,h=>by
  cases h with
  | cons r t=>
   rcases vO r with⟨i,t',e,rfl⟩ | ⟨y,t',e,rfl⟩
   ·cases e
   ·cases e;exact .cons _ t' (zhH t)
theorem zoh {α β:Type}{f:α->β}(g:β->α)(hg: ∀a,g (f a)=a){l:List α}{m:List β}(h:m.Perm (l.map f)): ∃l':List α,m=l'.map f/\l'.Perm l:=by
 refine⟨m.map g,?_,?_⟩
 ·rw[List.map_map]
  refine(List.map_id m).symm.trans (List.map_congr_left λx hx=> ?_);obtain⟨a,_,rfl⟩:=List.mem_map.mp (h.mem_iff.mp hx);show f a=f (g (f a));rw[hg]
 ·have:=h.map g
  rw[List.map_map,show g ∘ f=id from funext hg,List.map_id]at this;exact this
def unR:zA->Str | .inr x=>x | .inl _=>Str.empty
theorem zrb {P:Program}{w:World}{es:Array (Int×Value)}{ds:List zA}{vs:List Value}(h:Sets.Ents (yW P w) es ds)(p:vs.Perm (es.toList.map (·.2))): ∃ds',ds'.Perm ds/\Sets.Two (λv k=>sP k v=true) vs ds':=by
 obtain⟨d1,p1,t1⟩:=h;have t2:Sets.Two (λv k=>sP k v=true) (es.toList.map (·.2)) d1:=t1.map λa b r=>r.1;obtain⟨d2,p2,t3⟩:=t2.perm p;exact⟨d2,p2.trans p1,t3⟩
theorem zj4 (hc:X.calm=true):xB X (.builtin "sorted") (λxs H Q=> ∃(a:Addr) (ss:List Str),xs= [.ref a]/\H a=some (gZ X.prog X.w a (ss.map Sum.inr))/\ss.length < 64/\∀p ss',H p=none->ss'.Perm ss->sortedS ss'=true->Q (.ref p) (zQ H p (.lst (ss'.map V.str)))):=by
 intro pins s σ H xs us Q I r h;obtain⟨a,ss,rfl,ha,h64,q⟩:=h;obtain⟨u,rfl,ru⟩:=vK r;cases ru;obtain⟨es,⟨o,ep,t,ho,hx,hd,g⟩,en⟩:=(I.hok a _ ha).1;have hn:es.size=ss.length:=by rw[en.size,List.length_map]
 refine Calls.call_function_entry kind_sorted plain_sorted entry_sorted (args_sorted1 _) ?_;unfold Builtin.«sorted»;refine wpAny_bind (m:=checkCount "sorted" 1 1 _) (wpAny_pure ?_);refine wpAny_bind (Sets.collect_set (A:=X.A.in1) (ep:=ep) (t:=t) (I.ok.hd hc) ⟨o,ho,hx,hd⟩ g (by omega) λs1 vs k pm sm=> ?_);obtain⟨d2,p2,t2⟩:=zrb en pm;obtain⟨ss2,rfl,p3⟩:=zoh unR (λa=>rfl) p2;have hS:=zhH t2;have hvl:vs.length < 64:=by have:=pm.length_eq;simp at this;omega
 have I1:z5 X pins σ H s1:=zls (I.kept (t':=s.toks) k) ⟨sm.1,sm.2.1⟩;refine wpAny_bind (wpAny_newList ?_);have hL:(s1.heap.push (seqObj "list" vs.toArray 0)).get? s1.heap.objs.size=some (seqObj "list" vs.toArray 0):=Heap.get?_push_size _ rfl;refine wpAny_bind (wpAny_holding (wpAny_call_entry slot_list_sort ⟨_,hL,rfl⟩ entry_list_sort (list_sort_treeK strKind_oneLt (s:= {s1 with heap:=s1.heap.push (seqObj "list" vs.toArray 0)}) hL hS.keysOf (λv1 v2 zB e=>keyKind_strs (by rw[<- e];exact hS)) hvl λst' a1 a2=>⟨_,rfl,?_⟩) (args_list_sort _)));obtain⟨ss',h1,h2,h3⟩:=sorted_out_str hS a1 a2;obtain⟨e,he⟩:=sortedHeap_at (out:=(arrOf st').map (·.2)) hL;have kp: ∀b o,s1.heap.get? b=some o->(sortedHeap (s1.heap.push (seqObj "list" vs.toArray 0)) s1.heap.objs.size vs ((arrOf st').map (·.2))).get? b=some o:=λb o z=>by
  have hb:=Heap.lt_size z;rw[sortedHeap_old (Nat.ne_of_lt hb) (by rw[Heap.size_push];exact Nat.lt_succ_of_lt hb)];exact Heap.get?_push_of_some _ z
 refine wpAny_pure ⟨_,rfl,.ref s1.heap.objs.size,_,I1.laid (t':=s1.toks) (o:= .lst (ss'.map V.str)) kp (Nat.le_refl _) ⟨?_,((arrOf st').map (·.2)).toList,e,zc2 h1,?_⟩,rfl,q _ ss' I1.fresh (h2.trans p3) h3⟩
 ·rw[List.length_map,h2.length_eq,p3.length_eq];exact Nat.le_trans (Nat.le_of_lt h64) (by decide)
 ·rw[Array.toArray_toList];exact he
end
end L2
namespace L3
open PySem PySem.Spec PyProof.Rows L2
section
variable {X:Cx} {To:zG} {o:Expr} {p q pos ap:Pos}
end
end L3
set_option maxHeartbeats 1000000
namespace L3
section
variable {α:Type} [DecidableEq α] {w U u l:List α} {A B a b:Nat}
def gl (w:List α):Nat->List (Nat×Nat×List α)->List α
 | k,[]=>w.drop k
 | k,(a,b,u)::r=>(w.take a).drop k++u++gl w b r
variable {ds:List (Nat×Nat×List α)} {h k:Nat} {x:List α} {n:Nat}
end
end L3
set_option maxHeartbeats 4000000
namespace L2
open PySem PySem.Spec PyProof.Rows
section
variable {X:Cx}
def zpc:V->List V->Hp->VK->Prop:=λx vs H Q=> ∃(l:Addr) (xs:List V) (k:Nat) (y:V),x= .ref l/\vs= [.int (k:Nat),y]/\H l=some (.lst xs)/\k<=xs.length/\xs.length < sizeLine/\Q .non (zQ H l (.lst (xs.take k++y::xs.drop k)))
theorem zm1:eI X "list.insert" zpc:=by
 intro pins s σ H x vs v us Q I rx rv h;obtain⟨l,xs,k,y,rfl,rfl,hH,hk,hlt,q⟩:=h;cases rx;obtain⟨u0,u1,rfl,r0,r1⟩:=zR.two rv;obtain⟨tk,rfl⟩:=r0;obtain⟨z,its,n,r,hl,e⟩:=I.lstM hH;have hf:Builtin.List.listFitsIndex (k:Int)=true:=by
  have hs:(sizeLine:Int) < 2 ^ 63:=by decide
  exact fitsIndex_both (Int.le_trans (by decide: -(2:Int) ^ 63<=0) (Int.natCast_nonneg k)) (Int.lt_of_le_of_lt (Int.ofNat_le.mpr (Nat.le_trans hk (Nat.le_of_lt hlt))) hs)
 have hsz:its.toArray.size<=sizeLine:=by rw[List.size_toArray,<- hl];exact Nat.le_of_lt hlt
 obtain⟨x,hx⟩: ∃x:Int,x=(k:Int):=⟨_,rfl⟩;rw[<- hx]at hf⊢
 have ek:(if x < 0 then(x+(its.toArray.size:Int)).toNat else min x.toNat its.toArray.size)=k:=by rw[if_neg (by omega),List.size_toArray,hx,Int.toNat_natCast];omega
 refine call_meets PySem.F.slot_list_insert ⟨_,e,rfl⟩ PySem.F.entry_list_insert (PySem.F.args_list_insert_3 _ _ _) (PySem.AutoSeq1.list_insert_list_int_val_1 l its.toArray n x tk u1 (by simp[hf]) hsz) ⟨e,?_⟩;refine⟨.non,_,I.lset (its':=its.take k++u1::its.drop k) hH e ?_ ((r.take k).append (.cons r1 (r.drop k))) ?_,rfl,q⟩
 ·show(its.toArray.extract 0 (if x < 0 then(x+(its.toArray.size:Int)).toNat else min x.toNat its.toArray.size)).push u1++its.toArray.extract (if x < 0 then(x+(its.toArray.size:Int)).toNat else min x.toNat its.toArray.size)=_
  rw[ek];apply Array.toList_inj.mp;simp;exact List.take_of_length_le (by simp)
 ·rw[List.length_append,List.length_cons,List.length_take,List.length_drop];omega
end
end L2
namespace L3
open PySem PySem.Spec PyProof.Rows L2
section
variable {X:Cx}
def zpd:PV->y4:=λx xs st Q=> ∃(i k:Nat) (y:PV) (zs:List PV),x= .obj i/\xs= [.int (k:Nat),y]/\st[i]?=some (.lst zs)/\yQ y=true/\k<=zs.length/\zs.length < sizeLine/\Q .non (st.set i (.lst (zs.take k++y::zs.drop k)))
theorem zmK:tI X "list.insert" (pI X.K zpd):=by
 intro pins s σ H v vs vv us Q I rv rvs ⟨A,st,x,xs,Q3,rs,ex,exs,h,k⟩;obtain⟨i,n,y,zs,rfl,rfl,q,hn,hk,hl,h⟩:=h;obtain⟨w,w2,rfl,e1,ey⟩:=yU.two exs;cases x8 e1;cases ex with
 | val e=>cases e
 | obj eo=>
  have hm:=List.mem_of_getElem? eo;obtain⟨ws,h1,r,z⟩:=rs.at_ _ _ _ eo q;rw[r.len]at hl hk;refine zm1 pins s σ H _ _ vv us Q I rv rvs ⟨_,ws,n,w2,rfl,rfl,h1,hk,hl,k A _ _ _ _ (.put hm) (rs.put (q:= .lst (zs.take n++y::zs.drop n)) eo ⟨_,xM,((r.take n).grow (.put hm)).append (.cons ((ey.rv hn).grow (.put hm)) ((r.drop n).grow (.put hm))),?_⟩) (.val .non) h⟩;rw[List.length_append,List.length_cons,List.length_take,List.length_drop];omega
def zpn:PV->y4:=λx xs st Q=> ∃(i k:Nat) (y:PV) (zs:List PV),x= .obj i/\xs= [.int (k:Nat)]/\st[i]?=some (.lst zs)/\zs[k]?=some y/\Q y (st.set i (.lst (zs.eraseIdx k)))
theorem RVs.erase {K:Frag}{A:List Addr}{H:Hp} : ∀{xs:List PV} {vs:List V} (n:Nat),RVs K A H xs vs->RVs K A H (xs.eraseIdx n) (vs.eraseIdx n)
 | _,_,_,.nil=> .nil
 | _,_,0,.cons r t=>t
 | _,_,n+1,.cons r t=> .cons r (RVs.erase n t)
theorem zmQ:tI X "list.pop" (pI X.K zpn):=by
 intro pins s σ H v vs vv us Q I rv rvs ⟨A,st,x,xs,Q3,rs,ex,exs,h,k⟩;obtain⟨i,n,y,zs,rfl,rfl,q,hy,h⟩:=h;obtain⟨w,rfl,e1⟩:=yU.one exs;cases x8 e1;cases ex with
 | val e=>cases e
 | obj eo=>
  have hm:=List.mem_of_getElem? eo;obtain⟨ws,h1,r,z⟩:=rs.at_ _ _ _ eo q;obtain⟨u,hu,ru⟩:=r.get hy;have hlt:n < ws.length:=(List.getElem?_eq_some_iff.mp hu).1;have hi:((n:Nat):Int) < 2 ^ 63:=Int.lt_of_lt_of_le (Int.ofNat_lt.mpr (Nat.lt_of_lt_of_le hlt z)) (by decide);refine zm4 pins s σ H _ _ vv us Q I rv rvs ⟨_,ws,(n:Int),n,u,rfl,rfl,h1,Int.le_trans (by decide: -(2:Int) ^ 63<=0) (Int.natCast_nonneg n),hi,PySem.StrLaws.seqIndex_nonneg (Int.natCast_nonneg n) (Int.ofNat_lt.mpr hlt),hu,k A _ _ _ _ (.put hm) (rs.put (q:= .lst (zs.eraseIdx n)) eo ⟨_,xM,(r.erase n).grow (.put hm),?_⟩) (.val (ru.grow (.put hm))) h⟩;exact Nat.le_trans (List.length_eraseIdx_le ..) z
end
end L3
namespace L2
open PySem PySem.Spec PyProof.Rows
section
variable {X:Cx} {es:List Expr} {pos:Pos} {t:TA}
def zct (a:Addr)(ts:List String):HO:= .ext λh=>h.get? a=some {cls:= .type "tuple",data:= .seq (ts.map Value.type).toArray}
def zqz (t:TA):TE:=λσ H Q=>t σ H λxs H1=> ∃ts:List String,xs=ts.map V.ty/\ts.length<=sizeLine/\∀p,H1 p=none->Q (.ref p) (zQ H1 p (zct p ts))
theorem zin: ∀{ts:List String} {us:List Value},zR (ts.map V.ty) us->us=ts.map Value.type
 | [],_,.nil=>rfl
 | _::_,_,.cons r t=>by cases r;rw[List.map_cons,zin t]
theorem zof {x1}(h:PA X es t):PE X (.Tuple es x1 pos) (zqz t):=by
 (first | refine⟨?_⟩ | skip)
 intro pins s σ H Q I hq;refine wpAny_Tuple_spliced (y8 (h pos pins s σ H _ I hq) λus s1 ⟨xs,H1,I1,r,ts,e,z,q⟩=> ?_);subst e;cases zin r;refine⟨by rw[List.length_map];exact z,?_⟩;have hf:H1 s1.heap.objs.size=none:=I1.hok.fresh (Nat.le_refl _);refine⟨.ref s1.heap.objs.size,zQ H1 s1.heap.objs.size (zct s1.heap.objs.size ts),I1.laid (t':=s1.toks) (λb u e=>Heap.get?_push_of_some _ e) (Nat.le_refl _) ?_,rfl,q _ hf⟩;exact⟨Heap.get?_push_size _ rfl,⟨_,Heap.get?_push_size _ rfl⟩,λh1 h2 y k=>k _ y⟩
theorem zjv:xB X (.builtin "isinstance") (λxs H Q=> ∃(v:V) (a:Addr),xs= [v,.ref a]/\H a=some (zct a ["int","str"])/\((∃n,v= .int n)∨∃s,v= .str s)/\Q (.bl true) H):=by
 intro pins s σ H xs us Q I r h;obtain⟨v,a,rfl,ha,hv,q⟩:=h;obtain⟨u1,u2,rfl,r1,r2⟩:=jN r;cases r2;have e:=(I.hok a _ ha).1;rcases hv with⟨n,rfl⟩ | ⟨z,rfl⟩
 ·obtain⟨tk,rfl⟩:=r1
  exact IsiPair.tupleOf (Tx:= "int") (cs:= [.type "int",.type "str"]) (vs:= [true,false]) ⟨Answers.of_true F.isi_meta_int F.isi_self_int,Answers.of_false_int (by decide+kernel) F.isi_meta_str F.sub_int_str,trivial⟩ rfl e λtk=>⟨.bl true,H,I.tok tk,rfl,q⟩
 ·obtain⟨tk,rfl⟩:=r1
  exact IsiPair.tupleOf (Tx:= "str") (cs:= [.type "int",.type "str"]) (vs:= [false,true]) ⟨Answers.of_false_str (by decide+kernel) F.isi_meta_int F.sub_str_int,Answers.of_true F.isi_meta_str F.isi_self_str,trivial⟩ rfl e λtk=>⟨.bl true,H,I.tok tk,rfl,q⟩
theorem zjw:xB X (.builtin "isinstance") (λxs H Q=>xs= [.non,.ty "tuple"]/\Q (.bl false) H):=by
 intro pins s σ H xs us Q I r h;obtain⟨rfl,q⟩:=h;obtain⟨u1,u2,rfl,r1,r2⟩:=jN r;cases r1;cases r2;exact call_isinstance (isinstance_false_none (by decide+kernel) F.isi_meta_tuple F.sub_NoneType_tuple) ⟨.bl false,H,I.tok _,rfl,q⟩
end
end L2
namespace L3
open PySem PySem.Spec PyProof.Rows L2
section
variable {X:Cx} {Te:zG} {e:Expr} {p q r pos tp:Pos} {k:Nat}
def zqS (Te:zG):zG:=λenv st Q=>Te env st λx st'=>((∃n,x= .int n)∨∃z,x= .str z)/\Q (.bl true) st'
theorem zoK (hg:Gl X "isinstance")(hm:X.mg "isinstance" =none)(hi:Gl X "int")(mi:X.mg "int" =none)(hs:Gl X "str")(ms:X.mg "str" =none)(he:PE X e (zV X.K Te))
  (h1:starEach [e,.Tuple [.Name "int" q,.Name "str" r] k tp] X.env=(false,eval e X.env)::starEach [.Tuple [.Name "int" q,.Name "str" r] k tp] X.env:=by rfl)
  (h2:starEach [.Tuple [.Name "int" q,.Name "str" r] k tp] X.env=(false,eval (.Tuple [.Name "int" q,.Name "str" r] k tp) X.env)::starEach [] X.env:=by rfl) (hpl:(backTo pos (starEach [.Tuple [.Name "int" q,.Name "str" r] k tp] X.env)).any (·.1)=false:=by rfl):
  PE X (.Call (.Name "isinstance" p) [e,.Tuple [.Name "int" q,.Name "str" r] k tp] [] pos) (zV X.K (zqS Te)):=by
 refine xP (gC zjv hg hm boot_isinstance (xW he (xW (zof (xW (zbx (v:= .ty "int") hi mi PyProof.Rows.boot_int rfl (by decide) (by decide)) (xW (zbx (v:= .ty "str") hs ms PyProof.Rows.boot_str rfl (by decide) (by decide)) vQ rfl) rfl)) vQ h2) h1) (by decide) (by decide) h1 hpl) λσ H Q ⟨A,env,st,Q3,rel,h,k⟩=> ?_;refine⟨A,env,st,_,rel,h,λA1 H1 st1 x v g1 s1 e1 hx=> ?_⟩;obtain⟨hx,hq⟩:=hx;refine⟨["int","str"],rfl,by decide,λa ha=>⟨v,a,rfl,xM,?_,?_⟩⟩
 ·rcases hx with⟨n,rfl⟩ | ⟨z,rfl⟩
  ·exact .inl ⟨n,x8 e1⟩
  ·refine .inr ⟨z,?_⟩
   cases e1 with | val e=>cases e;rfl
 ·exact k A1 _ st1 _ _ (g1.trans (.new ha)) (s1.new ha) (.val (.bl true)) hq
def zpe:y4:=λxs st Q=>gO xs st Q∨(xs= [.non,.ty "tuple"]/\Q (.bl false) st)
theorem zmM:xB X (.builtin "isinstance") (v8 X.K zpe):=by
 intro pins s σ H vs us Q I rv ⟨A,st,xs,Q3,rs,ex,h,k⟩;rcases h with h | ⟨rfl,h⟩
 ·exact zfN pins s σ H vs us Q I rv ⟨A,st,xs,Q3,rs,ex,h,k⟩
 ·obtain⟨v,w,rfl,e1,e2⟩:=yU.two ex
  have hv:v= .non:=by cases e1 with | val e=>cases e;rfl
  have hw:w= .ty "tuple" :=by cases e2 with | val e=>cases e;rfl
  subst hv hw;exact zjw pins s σ H _ us Q I rv ⟨rfl,k.now rs (.val (.bl false)) h⟩
def zid (To:zG):zG:=λenv st Q=>To env st λx st'=> ∃ss:List (Str×PV),vN x st'=some (ss.map λq=>(Sum.inr q.1,q.2))/\(ss.map (·.1)).Nodup/\ss.length < 64/\∀ks:List Str,ks.Perm (ss.map (·.1))->sortedS ks=true->Q (.lst (ks.map PV.str)) st'
theorem zd3 {K:Type}[DecidableEq K]: ∀(ks:List K) {ds:List K},(ds++ks).Nodup->ks.foldl Sets.addK ds=ds++ks
 | [],ds,_=>by rw[List.foldl_nil,List.append_nil]
 | k::ks,ds,h=>by
  have hk:k∉ds:=λm=>(List.nodup_append.mp h).2.2 k m k List.mem_cons_self rfl;rw[List.foldl_cons,Sets.addK,if_neg hk,zd3 ks (by rw[List.append_assoc];exact h),List.append_assoc];rfl
theorem zoP {o:Expr}{To:zG}{ap:Pos}(hc:X.calm=true)(hg:Gl X "sorted")(hm:X.mg "sorted" =none)(hg2:Gl X "set")(hm2:X.mg "set" =none)(ho:PE X o (zV X.K To))
  (he:starEach [.Call (.Name "set" q) [o] [] ap] X.env=(false,eval (.Call (.Name "set" q) [o] [] ap) X.env)::starEach [] X.env:=by rfl) (hpl:(backTo pos (starEach [] X.env)).any (·.1)=false:=by rfl)
  (he2:starEach [o] X.env=(false,eval o X.env)::starEach [] X.env:=by rfl) (hpl2:(backTo ap (starEach [] X.env)).any (·.1)=false:=by rfl):
  PE X (.Call (.Name "sorted" p) [.Call (.Name "set" q) [o] [] ap] [] pos) (zV X.K (zid To)):=by
 refine xP (gC (zj4 hc) hg hm boot_sorted (xW (zgn (zj1 hc) hg2 hm2 PyProof.Rows.boot_set (xW ho vQ he2) (by decide) (by decide) he2 hpl2) vQ he) (by decide) (by decide) he hpl) λσ H Q ⟨A,env,st,Q3,rel,h,k⟩=> ?_;refine⟨A,env,st,_,rel,h,λA1 H1 st1 x v g1 s1 e1 h1=> ?_⟩;obtain⟨ss,ed,hnd,hl,h1⟩:=h1;obtain⟨a,us,rfl,hd,r,z⟩:=kI s1 e1 ed;obtain⟨ws,rfl,hp⟩:=zbT r;have hlw:ws.length < 64:=by rw[<- Paired.length hp];exact hl
 have e2: ∀{a:List (Str×PV)} {b:List (Str×V)},lQ X.K A1 H1 a b->a.map (·.1)=b.map (·.1):=by
  intro a b h
  induction h with
  | nil=>rfl
  | cons r t ih=>rw[List.map_cons,List.map_cons,ih,r.1]
 have ek:=e2 hp;refine⟨a,_,rfl,hd,by unfold p4;rw[List.length_map];omega,λt ht=> ?_⟩;have es:Sets.dd ((p4 ws).map (·.1))=(ss.map (·.1)).map Sum.inr:=by
  unfold p4;rw[List.map_map,ek,List.map_map];refine zd3 (ds:= []) _ ?_;rw[List.nil_append];have:(ws.map (·.1)).Nodup:=ek▸hnd;exact(List.pairwise_map.mpr ((List.pairwise_map.mp this).imp λh e=>h (Sum.inr.inj e)))
 rw[es];refine⟨t,ss.map (·.1),rfl,xM,by rw[List.length_map];exact hl,λL ks hL hpm hs=> ?_⟩;have s2:=s1.new (o:=gZ X.prog X.w t ((ss.map (·.1)).map Sum.inr)) ht;have s3:=s2.new (o:= .lst (ks.map V.str)) hL;refine k A1 _ st1 _ _ (g1.trans (yC.trans (.new ht) (.new hL))) s3 (.val (.lst (.inl ⟨.inl xM,s2.fresh hL⟩) ?_ (zcj ks))) (h1 ks hpm hs);rw[List.length_map,hpm.length_eq,List.length_map];exact Nat.le_trans (m:=64) (by omega) (by decide)
end
end L3
namespace L2
open PySem PySem.Spec PyProof.Rows
section
variable {prog:Program} {w:World} {A:Around} {E:Value->Shared->Prop} {s:Shared}
theorem zjW {it t:Addr}{i:Nat}{its:Array Value}{x:Value}{Q:Value->Shared->Prop}(hit:s.heap.IsTupleIter it t i)(ht:s.heap.IsTuple t its)(hx:its[i]?=some x)
  (hQ: ∀h',h'.IsTupleIter it t (i+1)->Heap.SameBut it s.heap h'->Q x {s with heap:=h'}):wpAny (model prog w) A (Builtin.SmallTypes.nextOf (.ref it)) Q E s:=by
 obtain⟨o,ho,hc,hd⟩:=id hit;obtain⟨_,hol,_,_,hdl⟩:=ht;unfold Builtin.SmallTypes.nextOf;refine wpAny_bind (wpAny_callSpecial?_slot (name:=Str.ofString "__next__") hit.typeIs F.slot_tuple_iterator_next (wpAny_call_entry F.slot_tuple_iterator_next hit.typeIs F.entry_tuple_iterator_next ?_ (F.args_tuple_iterator_next_1 _)));refine wpAny_bind (m:=field (.ref it) 0) (wpAny_field ho hd (x:= .ref t) rfl ?_);rw[if_neg (show ¬ ((Value.ref t==Value.none)=true)from Bool.false_ne_true)];refine wpAny_bind (m:=field (.ref it) 1) (wpAny_field ho hd (x:= .int i 0) rfl ?_);refine wpAny_bind (m:=seqItems? (.ref t)) (wpAny_seqItems hol hdl ?_);simp only[Int.toNat_natCast,hx];refine wpAny_bind (wpAny_setField ho hd (by simp) (wpAny_pure ⟨x,rfl,wpAny_pure (hQ _ ⟨_,Heap.get?_update_self _ ho (Obj.isFreed_of_fields (Obj.data_mapFields hd _)),(Obj.cls_mapFields ..).trans hc,?_⟩ (Heap.SameBut.update ..))⟩));rw[Obj.data_mapFields hd];simp[rawInt]
theorem zjV {it t:Addr}{i:Nat}{its:Array Value}{Q:Value->Shared->Prop}(hh:A.handled=none)(hit:s.heap.IsTupleIter it t i)(ht:s.heap.IsTuple t its)(hx:its[i]?=none)
  (hE: ∀h' e,Heap.ExtBut it s.heap h'->(∃o,h'.get? e=some o/\o.cls= .type "StopIteration")->E (.ref e) {s with heap:=h'}):wpAny (model prog w) A (Builtin.SmallTypes.nextOf (.ref it)) Q E s:=by
 obtain⟨o,ho,hc,hd⟩:=id hit;obtain⟨_,hol,_,_,hdl⟩:=ht;unfold Builtin.SmallTypes.nextOf;refine wpAny_bind (wpAny_callSpecial?_slot (name:=Str.ofString "__next__") hit.typeIs F.slot_tuple_iterator_next (wpAny_call_entry F.slot_tuple_iterator_next hit.typeIs F.entry_tuple_iterator_next ?_ (F.args_tuple_iterator_next_1 _)));refine wpAny_bind (m:=field (.ref it) 0) (wpAny_field ho hd (x:= .ref t) rfl ?_);rw[if_neg (show ¬ ((Value.ref t==Value.none)=true)from Bool.false_ne_true)];refine wpAny_bind (m:=field (.ref it) 1) (wpAny_field ho hd (x:= .int i 0) rfl ?_);refine wpAny_bind (m:=seqItems? (.ref t)) (wpAny_seqItems hol hdl ?_);simp only[Int.toNat_natCast,hx];refine wpAny_bind (wpAny_rule (wpAny_bind (wpAny_setField ho hd (by simp) ?_)));refine wpAny_bind (m:=newExc (.type "StopIteration") []) ?_;simp only[newExc,newTuple];refine wpAny_bind (wpAny_newObj_type ?_ (by size_fits));refine wpAny_bind (m:=firstArgMember _ _) (wpAny_of_eq (a:=Value.none) (by first | rfl | (simp only[firstArgMember];rfl)) (wpAny_newObj_type ?_ (by size_fits)));simp only[raiseNew];refine wpAny_bind (wpAny_handled ?_)
 first | rw[show A.in1.handled=none from hh] | rw[hh]
 exact wpAny_bind (wpAny_pure (wpAny_throw (hE _ _ (((Heap.SameBut.update ..).extBut.push _).push _) ⟨_,Heap.get?_push_size _ rfl,rfl⟩)))
end
theorem zdE {prog:Program}{w:World}{A:Around}(hh:A.handled=none)(it t:Addr)(hne:t≠it)(its:Array Value):Draws prog w A it [it,t] its.size (λi v=>its[i]?=some v) (λi h=>h.IsTupleIter it t i/\h.IsTuple t its) where
 live:=λ_ _ st=>let⟨o,ho,_⟩:=st.1;⟨o,ho⟩
 frame:=λ_ _ _ st hk=>⟨st.1.at λo e=>hk it (by simp) o e,let⟨o,ho,r⟩:=st.2;⟨o,hk t (by simp) o ho,r⟩⟩
 item:=λi s Q E hi st hQ=>zjW st.1 st.2 (x:=its[i]) (by simp[hi]) λh' hit' hs'=>hQ _ h' s.toks (by simp[hi]) ⟨hit',st.2.extBut hs'.extBut hne⟩ hs'
 done:=λs Q E st hE=>zjV hh st.1 st.2 (by simp) hE
open AutoSeq1 (wpAny_loadPart') in
theorem zke (t:Addr)(its:Array Value)(n:Nat)(dct:Option Addr)(sl:Array (Option Value)):
  Meets (Builtin.«enumerate.__new__» ⟨[.type "enumerate",.ref t],[]⟩) (λ_ R s=>s.heap.get? t=some {cls:= .type "tuple",dict:=dct,data:= .seq its n,slots:=sl} /\
   R (.ok (.ret (.ref (s.heap.push {cls:= .type "tuple_iterator",data:= .fields #[.ref t,.int 0 0]}).objs.size)))
    {s with heap:=(s.heap.push {cls:= .type "tuple_iterator",data:= .fields #[.ref t,.int 0 0]}).push {cls:= .type "enumerate",data:= .fields #[.none,.bool false,.ref s.heap.objs.size,rawInt 0,.none,.none]}}):=
 .of_wp λprog w A R s h=>by
  obtain⟨hp,g,d,tk,os⟩:=s;obtain⟨ht,h⟩:=h;have hsub:=sub_enumerate;have hT:Heap.IsTuple (Shared.heap ⟨hp,g,d,tk,os⟩) t its:=⟨_,ht,rfl,n,rfl⟩
  wp_walk using wpAny_loadPart' ht
  refine wpAny_stack_any λst=>wpAny_pure ?_
  split
  ·rename_i c _ _ _ _ _
   cases(c==Value.type "enumerate") <;> (wp_walk using wpAny_loadPart' ht,wpAny_pyIter_tuple hT;exact⟨_,rfl,h⟩)
  ·wp_walk using wpAny_loadPart' ht,wpAny_pyIter_tuple hT
   exact⟨_,rfl,h⟩
theorem zju {prog:Program}{w:World}{A:Around}{E:Value->Shared->Prop}{s:Shared}{t:Addr}{its:Array Value}{Q:Value->Shared->Prop}(hT:s.heap.IsTuple t its)
  (h: ∀h',IsEnum h' (s.heap.objs.size+1) s.heap.objs.size 0 .none->h'.IsTupleIter s.heap.objs.size t 0->h'.objs.size=s.heap.objs.size+2->(∀b o,s.heap.get? b=some o->h'.get? b=some o)->Q (.ref (s.heap.objs.size+1)) {s with heap:=h'}):
  wpAny (model prog w) A (call (.type "enumerate") [.ref t]) Q E s:=by
 obtain⟨⟨c,dct,dt,sl⟩,ht,hc,n,hd⟩:=hT;cases hc;cases hd;refine callType_new F.called_enumerate (by decide) (F.typeCall_enumerate_1 _) (F.newCall_enumerate_1 _) (λobj=>F.args_object_init_2 obj _) F.entry_enumerate_new (zke t its n dct sl) ⟨ht,?_⟩;have hz:(s.heap.push {cls:= .type "tuple_iterator",data:= .fields #[.ref t,.int 0 0]}).objs.size=s.heap.objs.size+1:=Heap.size_push ..;show _/\_;rw[hz];have he:IsEnum ((s.heap.push {cls:= .type "tuple_iterator",data:= .fields #[.ref t,.int 0 0]}).push {cls:= .type "enumerate",data:= .fields #[.none,.bool false,.ref s.heap.objs.size,rawInt 0,.none,.none]}) (s.heap.objs.size+1) s.heap.objs.size 0 .none:=by
  have:=Heap.get?_push_size (s.heap.push {cls:= .type "tuple_iterator",data:= .fields #[.ref t,.int 0 0]}) (o:= {cls:= .type "enumerate",data:= .fields #[.none,.bool false,.ref s.heap.objs.size,rawInt 0,.none,.none]}) rfl;rw[hz]at this;exact this
 exact⟨⟨_,he,rfl⟩,h _ he ⟨_,Heap.get?_push_of_some _ (Heap.get?_push_size _ rfl),rfl,rfl⟩ (by rw[Heap.size_push,hz]) λb o x=>Heap.get?_push_of_some _ (Heap.get?_push_of_some _ x)⟩
def eE (K:Frag)(a:Addr):It:=
 ⟨λi H=> ∃xs x,x4 K H a xs/\xs[i]?=some x,λi H y H'=> ∃p x,H p=none/\(∀xs,x4 K H a xs->xs[i]?=some x)/\y= .ref p/\H'=zQ H p (.tup [.int i,x]),λi H=> ∃xs,x4 K H a xs/\xs.length=i⟩
theorem zq9 {P:Program}{w:World}{K:Frag}{elts:List Expr}{k:Nat}{pos:Pos}(a e it:Addr)(ne:e≠it)(ae:a≠e)(ai:a≠it):
  pF P w K (.Tuple elts k pos) (eE K a) [e,it] e (λi h=>(∃old,IsEnum h e it i old)/\h.IsTupleIter it a i) where
 mem:=by simp
 obj:=λi h st b hb=>by
  obtain⟨⟨old,he⟩,o,ho,c,d⟩:=st;rcases List.mem_cons.mp hb with rfl | hb
  ·exact⟨_,he,λv z=>by cases z⟩
  ·rw[List.mem_singleton.mp hb];exact⟨o,ho,λv z=>by rw[d]at z;cases z⟩
 keep:=λi h h' st kk=>by
  obtain⟨⟨old,he⟩,hit⟩:=st;exact⟨⟨old,kk e (by simp) _ he⟩,hit.at λo e'=>kk it (by simp) o e'⟩
 item:=by
  intro X hP hw hK hc i pins s σ H E I hf st hg;subst hP hw hK;obtain⟨xs,x,hq,hx⟩:=hg;obtain⟨its,rv,p,hz⟩:=I.tuple hq;obtain⟨u,hu,ru⟩:=rv.get hx;obtain⟨⟨old,he⟩,hit⟩:=st;have le:e < s.heap.objs.size:=Heap.lt_size he;have li:it < s.heap.objs.size:=by obtain⟨o,ho,_⟩:=hit;exact Heap.lt_size ho
  have hi:i < its.toArray.size:=by have:=(List.getElem?_eq_some_iff.mp hu).1;simpa using this
  refine wpAny_pyNext_enum_itemD (zdE (A:=X.A.in1) (I.ok.hd hc) it a ai its.toArray) he ⟨hit,p⟩ hi ne (by simp[ne,ae.symm]) λx' h' tk hPx ho hst hT hsz kk=>⟨_,rfl,?_⟩;have ex:x'=u:=by
   have h1:its.toArray[i]?=some u:=by simpa using hu
   rw[h1]at hPx;exact(Option.some.inj hPx).symm
  subst ex;refine wpAny_letOwnedTupleGo_enum (s:= {s with heap:=h',toks:=tk+1}) ho λh2 he2 hs2=> ?_;have nT:s.heap.objs.size≠e:=Nat.ne_of_gt le;have hT2:h2.get? s.heap.objs.size=some {cls:= .type "tuple",data:= .seq #[.int i tk,x']} :=(hs2.2 _ nT).trans hT;have I1:z5 X pins σ H {s with heap:=h2,toks:=tk+1} :=I.turnedL (fp:= [e,it]) (λb o hb q=>(hs2.2 b λz=>hb (by simp[z])).trans (kk b o (λz=>hb (by simp[z])) (λz=>hb (by simp[z])) q)) hf;have I2:z5 X pins σ (zQ H s.heap.objs.size (.tup [.int i,x])) {s with heap:=h2,toks:=tk+1} :=by
   refine zaW I1 I.fresh I.sz (Nat.ne_of_gt I.lt) (λx' c e' z=> ?_) (λp' hp z=> ?_) ⟨(by show 2<=sizeLine;decide),[.int i tk,x'],.cons ⟨_,rfl⟩ (.cons ru .nil),_,hT2,rfl,_,rfl,rfl⟩
   ·obtain⟨v,q⟩:=I.cell x' c e'
    have:=q.lt;rw[z]at this;exact Nat.lt_irrefl _ this
   ·have:=Heap.lt_size (I.pin p' hp).1;rw[z]at this;exact Nat.lt_irrefl _ this
  refine⟨.ref s.heap.objs.size,_,I2,rfl,⟨_,x,I.fresh,λys hy=>by rw[I.tuple_inj hy hq];exact hx,rfl,rfl⟩,⟨⟨x',by simpa using he2⟩,hst.1.at λo e'=>(hs2.2 it ne.symm).trans e'⟩,λb hb=> ?_⟩;have nb:b≠s.heap.objs.size:=by
   rcases List.mem_cons.mp hb with rfl | hb
   ·exact Nat.ne_of_lt le
   ·rw[List.mem_singleton.mp hb];exact Nat.ne_of_lt li
  rw[yP nb];exact(hf b hb).1
 done:=by
  intro X hP hw hK hc i pins s σ H E I hf st hg;subst hP hw hK;obtain⟨xs,hq,rfl⟩:=hg;obtain⟨its,rv,p,hz⟩:=I.tuple hq;obtain⟨⟨old,he⟩,hit⟩:=st;have hl:=rv.length;have hl2:xs.length=its.toArray.size:=by simpa using hl
  rw[hl2]at hit;exact wpAny_pyNext_enum_endD (zdE (A:=X.A.in1) (I.ok.hd hc) it a ai its.toArray) he ⟨hit,p⟩ λh' eb=>⟨rfl,I.turnedL (t':=s.toks) (fp:= [e,it]) (λb o hb q=>eb b o (λz=>hb (by simp[z])) q) hf⟩
 self:=λ_ _ _ _ _ st h=>by
  obtain⟨⟨old,he⟩,_⟩:=st;exact wpAny_pyIter_enum he h
section
variable {X:Cx} {elts:List Expr} {k:Nat} {pos':Pos}
def zlk (K:Frag)(ta:TA):TI:=λσ H R=>ta σ H λvs H1=> ∃a,vs= [.ref a]/\(∃xs,x4 K H1 a xs)/\R (eE K a) H1
theorem zou {a:Expr}{ta:TA}{p pos:Pos}(hg:Gl X "enumerate")(hm:X.mg "enumerate" =none)(ha:PA X [a] ta)(hs:starEach [a] X.env= [(false,eval a X.env)]:=by rfl):PI X (.Tuple elts k pos') (.Call (.Name "enumerate" p) [a] [] pos) (zlk X.K ta):=⟨λpins s σ H R I h=>by
 refine Call_ (mE I hg hm boot_enumerate (callWith_type1 (y8 (ha pos pins s σ H _ I h) λus s1 ⟨vs,H1,I1,r1,q1⟩=> ?_) hs rfl));obtain⟨a,e,⟨xs,hq⟩,q⟩:=q1;subst e;obtain⟨u,rfl,ru⟩:=vK r1;cases ru;obtain⟨its,rv,p,hz⟩:=I1.tuple hq;have la:a < s1.heap.objs.size:=by obtain⟨o,ho,_⟩:=p;exact Heap.lt_size ho
 refine zju p λh' hE hI hsz kk=> ?_;refine wpAny_pyIter_enum hE ?_;refine⟨s1.heap.objs.size+1,[s1.heap.objs.size+1,s1.heap.objs.size],_,_,H1,rfl,I1.kept (t':=s1.toks) kk,zq9 a _ _ (Nat.succ_ne_self _) (Nat.ne_of_lt (Nat.lt_succ_of_lt la)) (Nat.ne_of_lt la),⟨⟨.none,by simpa using hE⟩,hI⟩,λb hb=> ?_,q⟩;rcases List.mem_cons.mp hb with rfl | hb
 ·exact I1.fpOk (Nat.le_succ _) (I1.hok.fresh (Nat.le_succ _))
 ·rw[List.mem_singleton.mp hb];exact I1.fpOk (Nat.le_refl _) (I1.hok.fresh (Nat.le_refl _))⟩
end
end L2
namespace L3
open PySem PySem.Spec PyProof.Rows L2
section
variable {X:Cx} {a:Expr} {p pos:Pos} {TA:yS}
theorem zlw {K:Frag}{A:List Addr}{H:Hp}{a:Addr}{xs:List PV}(hz:xs.length<=sizeLine)(hv: ∀A' H' st,yC A H A' H'->RS K A' H' st->∃vs,x4 K H' a vs/\RVs K A' H' xs vs):rQ K A H none (eE K a) (sL xs) where
 go:=λi A' H' st g s ok hi=>by
  obtain⟨vs,h,r⟩:=hv A' H' st g s;rw[iS,r.len]at hi;exact⟨vs,vs[i],h,by simp[hi]⟩
 yld:=λi x A' H' st v H2 hx g s ok y=>by
  obtain⟨p,x',hp,hx',rfl,rfl⟩:=y;obtain⟨vs,h,r⟩:=hv A' H' st g s;obtain⟨z,hz',rfl⟩:=dL hx;obtain⟨w,ew,rw'⟩:=r.get hz';have:=hx' vs h;rw[ew]at this;cases this;exact⟨.new hp,s.new hp,.val (.tup (.inl ⟨.inl xM,s.fresh hp⟩) (by show 2<=sizeLine;decide) (.cons (.int _) (.cons (rw'.grow (.new hp)) .nil)))⟩
 stop:=λA' H' st g s ok=>by
  obtain⟨vs,h,r⟩:=hv A' H' st g s;exact⟨vs,h,by rw[iS,r.len]⟩
 small:=by rw[iS];exact hz
def zfa (T:yS):vV:=λenv st Q=>T env st λzs st1=> ∃xs,zs= [.tup xs]/\Q none (sL xs) st1
theorem zoQ {elts:List Expr}{k:Nat}{pos':Pos}(hg:Gl X "enumerate")(hm:X.mg "enumerate" =none)(ha:PA X [a] (vF X.K TA))(hs:starEach [a] X.env= [(false,eval a X.env)]:=by rfl):PI X (.Tuple elts k pos') (.Call (.Name "enumerate" p) [a] [] pos) (rY X.K (zfa TA)):=by
 refine gE (zou hg hm ha hs) λσ H R ⟨A,env,st,Q3,rel,h,k⟩=>⟨A,env,st,_,rel,h,λA1 H1 st1 zs vs g1 s1 e1 h1=> ?_⟩;obtain⟨xs,rfl,h1⟩:=h1;obtain⟨v,rfl,e⟩:=yU.one e1;cases e with | val e=>cases e with | tup t hz r=>
  exact⟨_,rfl,⟨_,t.sq⟩,k A1 H1 st1 _ _ _ g1 s1 (zlw (by rw[r.len];exact hz) λA' H' st' g s=>⟨_,(t.grow g).sq,r.grow g⟩) h1⟩
end
end L3
namespace L3
open PySem PySem.Spec PyProof.Rows L2
def pP (m:Nat)(y:PV):Option PV->Option PV
 | some (.obj i)=>if i=m then some y else some (.obj i)
 | o=>o
def iX (m:Nat)(y:PV)(env:zO):zO:=env.map (pP m y)
section
variable {K:Frag} {A:List Addr} {H:Hp} {σ:St} {env:zO} {st0:z8} {xs:List PV}
theorem xJ.freeze (r:xJ K A H σ env (st0++ [.lst xs])):xJ K (A.take st0.length) H σ (iX st0.length (.lst xs) env) st0:=by
 have s:=r.rs.take st0.length;have et:(st0++ [PO.lst xs]).take st0.length=st0:=by rw[List.take_append_of_le_length (Nat.le_refl _),List.take_length]
 rw[et]at s;refine⟨s,by unfold iX;rw[List.length_map];exact r.len,λi x e=> ?_⟩;unfold iX at e;rw[List.getElem?_map]at e;cases e1:env[i]? with
 | none=>rw[e1]at e;cases e
 | some o=>
  rw[e1]at e;have e2:pP st0.length (.lst xs) o=some x:=Option.some.inj e;cases o with
  | none=>cases e2
  | some y=>
   obtain⟨v,ev,re⟩:=r.at_ i y e1;refine⟨v,ev,?_⟩;cases re with
   | val rv=>
    have:y=x:=by
     cases y with
     | obj j=>cases rv
     | _=>exact Option.some.inj e2
    rw[<- this];exact .val (rv.less mI)
   | obj eo=>
    rename_i j a;unfold pP at e2;dsimp only at e2;by_cases hj:j=st0.length
    ·rw[if_pos hj]at e2
     cases e2;subst hj;obtain⟨vs,h1,rr,z⟩:=r.rs.at_ _ _ _ eo (by simp:(st0++ [PO.lst xs])[st0.length]?=some (.lst xs));refine .val (.lst (.inl ⟨.inl h1,λhm'=> ?_⟩) z (rr.less mI));obtain⟨k,hk,ek⟩:=List.getElem_of_mem hm';rw[List.length_take]at hk;have e3:A[k]?=some a:=by rw[<- List.getElem?_take_of_lt (show k < st0.length by omega),List.getElem?_eq_getElem (by rw[List.length_take];omega),ek]
     have:=(List.getElem?_inj (List.getElem?_eq_some_iff.mp e3).1 r.rs.nd).mp (e3.trans eo.symm);omega
    ·rw[if_neg hj]at e2
     cases e2;have hl:=r.rs.len;have hlt:=(List.getElem?_eq_some_iff.mp eo).1;rw[List.length_append,List.length_singleton]at hl;exact .obj (by rw[List.getElem?_take_of_lt (by omega)];exact eo)
end
section
variable {X:Cx} {a b:Stmt} {rst:List Stmt} {Ts Tu Tw:xF}
def zhQ (T:xF):xF:=λD env st=>T {D with nx:=λenv' st'=> ∃st0 xs,st'=st0++ [.lst xs]/\st.length<=st0.length/\D.nx (iX st0.length (.lst xs) env') st0} env st
theorem zoV (h1:PS X a (w4 X.K Ts))(h2:PS X b (w4 X.K Tu))(h3:xQ X rst (w4 X.K Tw)):xQ X (a::b::rst) (w4 X.K (p7 (zhQ (p7 Ts Tu)) Tw)):=
 zb2 (tT h1 (tT h2 h3)) λD σ H ⟨A,env,st,D3,rel,h,k⟩=>⟨A,env,st,_,rel,h,λA1 H1 σ1 env1 st1 g1 r1 h1=>⟨A1,env1,st1,_,r1,h1,λA2 H2 σ2 env2 st2 g2 r2 h2=>by
  obtain⟨st0,xs,rfl,hl,h2⟩:=h2;exact⟨_,_,st0,D3,r2.freeze,h2,k.after ((g1.trans g2).take (by rw[rel.rs.len];exact hl))⟩,k.rt.after g1,(k.after g1).bk,(k.after g1).ct⟩,k.rt,k.bk,k.ct⟩
end
end L3
set_option maxHeartbeats 1000000
namespace N32
open PySem L2 L3
def xA (i:Nat):Stmt:=PySem.Challenge.pw_copiedhouse_k32_deeds.main.body.getD i (.Pass ⟨0,0,0,0⟩)
theorem uQ:bootBuiltins "tuple" =some (.type "tuple"):=by decide+kernel
theorem iI:bootBuiltins "dict" =some (.type "dict"):=by decide+kernel
theorem zdn:bootBuiltins "list" =some (.type "list"):=by decide+kernel
theorem sJ:bootBuiltins "int" =some (.type "int"):=by decide+kernel
theorem zjp:bootBuiltins "bool" =some (.type "bool"):=by decide+kernel
abbrev oZ:Stmt:=xA 1
theorem zpF:yX ["bag","word"] ["bag","word"] (zK oZ):=⟨rfl,rfl,rfl,by decide+kernel,rfl,by decide+kernel,by decide+kernel⟩
abbrev oS:Stmt:=xA 2
theorem zpC:yX ["bag","word","many"] ["bag","word","many"] (zK oS):=⟨rfl,rfl,rfl,by decide+kernel,rfl,by decide+kernel,by decide+kernel⟩
abbrev qV:Stmt:=xA 3
theorem gY:yX ["one","other","numbers","word","many"] ["one","other"] (zK qV):=⟨rfl,rfl,rfl,by decide+kernel,rfl,by decide+kernel,by decide+kernel⟩
abbrev qX:Stmt:=xA 5
theorem zpE:yX ["tuples","word"] ["tuples","word"] (zK qX):=⟨rfl,rfl,rfl,by decide+kernel,rfl,by decide+kernel,by decide+kernel⟩
abbrev n5:Stmt:=xA 6
theorem zpI:yX ["program","S"] ["program","S"] (zK n5):=⟨rfl,rfl,rfl,by decide+kernel,rfl,by decide+kernel,by decide+kernel⟩
abbrev qZ:Stmt:=xA 7
theorem zpJ:yX ["program","S"] ["program","S"] (zK qZ):=⟨rfl,rfl,rfl,by decide+kernel,rfl,by decide+kernel,by decide+kernel⟩
abbrev n9:Stmt:=xA 10
theorem zbZ:yX ["term","asked","guard"] ["term","asked"] (zK n9):=⟨rfl,rfl,rfl,by decide+kernel,rfl,by decide+kernel,by decide+kernel⟩
abbrev nA:Stmt:=xA 11
theorem zpL:yX ["sign","one","other"] ["sign","one","other"] (zK nA):=⟨rfl,rfl,rfl,by decide+kernel,rfl,by decide+kernel,by decide+kernel⟩
abbrev xU:Stmt:=xA 13
theorem zpK:yX ["program","house","term"] ["program","house","term"] (zK xU):=⟨rfl,rfl,rfl,by decide+kernel,rfl,by decide+kernel,by decide+kernel⟩
abbrev n8:Stmt:=xA 14
theorem zgX:yX ["program","house","leaf","value"] ["program","house","leaf"] (zK n8):=⟨rfl,rfl,rfl,by decide+kernel,rfl,by decide+kernel,by decide+kernel⟩
abbrev qW:Stmt:=xA 16
theorem zpD:yX ["program"] ["program"] (zK qW):=⟨rfl,rfl,rfl,by decide+kernel,rfl,by decide+kernel,by decide+kernel⟩
abbrev oW:Stmt:=xA 17
theorem zbX:yX ["program","house","row","place","made"] ["program","house","row"] (zK oW):=⟨rfl,rfl,rfl,by decide+kernel,rfl,by decide+kernel,by decide+kernel⟩
abbrev oY:Stmt:=xA 18
theorem zbY:yX ["program","house","deed","value","number"] ["program","house","deed"] (zK oY):=⟨rfl,rfl,rfl,by decide+kernel,rfl,by decide+kernel,by decide+kernel⟩
abbrev n4:Stmt:=xA 19
theorem zpG:yX ["manner","number"] ["manner","number"] (zK n4):=⟨rfl,rfl,rfl,by decide+kernel,rfl,by decide+kernel,by decide+kernel⟩
abbrev oF:Stmt:=xA 21
theorem j9:yX ["_law_script","_law_k","_law_cell","_law_seed"] ["_law_script","_law_k"] (zK oF):=⟨rfl,rfl,rfl,by decide+kernel,rfl,by decide+kernel,by decide+kernel⟩
abbrev oO:Stmt:=xA 22
theorem zbW:yX ["_law_box_here","_law_many","_law_digit","_law_one"] ["_law_box_here","_law_many"] (zK oO):=⟨rfl,rfl,rfl,by decide+kernel,rfl,by decide+kernel,by decide+kernel⟩
abbrev qU:Stmt:=xA 23
theorem uE:yX ["_law_box_here","_law_many","_law_letters","_law_k","_law_common","_law_at","_law_first","_law_longer","_law_found","_law_word","_law_own"] ["_law_box_here","_law_many"] (zK qU):=⟨rfl,rfl,rfl,by decide+kernel,rfl,by decide+kernel,by decide+kernel⟩
abbrev oM:Stmt:=xA 24
theorem zgV:yX ["_law_box_here","_law_form"] ["_law_box_here"] (zK oM):=⟨rfl,rfl,rfl,by decide+kernel,rfl,by decide+kernel,by decide+kernel⟩
abbrev oP:Stmt:=xA 25
theorem oV:yX ["_law_box_here","_law_leaves_here","_law_room","_law_deep","_law_form","_law_third","_law_one","_law_other","_law_half"] ["_law_box_here","_law_leaves_here","_law_room","_law_deep"] (zK oP):=⟨rfl,rfl,rfl,by decide+kernel,rfl,by decide+kernel,by decide+kernel⟩
abbrev oE:Stmt:=xA 26
theorem zgT:yX ["_law_box_here","_law_leaves_here","_law_room"] ["_law_box_here","_law_leaves_here"] (zK oE):=⟨rfl,rfl,rfl,by decide+kernel,rfl,by decide+kernel,by decide+kernel⟩
abbrev oK:Stmt:=xA 27
theorem jB:yX ["_law_box_here","_law_kinds","_law_calm","_law_word","_law_three","_law_term_here"] ["_law_box_here","_law_kinds","_law_calm"] (zK oK):=⟨rfl,rfl,rfl,by decide+kernel,rfl,by decide+kernel,by decide+kernel⟩
abbrev qP:Stmt:=xA 28
theorem j8:yX ["_law_box_here","_law_manner_here","_law_things","_law_found","_law_word","_law_many"] ["_law_box_here","_law_manner_here","_law_things"] (zK qP):=⟨rfl,rfl,rfl,by decide+kernel,rfl,by decide+kernel,by decide+kernel⟩
abbrev oH:Stmt:=xA 29
theorem jA:yX ["_law_box_here","_law_shelves","_law_things","_law_found","_law_ks","_law_manner_here","_law_begin_here"] ["_law_box_here","_law_shelves","_law_things"] (zK oH):=⟨rfl,rfl,rfl,by decide+kernel,rfl,by decide+kernel,by decide+kernel⟩
abbrev oG:Stmt:=xA 30
theorem oT:yX ["_law_box_here","_law_shelf","_law_leaves_here","_law_things","_law_ks","_law_manner_here","_law_begin_here","_law_word","_law_term_here"] ["_law_box_here","_law_shelf","_law_leaves_here","_law_things"] (zK oG):=⟨rfl,rfl,rfl,by decide+kernel,rfl,by decide+kernel,by decide+kernel⟩
abbrev oN:Stmt:=xA 31
theorem mW:yX ["_law_box_here","_law_uses","_law_things","_law_own","_law_asked","_law_leaves_here","_law_row_here"] ["_law_box_here","_law_uses","_law_things"] (zK oN):=⟨rfl,rfl,rfl,by decide+kernel,rfl,by decide+kernel,by decide+kernel⟩
abbrev qS:Stmt:=xA 32
theorem zgU:yX ["_law_program","_law_house_here","_law_term_here","_law_value_here"] ["_law_program","_law_house_here","_law_term_here"] (zK qS):=⟨rfl,rfl,rfl,by decide+kernel,rfl,by decide+kernel,by decide+kernel⟩
abbrev oQ:Stmt:=xA 33
theorem jC:yX ["_law_program","_law_house_here","_law_term_here","_law_side","_law_one","_law_other","_law_some"] ["_law_program","_law_house_here","_law_term_here"] (zK oQ):=⟨rfl,rfl,rfl,by decide+kernel,rfl,by decide+kernel,by decide+kernel⟩
abbrev qO:Stmt:=xA 34
theorem zpA:yX ["_law_numbers"] ["_law_numbers"] (zK qO):=⟨rfl,rfl,rfl,by decide+kernel,rfl,by decide+kernel,by decide+kernel⟩
abbrev oJ:Stmt:=xA 35
theorem mV:yX ["_law_program","_law_house_here","_law_deed_here","_law_at","_law_value_here","_law_numbers","_law_number_here","_law_manner_here","_law_words_here"] ["_law_program","_law_house_here","_law_deed_here","_law_at"] (zK oJ):=⟨rfl,rfl,rfl,by decide+kernel,rfl,by decide+kernel,by decide+kernel⟩
abbrev qQ:Stmt:=xA 36
theorem gX:yX ["_law_program","_law_house_here","_law_row_here","_law_at","_law_values"] ["_law_program","_law_house_here","_law_row_here"] (zK qQ):=⟨rfl,rfl,rfl,by decide+kernel,rfl,by decide+kernel,by decide+kernel⟩
abbrev qT:Stmt:=xA 37
theorem zpB:yX ["_law_value_here"] ["_law_value_here"] (zK qT):=⟨rfl,rfl,rfl,by decide+kernel,rfl,by decide+kernel,by decide+kernel⟩
abbrev qR:Stmt:=xA 38
theorem oU:yX ["_law_box_here","_law_program","_law_things","_law_found","_law_ks","_law_manner_here","_law_begin_here","_law_value_here"] ["_law_box_here","_law_program","_law_things"] (zK qR):=⟨rfl,rfl,rfl,by decide+kernel,rfl,by decide+kernel,by decide+kernel⟩
abbrev qN:Stmt:=xA 39
theorem gW:yX ["_law_box_here","_law_program","_law_house_here","_law_things","_law_k","_law_rows","_law_place"] ["_law_box_here","_law_program","_law_house_here","_law_things"] (zK qN):=⟨rfl,rfl,rfl,by decide+kernel,rfl,by decide+kernel,by decide+kernel⟩
abbrev s9:Stmt:=xA 40
theorem wZ:yX ["_law_script","_law_box_here","_law_words_here","_law_things","_law_shelves","_law_k","_law_manner_here","_law_program","_law_house_here","_law_asked","_law_row_here","_law_end","_law_due","_law_found"] ["_law_script"] (zK s9):=⟨rfl,rfl,rfl,by decide+kernel,rfl,by decide+kernel,by decide+kernel⟩
structure Mo (K:Frag)(mg:Str->Option Value):Prop where
 len:mg "len" =none
 int:mg "int" =none
 range:mg "range" =none
 tuple:mg "tuple" =none
 isinstance:mg "isinstance" =none
 bool:mg "bool" =none
 str:mg "str" =none
 dict:mg "dict" =none
 list:mg "list" =none
 sorted:mg "sorted" =none
 min:mg "min" =none
 max:mg "max" =none
 all:mg "all" =none
 set:mg "set" =none
 enumerate:mg "enumerate" =none
 many_of: ∃f fd,zZ K "many_of" "many_of" oZ f fd/\yH K fd ["bag","word"] []/\mg "many_of" =some (.ref f)
 bag_with: ∃f fd,zZ K "bag_with" "bag_with" oS f fd/\yH K fd ["bag","word","many"] []/\mg "bag_with" =some (.ref f)
 bags_added: ∃f fd,zZ K "bags_added" "bags_added" qV f fd/\yH K fd ["one","other"] []/\mg "bags_added" =some (.ref f)
 first_called: ∃f fd,zZ K "first_called" "first_called" qX f fd/\yH K fd ["tuples","word"] []/\mg "first_called" =some (.ref f)
 shelf_named: ∃f fd,zZ K "shelf_named" "shelf_named" n5 f fd/\yH K fd ["program","S"] []/\mg "shelf_named" =some (.ref f)
 shelf_place: ∃f fd,zZ K "shelf_place" "shelf_place" qZ f fd/\yH K fd ["program","S"] []/\mg "shelf_place" =some (.ref f)
 value_by: ∃f fd,zZ K "value_by" "value_by" n9 f fd/\yH K fd ["term","asked"] []/\mg "value_by" =some (.ref f)
 value_of_op: ∃f fd,zZ K "value_of_op" "value_of_op" nA f fd/\yH K fd ["sign","one","other"] []/\mg "value_of_op" =some (.ref f)
 value_of: ∃f fd,zZ K "value_of" "value_of" xU f fd/\yH K fd ["program","house","term"] []/\mg "value_of" =some (.ref f)
 value_asked: ∃f fd,zZ K "value_asked" "value_asked" n8 f fd/\yH K fd ["program","house","leaf"] []/\mg "value_asked" =some (.ref f)
 begins: ∃f fd,zZ K "begins" "begins" qW f fd/\yH K fd ["program"] []/\mg "begins" =some (.ref f)
 done: ∃f fd,zZ K "done" "done" oW f fd/\yH K fd ["program","house","row"] []/\mg "done" =some (.ref f)
 made_by: ∃f fd,zZ K "made_by" "made_by" oY f fd/\yH K fd ["program","house","deed"] []/\mg "made_by" =some (.ref f)
 number_set: ∃f fd,zZ K "number_set" "number_set" n4 f fd/\yH K fd ["manner","number"] []/\mg "number_set" =some (.ref f)
 _law_box: ∃f fd,zZ K "_law_box" "_law_box" oF f fd/\yH K fd ["_law_script","_law_k"] []/\mg "_law_box" =some (.ref f)
 _law_take: ∃f fd,zZ K "_law_take" "_law_take" oO f fd/\yH K fd ["_law_box_here","_law_many"] []/\mg "_law_take" =some (.ref f)
 _law_words: ∃f fd,zZ K "_law_words" "_law_words" qU f fd/\yH K fd ["_law_box_here","_law_many"] []/\mg "_law_words" =some (.ref f)
 _law_number: ∃f fd,zZ K "_law_number" "_law_number" oM f fd/\yH K fd ["_law_box_here"] []/\mg "_law_number" =some (.ref f)
 _law_term: ∃f fd,zZ K "_law_term" "_law_term" oP f fd/\yH K fd ["_law_box_here","_law_leaves_here","_law_room","_law_deep"] []/\mg "_law_term" =some (.ref f)
 _law_any_term: ∃f fd,zZ K "_law_any_term" "_law_any_term" oE f fd/\yH K fd ["_law_box_here","_law_leaves_here"] []/\mg "_law_any_term" =some (.ref f)
 _law_manner: ∃f fd,zZ K "_law_manner" "_law_manner" oK f fd/\yH K fd ["_law_box_here","_law_kinds","_law_calm"] []/\mg "_law_manner" =some (.ref f)
 _law_begin: ∃f fd,zZ K "_law_begin" "_law_begin" qP f fd/\yH K fd ["_law_box_here","_law_manner_here","_law_things"] []/\mg "_law_begin" =some (.ref f)
 _law_leaves: ∃f fd,zZ K "_law_leaves" "_law_leaves" oH f fd/\yH K fd ["_law_box_here","_law_shelves","_law_things"] []/\mg "_law_leaves" =some (.ref f)
 _law_deed: ∃f fd,zZ K "_law_deed" "_law_deed" oG f fd/\yH K fd ["_law_box_here","_law_shelf","_law_leaves_here","_law_things"] []/\mg "_law_deed" =some (.ref f)
 _law_row: ∃f fd,zZ K "_law_row" "_law_row" oN f fd/\yH K fd ["_law_box_here","_law_uses","_law_things"] []/\mg "_law_row" =some (.ref f)
 _law_leaf: ∃f fd,zZ K "_law_leaf" "_law_leaf" qS f fd/\yH K fd ["_law_program","_law_house_here","_law_term_here"] []/\mg "_law_leaf" =some (.ref f)
 _law_value: ∃f fd,zZ K "_law_value" "_law_value" oQ f fd/\yH K fd ["_law_program","_law_house_here","_law_term_here"] []/\mg "_law_value" =some (.ref f)
 _law_bag: ∃f fd,zZ K "_law_bag" "_law_bag" qO f fd/\yH K fd ["_law_numbers"] []/\mg "_law_bag" =some (.ref f)
 _law_made: ∃f fd,zZ K "_law_made" "_law_made" oJ f fd/\yH K fd ["_law_program","_law_house_here","_law_deed_here","_law_at"] []/\mg "_law_made" =some (.ref f)
 _law_done: ∃f fd,zZ K "_law_done" "_law_done" qQ f fd/\yH K fd ["_law_program","_law_house_here","_law_row_here"] []/\mg "_law_done" =some (.ref f)
 _law_plain: ∃f fd,zZ K "_law_plain" "_law_plain" qT f fd/\yH K fd ["_law_value_here"] []/\mg "_law_plain" =some (.ref f)
 _law_house: ∃f fd,zZ K "_law_house" "_law_house" qR f fd/\yH K fd ["_law_box_here","_law_program","_law_things"] []/\mg "_law_house" =some (.ref f)
 _law_at_the_end: ∃f fd,zZ K "_law_at_the_end" "_law_at_the_end" qN f fd/\yH K fd ["_law_box_here","_law_program","_law_house_here","_law_things"] []/\mg "_law_at_the_end" =some (.ref f)
 WIDE: ∃t,mg "WIDE" =some (.int 4294967296 t)
local macro_rules | `(tactic| simp_all? only[$ts,*])=> `(tactic| ((try dsimp[p7]);repeat(simp only[cB,zdo,iT,zd_,zdA,zdB,Nat.reduceAdd,Nat.reduceSub,Nat.reduceLT,Nat.reduceLeDiff,Int.reduceLT,Int.reduceLE,Int.reducePow,Int.reduceNeg,Int.reduceMul,Int.reduceAdd,Int.reduceSub,Int.reduceToNat,zdG,zdH,$ts,*];(try dsimp[p7]))))
local macro_rules | `(tactic| simp? only[$ts,*])=> `(tactic| ((try dsimp);repeat(simp only[cB,zdo,iT,zd_,zdA,zdB,Nat.reduceAdd,Nat.reduceSub,Nat.reduceLT,Nat.reduceLeDiff,Int.reduceLT,Int.reduceLE,Int.reducePow,Int.reduceNeg,Int.reduceMul,Int.reduceAdd,Int.reduceSub,Int.reduceToNat,zdG,zdH,$ts,*];(try dsimp))))
theorem dC:jO 10 18:=⟨by decide,by decide,by decide⟩
def yT (a b:Int):Prop:=0<=a/\0<=b/\b<=2147483647
abbrev zF (a b:Int):PO:= .lst [.int a,.int b]
def zhf:y4:=λxs st Q=> ∃(ns:List Int) (k:Int),xs= [.lst (ns.map .int),.int k]/\ns.length<=63/\0<=k/\∀a b,yT a b->Q (.obj st.length) (st++ [zF a b])
def uF:y4:=λxs st Q=> ∃(i:Nat) (many a b:Int),xs= [.obj i,.int many]/\st[i]?=some (zF a b)/\yT a b/\0 < many/\many < 1099511627776/\∀d a b,0<=d->d < many->yT a b->Q (.int d) (st.set i (zF a b))
theorem vZ {a b:Str} :decide (V.str a=V.str b)=decide (a=b):=by
 rw[Bool.eq_iff_iff];simp
inductive Tm (L:Type) where | num (k:Int) | lf (l:L) | op (s:Str)(a b:Tm L) | ite (a b c:Tm L)
def Tm.rank {L:Type} :Tm L->Nat
 | .op _ a b=>max a.rank b.rank+1
 | .ite a b c=>max a.rank (max b.rank c.rank)+1
 | _=>0
def Sg (s:Str):Prop:=s= "+" ∨s= "-" ∨s= "*" ∨s= "<" ∨s= "="
def tQ (s:Str)(a b:Int):Int:=if s= "+" then(a+b) % 4294967296 else if s= "-" then(a - b) % 4294967296 else if s= "*" then a * b % 4294967296 else if s= "<" then(if a < b then 1 else 0)else(if a=b then 1 else 0)
def In (i:Int):Prop:=0<=i/\i < 4294967296
theorem znK (s:Str)(a b:Int):In (tQ s a b):=by
 unfold tQ In
 split
 ·omega
 split
 ·omega
 split
 ·omega
 split
 ·split <;> omega
 ·split <;> omega
def Tm.val {L:Type}(lv:L->Int):Tm L->Int
 | .num k=>k
 | .lf l=>lv l
 | .op s a b=>tQ s (a.val lv) (b.val lv)
 | .ite a b c=>if a.val lv=0 then c.val lv else b.val lv
def Tm.ok {L:Type}(lo:L->Prop):Tm L->Prop
 | .num k=>In k
 | .lf l=>lo l
 | .op s a b=>Sg s/\a.ok lo/\b.ok lo
 | .ite a b c=>a.ok lo/\b.ok lo/\c.ok lo
def Tm.pv {L:Type}(lp:L->PV):Tm L->PV
 | .num k=> .tup [.str "num",.int k]
 | .lf l=>lp l
 | .op s a b=> .tup [.str "op",.str s,a.pv lp,b.pv lp]
 | .ite a b c=> .tup [.str "if",a.pv lp,b.pv lp,c.pv lp]
theorem sB {L:Type}{lo:L->Prop}{lv:L->Int}(h: ∀l,lo l->In (lv l)): ∀{t:Tm L},t.ok lo->In (t.val lv)
 | .num _,k=>k
 | .lf _,k=>h _ k
 | .op s a b,_=>znK s _ _
 | .ite a b c,k=>by
  show In (if a.val lv=0 then c.val lv else b.val lv)
  split
  ·exact sB h k.2.2
  ·exact sB h k.2.1
theorem sX {K:Frag}{A:List Addr}{H:Hp}{xs:List PV}{v:V}(h:RV K A H (.tup xs) v): ∃p vs,v= .ref p/\x4 K H p vs/\RVs K A H xs vs:=by
 cases h with | tup t z r=>exact⟨_,_,rfl,t.sq,r⟩
theorem tZ {K:Frag}{A:List Addr}{H:Hp}{x:PV}{xs:List PV}{vs:List V}(h:RVs K A H (x::xs) vs): ∃v us,vs=v::us/\RV K A H x v/\RVs K A H xs us:=by
 cases h with | cons r t=>exact⟨_,_,rfl,r,t⟩
theorem j7 {K:Frag}{A:List Addr}{H:Hp}{x:Str}{v:V}(h:RV K A H (.str x) v):v= .str x:=by cases h;rfl
theorem zp5 {K:Frag}{A:List Addr}{H:Hp}{x:Int}{v:V}(h:RV K A H (.int x) v):v= .int x:=by cases h;rfl
theorem zle {H H':Hp}(s:wK H H'):yC [] H [] H':=⟨⟨[],rfl,by simp⟩,λb o h _=>s b o h,λb h=>by
 cases e:H b with
 | none=>exact absurd e h
 | some o=>rw[s b o e];exact Option.some_ne_none _⟩
theorem mU {K:Frag}{H H':Hp}{x:PV}{v:V}(r:RV K [] H x v)(s:wK H H'):RV K [] H' x v:=r.grow (zle s)
def zce {L:Type}(K:Frag)(C:Hp->Prop)(lp:L->PV)(lo:L->Prop)(lv:L->Int):Sp:=λvs H Q _=> ∃p l,vs= [.ref p]/\RV K [] H (lp l) (.ref p)/\lo l/\C H/\∀H',wK H H'->Q (.int (lv l)) H'
structure ziq {L:Type}(P:Program)(w:World)(K:Frag)(mg:Str->Option Value)(base:Heap)(k:Nat)(lp:L->PV)(lo:L->Prop)(lv:L->Int)(f:Addr)(C:Hp->Prop):Prop where
 same: ∀H H',C H->wK H H'->C H'
 call: ∃o fd,o.data= .func fd/\(∀H,C H->H f=some (.ext (wI f o)))/\yH K fd ["leaf"] []/\zJ P w K mg base zI k f fd ["leaf"] (zce K C lp lo lv)
def uK {L:Type}(lp:L->PV):Prop:= ∀l,∃(kd:Str) (zB:List PV),lp l= .tup (.str kd::zB)/\kd≠ "num" /\kd≠ "op" /\kd≠ "if"
def zht:Sp:=λvs H Q _=> ∃(s:Str) (a b:Int),vs= [.str s,.int a,.int b]/\In a/\In b/\Q (.int (tQ s a b)) H
def zch {L:Type}(P:Program)(w:World)(K:Frag)(mg:Str->Option Value)(base:Heap)(k:Nat)(lp:L->PV)(lo:L->Prop)(lv:L->Int)(d:Nat):Sp:=λvs H Q _=> ∃(p f:Addr) (t:Tm L) (C:Hp->Prop),vs= [.ref p,.ref f]/\RV K [] H (t.pv lp) (.ref p)/\t.ok lo/\t.rank < d/\ziq P w K mg base k lp lo lv f C/\C H/\(∀l,lo l->In (lv l))/\∀H',wK H H'->Q (.int (t.val lv)) H'
theorem mL {L:Type}{K:Frag}{A:List Addr}{H:Hp}{lp:L->PV}{t:Tm L}{v:V}(hlp:uK lp)(h:RV K A H (t.pv lp) v): ∃p,v= .ref p:=by
 cases t with
 | lf l=>
  obtain⟨kd,zB,e,_⟩:=hlp l;have h':RV K A H (lp l) v:=h;rw[e]at h';obtain⟨p,_,e,_⟩:=sX h';exact⟨p,e⟩
 | num k=>obtain⟨p,_,e,_⟩:=sX h;exact⟨p,e⟩
 | op s a b=>obtain⟨p,_,e,_⟩:=sX h;exact⟨p,e⟩
 | ite a b c=>obtain⟨p,_,e,_⟩:=sX h;exact⟨p,e⟩
def Sqs (K:Frag)(H H':Hp):Prop:= ∀p xs,x4 K H p xs->x4 K H' p xs
theorem zci {K:Frag}{H H':Hp}(s:wK H H'):Sqs K H H':=λp xs e=>by
 rcases e with(e | ⟨o,e⟩) | e
 ·exact .inl (.inl (s p _ e))
 ·exact .inl (.inr ⟨o,s p _ e⟩)
 ·exact .inr e
section
variable {P:Program} {w:World} {K:Frag} {mg:Str->Option Value} {base:Heap}
theorem zns {f:Addr}{fd:FuncData}(M:Mo K mg)(F:zZ K "value_of_op" "value_of_op" nA f fd):zJ P w K mg base zI 1 f fd ["sign","one","other"] zht:=by
 obtain⟨tw,hwide⟩:=M.WIDE;refine F.ok zpL (λvs H Q E h=> ?_) (λcdv A outer s H vs Q E hr h=> ?_)
 ·obtain⟨sg,a,b,rfl,_⟩:=h
  rfl
 ·obtain⟨sg,a,b,rfl,ha,hb,k⟩:=h
  refine⟨_,(tT (qG (tV qC (pv 0) qF (zS _)) (tU (tS (o6 gB (o6 zga (pv 1) (pv 2)) (gD (v:= .int 4294967296) (by rfl) hwide ⟨_,rfl⟩)))) qI)
   (tT (qG (tV qC (pv 0) qF (zS _)) (tU (tS (o6 gB (o6 zge (pv 1) (pv 2)) (gD (v:= .int 4294967296) (by rfl) hwide ⟨_,rfl⟩)))) qI)
   (tT (qG (tV qC (pv 0) qF (zS _)) (tU (tS (o6 gB (o6 zgc (pv 1) (pv 2)) (gD (v:= .int 4294967296) (by rfl) hwide ⟨_,rfl⟩)))) qI)
   (tT (qG (tV qC (pv 0) qF (zS _)) (tU (tS (zby (tV zgb (pv 1) (pv 2) (zS _)) vE vE))) qI)
   (tU (tS (zby (tV qC (pv 1) (pv 2) (zS _)) vE vE))))))),?_⟩
  have w1:(0:Int) < 4294967296:=by decide
  refine⟨_,rfl,rfl,_,rfl,?_⟩;rw[vZ];refine wO (λh=> ?_) (λh1=> ?_)
  ·have h:=of_decide_eq_true h
   refine⟨_,rfl,_,rfl,_,_,rfl,rfl,_,_,rfl,rfl,w1,?_⟩;unfold tQ at k;rw[if_pos h]at k;exact k
  have h1: ¬ _:=λz=>h1 (decide_eq_true z);refine⟨_,rfl,rfl,_,rfl,?_⟩;rw[vZ];refine wO (λh=> ?_) (λh2=> ?_)
  ·have h:=of_decide_eq_true h
   refine⟨_,rfl,_,rfl,_,_,rfl,rfl,_,_,rfl,rfl,w1,?_⟩;unfold tQ at k;rw[if_neg h1,if_pos h]at k;exact k
  have h2: ¬ _:=λz=>h2 (decide_eq_true z);refine⟨_,rfl,rfl,_,rfl,?_⟩;rw[vZ];refine wO (λh=> ?_) (λh3=> ?_)
  ·have h:=of_decide_eq_true h
   refine⟨_,rfl,_,rfl,_,_,rfl,rfl,.inl ⟨by have:=ha.1;omega,by have:=ha.2;omega⟩,_,_,rfl,rfl,w1,?_⟩;unfold tQ at k;rw[if_neg h1,if_neg h2,if_pos h]at k;exact k
  have h3: ¬ _:=λz=>h3 (decide_eq_true z);refine⟨_,rfl,rfl,_,rfl,?_⟩;rw[vZ];refine wO (λh=> ?_) (λh4=> ?_)
  ·have h:=of_decide_eq_true h
   refine⟨_,rfl,_,rfl,_,_,rfl,rfl,_,rfl,?_⟩;unfold tQ at k;rw[if_neg h1,if_neg h2,if_neg h3,if_pos h]at k;refine wO (λh5=> ?_) (λh5=> ?_)
   ·rw[if_pos (of_decide_eq_true h5)]at k;exact k
   ·rw[if_neg (λz=>h5 (decide_eq_true z))]at k;exact k
  have h4: ¬ _:=λz=>h4 (decide_eq_true z);refine⟨_,rfl,_,rfl,rfl,_,rfl,?_⟩;unfold tQ at k;rw[if_neg h1,if_neg h2,if_neg h3,if_neg h4]at k;rw[iN];refine wO (λh5=> ?_) (λh5=> ?_)
  ·rw[if_pos (eq_of_beq h5)]at k;exact k
  ·rw[if_neg (λz=>h5 (by rw[z];exact beq_self_eq_true _))]at k;exact k
theorem zfX {L:Type}{lp:L->PV}{lo:L->Prop}{lv:L->Int}{kA:Nat}(hlp:uK lp){f:Addr}{fd:FuncData}(M:Mo K mg)(F:zZ K "value_by" "value_by" n9 f fd)(bvalue_by:yH K fd ["term","asked"] [])(mvalue_by:mg "value_by" =some (.ref f)): ∀d,zJ P w K mg base zI (kA+1+d) f fd ["term","asked"] (zch P w K mg base kA lp lo lv d)
 | 0=>by
  refine F.ok zbZ (λvs H Q E h=> ?_) (λcdv A outer s H vs Q E hr h=> ?_)
  ·obtain⟨p,f',t,C,rfl,_⟩:=h
   rfl
  ·obtain⟨p,f',t,C,_,_,_,hd,_⟩:=h
   exact absurd hd (by omega)
 | d+1=>by
  have IH:zJ P w K mg base zI (kA+1+d) f fd ["term","asked"] (zch P w K mg base kA lp lo lv d):=zfX hlp M F bvalue_by mvalue_by d;obtain⟨zkV,zkK,zcM,zjr,zm5⟩:=M.value_of_op;have ziF:zJ P w K mg base zI 1 zkV zkK ["sign","one","other"] zht:=zns M zcM;have Fvalue_by:=F;refine F.ok zbZ (λvs H Q E h=> ?_) (λcdv A outer s H vs Q E hr h=> ?_)
  ·obtain⟨p,f',t,C,rfl,_⟩:=h
   rfl
  ·obtain⟨p,f',t,C,rfl,hT,hok,hd,hA,hC,hin,k⟩:=h
   have hr1:zX 1 _:=hr.mono (show 1<=kA+1+d by omega);have hrV:zX kA _:=hr.mono (show kA<=kA+1+d by omega);refine⟨_,(tT (qG (tV qC (tR tM (pv 0) vE (λ_ _=>rfl)) qF (zS _)) (tU (tS (tR tM (pv 0) vE (λ_ _=>rfl)))) qI)
   (tT (qG (tV qC (tR tM (pv 0) vE (λ_ _=>rfl)) qF (zS _)) (tU (tS (o5 ziF hr1 (by rfl) zm5 zcM.kp zjr .nil qE (xW (tR tM (pv 0) vE (λ_ _=>rfl)) (xW (o5 IH hr (by rfl) mvalue_by Fvalue_by.kp bvalue_by .nil qE (xW (tR tM (pv 0) vE (λ_ _=>rfl)) (xW (pv 1) vQ))) (xW (o5 IH hr (by rfl) mvalue_by Fvalue_by.kp bvalue_by .nil qE (xW (tR tM (pv 0) vE (λ_ _=>rfl)) (xW (pv 1) vQ))) vQ)))))) qI)
   (tT (qG (tV qC (tR tM (pv 0) vE (λ_ _=>rfl)) qF (zS _)) (tT (zg0 (i:=2) zbZ.nd rfl (Or.inl rfl) (o5 IH hr (by rfl) mvalue_by Fvalue_by.kp bvalue_by .nil qE (xW (tR tM (pv 0) vE (λ_ _=>rfl)) (xW (pv 1) vQ))))
   (tU (tS (o5 IH hr (by rfl) mvalue_by Fvalue_by.kp bvalue_by .nil qE (xW (zby (tV znF (pv 2) vE (zS _)) (tR tM (pv 0) vE (λ_ _=>rfl)) (tR tM (pv 0) vE (λ_ _=>rfl))) (xW (pv 1) vQ)))))) qI)
   (tU (tS (znV (i:=1) (ps:= ["leaf"]) hrV rfl (Or.inl rfl) qE (xW (pv 0) vQ))))))),?_⟩
   cases t with
   | lf l=>
    obtain⟨kd,zB,el,n1,n2,n3⟩:=hlp l;have hT':RV K [] H (.tup (.str kd::zB)) (.ref p):=by rw[<- el];exact hT
    obtain⟨p',vs,e,hs,r⟩:=sX hT';cases e;obtain⟨_,us,rfl,r0,_⟩:=tZ r;cases j7 r0;refine⟨_,rfl,p,_,0,_,rfl,rfl,hs,sI,rfl,_,rfl,?_⟩;rw[vZ];refine wO (λh=>absurd (of_decide_eq_true h) n1) (λ_=> ?_);refine⟨_,rfl,p,_,0,_,rfl,rfl,hs,sI,rfl,_,rfl,?_⟩;rw[vZ];refine wO (λh=>absurd (of_decide_eq_true h) n2) (λ_=> ?_);refine⟨_,rfl,p,_,0,_,rfl,rfl,hs,sI,rfl,_,rfl,?_⟩;rw[vZ];refine wO (λh=>absurd (of_decide_eq_true h) n3) (λ_=> ?_);obtain⟨o,fd',hdat,hfn,hb,hF⟩:=hA.call;exact⟨f',o,fd',rfl,hdat,_,rfl,zce K C lp lo lv,hfn H hC,hF,hb,p,l,rfl,hT,hok,hC,k⟩
   | num n=>
    obtain⟨p',vs,e,hs,r⟩:=sX hT;cases e;obtain⟨_,us,rfl,r0,q1⟩:=tZ r;obtain⟨_,us,rfl,r1,q2⟩:=tZ q1;cases j7 r0;cases zp5 r1;refine⟨_,rfl,p,_,0,_,rfl,rfl,hs,sI,rfl,_,rfl,?_⟩;rw[vZ];refine wO (λ_=> ?_) (λh=>absurd (decide_eq_true rfl) h);exact⟨_,rfl,p,_,1,_,rfl,rfl,hs,at1,k H (wK.refl H)⟩
   | op sg x1 x2=>
    obtain⟨p',vs,e0,e,ra⟩:=sX hT;cases e0;obtain⟨_,us,rfl,r0,q1⟩:=tZ ra;obtain⟨_,us,rfl,r1,q2⟩:=tZ q1;obtain⟨_,us,rfl,h1,q3⟩:=tZ q2;obtain⟨_,us,rfl,h2,q4⟩:=tZ q3;cases j7 r0;cases j7 r1;obtain⟨q,rfl⟩:=mL hlp h1;obtain⟨r,rfl⟩:=mL hlp h2;obtain⟨hs,o1,o2⟩:=hok;have rk:max x1.rank x2.rank+1 < d+1:=hd;refine⟨_,rfl,p,_,0,_,rfl,rfl,e,sI,rfl,_,rfl,?_⟩;rw[vZ];refine wO (λh=>absurd (of_decide_eq_true h) (by decide+kernel)) (λ_=> ?_);refine⟨_,rfl,p,_,0,_,rfl,rfl,e,sI,rfl,_,rfl,?_⟩;rw[vZ];refine wO (λ_=> ?_) (λh=>absurd (decide_eq_true rfl) h);refine⟨_,rfl,p,_,1,_,rfl,rfl,e,at1,?_⟩;refine⟨_,rfl,p,_,2,_,rfl,rfl,e,v6 (j:=2) rfl,_,rfl,q,f',x1,C,rfl,h1,o1,by omega,hA,hC,hin,λH1 s1=> ?_⟩;refine⟨_,rfl,p,_,3,_,rfl,rfl,(zci s1 _ _ e),v6 (j:=3) rfl,_,rfl,r,f',x2,C,rfl,mU h2 s1,o2,by omega,hA,hA.same _ _ hC s1,hin,λH2 s2=> ?_⟩;exact⟨sg,_,_,rfl,sB hin o1,sB hin o2,k H2 (s1.trans s2)⟩
   | ite x1 x2 x3=>
    obtain⟨p',vs,e0,e,ra⟩:=sX hT;cases e0;obtain⟨_,us,rfl,r0,q1⟩:=tZ ra;obtain⟨_,us,rfl,h1,q2⟩:=tZ q1;obtain⟨_,us,rfl,h2,q3⟩:=tZ q2;obtain⟨_,us,rfl,h3,q4⟩:=tZ q3;cases j7 r0;obtain⟨q,rfl⟩:=mL hlp h1;obtain⟨r,rfl⟩:=mL hlp h2;obtain⟨u,rfl⟩:=mL hlp h3;obtain⟨o1,o2,o3⟩:=hok;have rk:max x1.rank (max x2.rank x3.rank)+1 < d+1:=hd;refine⟨_,rfl,p,_,0,_,rfl,rfl,e,sI,rfl,_,rfl,?_⟩;rw[vZ];refine wO (λh=>absurd (of_decide_eq_true h) (by decide+kernel)) (λ_=> ?_);refine⟨_,rfl,p,_,0,_,rfl,rfl,e,sI,rfl,_,rfl,?_⟩;rw[vZ];refine wO (λh=>absurd (of_decide_eq_true h) (by decide+kernel)) (λ_=> ?_);refine⟨_,rfl,p,_,0,_,rfl,rfl,e,sI,rfl,_,rfl,?_⟩;rw[vZ];refine wO (λ_=> ?_) (λh=>absurd (decide_eq_true rfl) h);refine⟨_,rfl,p,_,1,_,rfl,rfl,e,at1,_,rfl,q,f',x1,C,rfl,h1,o1,by omega,hA,hC,hin,λH1 s1=> ?_⟩;refine⟨_,rfl,rfl,_,rfl,?_⟩;rw[iN];have kk: ∀H',wK H H'->Q (.int (if x1.val lv=0 then x3.val lv else x2.val lv)) H':=k;by_cases hz:x1.val lv=0
    ·rw[show(x1.val lv==0)=true by rw[hz];rfl]
     refine zl1 ⟨_,rfl,p,_,3,_,rfl,rfl,(zci s1 _ _ e),v6 (j:=3) rfl,_,rfl,u,f',x3,C,rfl,mU h3 s1,o3,by omega,hA,hA.same _ _ hC s1,hin,λH2 s2=> ?_⟩;have:=kk H2 (s1.trans s2);rw[if_pos hz]at this;exact this
    ·rw[show(x1.val lv==0)=false by simpa using hz]
     refine zl2 ⟨_,rfl,p,_,2,_,rfl,rfl,(zci s1 _ _ e),v6 (j:=2) rfl,_,rfl,r,f',x2,C,rfl,mU h2 s1,o2,by omega,hA,hA.same _ _ hC s1,hin,λH2 s2=> ?_⟩;have:=kk H2 (s1.trans s2);rw[if_neg hz]at this;exact this
end
inductive uJ where | was | mine | yours
def uJ.pv:uJ->PV | .was=> .tup [.str "was"] | .mine=> .tup [.str "mine"] | .yours=> .tup [.str "yours"]
def uJ.val (w m y:Int):uJ->Int | .was=>w | .mine=>m | .yours=>y
theorem zfv:uK uJ.pv:=λl=>by cases l <;> exact⟨_,[],rfl,by decide+kernel,by decide+kernel,by decide+kernel⟩
theorem zq4 {T:Addr}{P:Pos}{q:Str}{H H':Hp}(h:rV T P q H)(k: ∀b ps,H b=some (.tbl ps)->H' b=some (.tbl ps))(k2: ∀b φ,H b=some (.ext φ)->H' b=some (.ext φ)):rV T P q H':=by
 obtain⟨ps,e,z | ⟨c',z,e2⟩⟩:=h
 ·exact⟨ps,k _ _ e,.inl z⟩
 ·exact⟨ps,k _ _ e,.inr ⟨c',z,k2 _ _ e2⟩⟩
theorem zp4 {K:Frag}{T:Addr}{H H':Hp}{x:PV}{v:V}(r:RV K [T] H x v)(bt:lF T H H')(h:H' T≠none):RV K [T] H' x v:=r.grow ⟨⟨[],rfl,by simp⟩,λb o e n=>bt b o e (λz=>n (List.mem_singleton.mpr z)),λb hb=>by
 by_cases z:b=T
 ·rw[z];exact h
 ·cases e:H b with
  | none=>exact absurd e hb
  | some o=>rw[bt b o e z];exact Option.some_ne_none _⟩
theorem zp6 {K:Frag}{T:Addr}{H:Hp}{x:PV}{v:V}(r:RV K [T] H x v):RV K [] H x v:=r.less λb hb=>absurd hb (by simp)
def lvA:Arguments:=match yM xU with | [.Return (some (.Call _ [_,.Lambda a _ _ _] _ _)) _]=>a | _=>yR xU
def lvB:Expr:=match yM xU with | [.Return (some (.Call _ [_,.Lambda _ b _ _] _ _)) _]=>b | _=> .Constant .none 0 ⟨0,0,0,0⟩
def mF:Scope:=match yM xU with | [.Return (some (.Call _ [_,.Lambda _ _ s _] _ _)) _]=>s | _=>zK xU
def u8:Pos:=match yM xU with | [.Return (some (.Call _ [_,.Lambda _ _ _ p] _ _)) _]=>p | _=>⟨0,0,0,0⟩
def wU:Str:=("value_of" ++ ".<locals>.")++ "<lambda>"
abbrev uY (c1 c2:Addr):List (Str×Addr):= [("program",c1),("house",c2)]
abbrev lvO (c1 c2 c':Addr)(pm ctv:Value):Obj:=PySem.W.kla_obj "<lambda>" wU lvA lvB mF (uY c1 c2) pm c' ctv
structure lN (K:Frag)(prog hs:PV)(H:Hp)(f c1 c2 c':Addr)(oz:Addr->Obj)(dv:Addr->Addr)(pm ctv:Value):Prop where
 fn:H f=some (.ext (wI f (lvO c1 c2 c' pm ctv)))
 cd:H c'=some (.ext (uG c' wU))
 cl: ∀c∈(uY c1 c2).map (·.2),H c=some (.ext (wI c (oz c)))
 pg:RV K [] H prog (.ref (dv c1))
 hs:RV K [] H hs (.ref (dv c2))
theorem lN.same {K:Frag}{prog hs:PV}{H H':Hp}{f c1 c2 c':Addr}{oz:Addr->Obj}{dv:Addr->Addr}{pm ctv:Value}(h:lN K prog hs H f c1 c2 c' oz dv pm ctv)(s:wK H H'):lN K prog hs H' f c1 c2 c' oz dv pm ctv:=
 ⟨s _ _ h.fn,s _ _ h.cd,λc m=>s _ _ (h.cl c m),mU h.pg s,mU h.hs s⟩
theorem zq7 {K:Frag}{H H':Hp}(k: ∀b o,H b=some o->(∀φ,o≠ .ext φ)->H' b=some o){a:Addr}{vs:List V}(h:uO K [] H a vs):uO K [] H' a vs:=by
 rcases h with⟨e | ⟨o,e⟩,n⟩ | h
 ·exact .inl ⟨.inl (k _ _ e λφ z=>by cases z),n⟩
 ·exact .inl ⟨.inr ⟨o,k _ _ e λφ z=>by cases z⟩,n⟩
 ·exact .inr h
theorem zlY {K:Frag}{H H':Hp}(k: ∀b o,H b=some o->(∀φ,o≠ .ext φ)->H' b=some o){a:Addr}{vs:List V}(h:uL K [] H a vs):uL K [] H' a vs:=by
 rcases h with⟨e | ⟨o,e⟩,n⟩ | h
 ·exact .inl ⟨.inl (k _ _ e λφ z=>by cases z),n⟩
 ·exact .inl ⟨.inr ⟨o,k _ _ e λφ z=>by cases z⟩,n⟩
 ·exact .inr h
mutual
theorem zgP {K:Frag}{H H':Hp}(k: ∀b o,H b=some o->(∀φ,o≠ .ext φ)->H' b=some o){x:PV}{v:V} :zH x < 1000->RV K [] H x v->RV K [] H' x v
 | _,.non=> .non
 | _,.bl b=> .bl b
 | _,.int i=> .int i
 | _,.str x=> .str x
 | _,.ty n=> .ty n
 | h,.tup t z r=> .tup (zq7 k t) z (rvs_only k (by unfold zH at h;omega) r)
 | h,.lst t z r=> .lst (zlY k t) z (rvs_only k (by unfold zH at h;omega) r)
 | h,.dct _ _ _=>absurd h (by unfold zH;decide)
 | h,.itb _ _=>absurd h (by unfold zH;decide)
 | h,.clo _=>absurd h (by unfold zH;decide)
theorem rvs_only {K:Frag}{H H':Hp}(k: ∀b o,H b=some o->(∀φ,o≠ .ext φ)->H' b=some o){xs:List PV}{vs:List V} :dpts xs < 1000->RVs K [] H xs vs->RVs K [] H' xs vs
 | _,.nil=> .nil
 | h,.cons r t=> .cons (zgP k (by unfold dpts at h;omega) r) (rvs_only k (by unfold dpts at h;omega) t)
end
section
variable {P:Program} {w:World} {K:Frag} {mg:Str->Option Value} {base:Heap}
theorem zmc {L:Type}{lp:L->PV}{lo:L->Prop}{lv:L->Int}{prog hs:PV}{kV:Nat}{fVA:Addr}{fdVA:FuncData}{SVA:y4}{f c1 c2 c':Addr}{oz:Addr->Obj}{dv:Addr->Addr}{pm ctv:Value}
  (GVA:zJ P w K mg base zI kV fVA fdVA ["program","house","leaf"] (zN K SVA)) (mVA:mg "value_asked" =some (.ref fVA)) (kVA:keepIn K (.ref fVA)=true) (bVA:yH K fdVA ["program","house","leaf"] [])
  (hS: ∀(l:L) (st:z8) (Q:K3),lo l->Q (.int (lv l)) st->SVA [prog,hs,lp l] st Q) (oz2: ∀c∈(uY c1 c2).map (·.2),(oz c).data= .cell (some (.ref (dv c)))) (hcn:c1≠c2) (dp:zH prog < 1000) (dh:zH hs < 1000) (dl: ∀l,zH (lp l) < 1000):
  zJ P w K mg base zI (kV+1) f (kla_fn "<lambda>" wU lvA lvB mF (uY c1 c2) pm (.ref c') ctv) ["leaf"] (zce K (λH=>lN K prog hs H f c1 c2 c' oz dv pm ctv) lp lo lv):=by
 refine zlN (ps:= ["leaf"]) (cl:=uY c1 c2) (oz:=oz) (dv:=dv) (scope:=mF) oz2 rfl rfl rfl (by decide+kernel) (λx hx=> ?_) (λy hy=> ?_) (λz hz=> ?_) (by decide+kernel) (show(["program","house"]:List Str).Nodup by decide+kernel) (by simpa using hcn) (λvs H Q E h=> ?_) (λA outer s H vs Q E hr h=> ?_)
 ·cases List.mem_singleton.mp hx;rfl
 ·rcases List.mem_cons.mp hy with rfl | hy
  ·rfl
  ·cases List.mem_singleton.mp hy;rfl
 ·by_cases e1:z= "house"
  ·rw[e1];exact List.mem_cons_of_mem _ List.mem_cons_self
  by_cases e2:z= "program"
  ·rw[e2];exact List.mem_cons_self
  exfalso;have hz':([("leaf",NameKind.local),("house",NameKind.free),("program",NameKind.free),("value_asked",NameKind.globalImplicit)]:List (Str×NameKind)).lookup z=some .free:=hz;have h1:(z==("house" :Str))=false:=by simpa using e1
  have h2:(z==("program" :Str))=false:=by simpa using e2
  rw[List.lookup_cons]at hz';by_cases e3:z= "leaf"
  ·subst e3;rw[beq_self_eq_true]at hz';cases hz'
  ·rw[show(z==("leaf" :Str))=false by simpa using e3]at hz'
   simp only[List.lookup_cons,h1,h2]at hz';by_cases e4:z= "value_asked"
   ·subst e4;rw[beq_self_eq_true]at hz';cases hz'
   ·rw[show(z==("value_asked" :Str))=false by simpa using e4]at hz';cases hz'
 ·obtain⟨p,l,rfl,hT,hl,hA,q⟩:=h
  exact⟨rfl,hA.fn,hA.cd,hA.cl⟩
 ·obtain⟨p,l,e,hT,hl,hA,q⟩:=h
  subst e;refine⟨_,o5 GVA hr (by rfl) mVA kVA bVA .nil qE (xW (pv 1) (xW (pv 2) (xW (pv 0) vQ))),?_⟩;refine⟨_,rfl,_,rfl,_,rfl,?_⟩;have nk: ∀b o,H b=some o->(∀φ,o≠ .ext φ)->vH H ((uY c1 c2).map (·.2)) b=some o:=λb o hb n=>by
   rw[w9 (λz=>by rw[hA.cl b z]at hb;cases hb;exact n _ rfl)];exact hb
  have nl: ∀{x:PV} {v:V},zH x < 1000->RV K [] H x v->RV K [] (vH H ((uY c1 c2).map (·.2))) x v:=λd r=>zgP nk d r;refine⟨[],[],[prog,hs,lp l],λr _=>r= .int (lv l),⟨by simp,rfl,λi a o h=>by cases h⟩,.cons (.val (nl dp hA.pg)) (.cons (.val (nl dh hA.hs)) (.cons (.val (nl (dl l) hT)) .nil)),hS l _ _ hl rfl,λA' H' st' r v g rs e hq=> ?_⟩;subst hq;cases x8 e;refine q _ λb o hb=> ?_;by_cases m:b∈(uY c1 c2).map (·.2)
  ·rw[zda m];exact hb
  ·rw[rW m];exact g.keep b o (by rw[w9 m];exact hb) (by simp)
end
def zhy {L:Type}(K:Frag)(lp:L->PV)(SVA:y4)(T:Addr):Sp:=λvs H Q _=> ∃(a b p:Addr) (prog hs:PV) (lo:L->Prop) (lv:L->Int) (t:Tm L),vs= [.ref a,.ref b,.ref p]/\zH prog < 1000/\zH hs < 1000/\RV K [T] H prog (.ref a)/\RV K [T] H hs (.ref b)/\RV K [T] H (t.pv lp) (.ref p)/\t.ok lo/\t.rank < 7/\rV T u8 wU H/\(∀l,lo l->In (lv l))/\
 (∀(l:L) (st:z8) (Q:K3),lo l->Q (.int (lv l)) st->SVA [prog,hs,lp l] st Q)/\∀H',lF T H H'->rV T u8 wU H'->Q (.int (t.val lv)) H'
theorem zrg {H:Hp}{cs:List Addr}{oz:Addr->Obj}(n: ∀c∈cs,H c=none):wK H (nE H cs oz):=λb o e=>by rw[tD (λz=>by rw[n b z]at e;cases e)];exact e
section
variable {P:Program} {w:World} {K:Frag} {mg:Str->Option Value} {base:Heap}
theorem zmb {env:Env}{c1 c2:Addr}(h1:env.cells.lookup ("program" :Str)=some c1)(h2:env.cells.lookup ("house" :Str)=some c2):closureFor mF env=pure (uY c1 c2):=by
 have e:vG mF.names env.cells= [(("program" :Str),(env.cells.lookup ("program" :Str)).getD 0),(("house" :Str),(env.cells.lookup ("house" :Str)).getD 0)]:=rfl;rw[d9 (λp hp hf=> ?_),e,h1,h2]
 ·rfl
 ·have hp':p∈([("leaf",NameKind.local),("house",NameKind.free),("program",NameKind.free),("value_asked",NameKind.globalImplicit)]:List (Str×NameKind)):=hp
  rcases List.mem_cons.mp hp' with z | hp'
  ·rw[z]at hf;cases hf
  rcases List.mem_cons.mp hp' with z | hp'
  ·rw[z];exact⟨c2,h2⟩
  rcases List.mem_cons.mp hp' with z | hp'
  ·rw[z];exact⟨c1,h1⟩
  ·rw[List.mem_singleton.mp hp']at hf;cases hf
theorem zma {c1 c2 c':Addr}{pm ctv:Value} :yH K (kla_fn "<lambda>" wU lvA lvB mF (uY c1 c2) pm (.ref c') ctv) ["leaf"] []:= .all λus hl=>by obtain⟨x0,rfl⟩:=List.length_eq_one_iff.mp hl;rfl
theorem zni {L:Type}{lp:L->PV}{SVA:y4}{T c0 f:Addr}{fd:FuncData}{kV:Nat}{fVA:Addr}{fdVA:FuncData}(hlp:uK lp)(dl: ∀l,zH (lp l) < 1000)(M:Mo K mg)(GVA:zJ P w K mg base zI kV fVA fdVA ["program","house","leaf"] (zN K SVA))(mVA:mg "value_asked" =some (.ref fVA))(kVA:keepIn K (.ref fVA)=true)(bVA:yH K fdVA ["program","house","leaf"] [])
  (F:sZ K "value_of" "value_of" xU f fd c0) (hC:PySem.W.codeHdIn K c0 T=true) (hB:base.BuiltinsAt mg T):zJ P w K mg base zI (kV+1+1+7+1) f fd ["program","house","term"] (zhy K lp SVA T):=by
 obtain⟨fVB,fdVB,FVB,bVB,mVB⟩:=M.value_by
 refine sZ.ok F zpK (λvs H Q E h=> ?_) (λA outer s H vs Q E hr h=> ?_)
 ·obtain⟨a,b,p,prog,hs,lo,lv,t,rfl,_⟩:=h
  rfl
 ·obtain⟨a,b,p,prog,hs,lo,lv,t,rfl,dp,dh,hP,hH,hT,hok,hrk,hTb,hin,hS,k⟩:=h
  have GVB:zJ P w K mg base zI (kV+1+1+7) fVB fdVB ["term","asked"] (zch P w K mg base (kV+1) lp lo lv 7):=zfX hlp M FVB bVB mVB 7;obtain⟨c1,c2,hc1,hc2,ncc⟩: ∃c1 c2,(sK zI P w K mg base ["program","house","term"] "value_of" (zK xU) f (.ref c0) A outer s H E).nox.env.cells.lookup ("program" :Str)=some c1/\(sK zI P w K mg base ["program","house","term"] "value_of" (zK xU) f (.ref c0) A outer s H E).nox.env.cells.lookup ("house" :Str)=some c2/\c1≠c2:=⟨s.heap.objs.size+1,s.heap.objs.size+1+1,rfl,rfl,λz=>Nat.succ_ne_self _ z.symm⟩;refine⟨_,tU (tS (znU (cl:=uY c1 c2) (ix:= [0,1]) GVB hr (by rfl) mVB FVB.kp bVB (λj q i h1 h2=> ?_) (λq hq=> ?_) (λq hq=> ?_) (λq hq=> ?_) (xW (pv 2) (xW (znZ rfl (zmb hc1 hc2) rfl hC hB (λ_=>codeAmong_snoc [] trivial rfl) (λ_=>trivial)) vQ)))),?_⟩
  ·match j,h1,h2 with
   | 0,h1,h2=>cases h1;cases h2;rfl
   | 1,h1,h2=>cases h1;cases h2;rfl
   | j+2,h1,h2=>cases h1
  ·rcases List.mem_cons.mp hq with rfl | hq
   ·rfl
   ·cases List.mem_singleton.mp hq;rfl
  ·rcases List.mem_cons.mp hq with rfl | hq
   ·exact hc1
   ·cases List.mem_singleton.mp hq;exact hc2
  ·rcases List.mem_cons.mp hq with rfl | hq
   ·rfl
   ·cases List.mem_singleton.mp hq;rfl
  refine⟨_,rfl,hTb,λf' c' pm ctv H2 hf bt tb hff hcc=> ?_⟩;refine⟨λc=>if c=c1 then a else b,λj q h1=> ?_,λnc oz ho=> ?_⟩
  ·match j,h1 with
   | 0,h1=>cases h1;exact⟨0,rfl,show _=some (some (V.ref (if c1=c1 then a else b))) by rw[if_pos rfl];rfl⟩
   | 1,h1=>cases h1;exact⟨1,rfl,show _=some (some (V.ref (if c2=c1 then a else b))) by rw[if_neg (Ne.symm ncc)];rfl⟩
   | j+2,h1=>cases h1
  have n2:H2 T≠none:=by obtain⟨ps,e2,_⟩:=tb;rw[e2];exact Option.some_ne_none _
  have vc:=zrg (oz:=oz) nc;have mv: ∀{x:PV} {v:V},RV K [T] H x v->RV K [] (nE H2 ((uY c1 c2).map (·.2)) oz) x v:=λr=>mU (zp6 (zp4 r bt n2)) vc;refine⟨p,f',t,λH=>lN K prog hs H f' c1 c2 c' oz (λc=>if c=c1 then a else b) pm ctv,rfl,mv hT,hok,hrk,⟨λ_ _ h s=>h.same s,lvO c1 c2 c' pm ctv,_,rfl,λ_ h=>h.fn,zma,zmc GVA mVA kVA bVA hS ho ncc dp dh dl⟩,
   ⟨vc _ _ hff,vc _ _ hcc,λc m=>zc3 m,?_,?_⟩,hin,λH3 s3=>⟨λc m=>s3 _ _ (zc3 m),k _ (λd o e n=> ?_) ?_⟩⟩
  ·show RV K [] _ prog (.ref (if c1=c1 then a else b))
   rw[if_pos rfl];exact mv hP
  ·show RV K [] _ hs (.ref (if c2=c1 then a else b))
   rw[if_neg (Ne.symm ncc)];exact mv hH
  ·have e2:=bt d o e n
   rw[w9 (λz=>by rw[nc d z]at e2;cases e2)];exact s3 _ _ (vc _ _ e2)
  ·refine zq4 tb (λd ps e=> ?_) λd φ e=> ?_
   ·rw[w9 (λz=>by rw[nc d z]at e;cases e)];exact s3 _ _ (vc _ _ e)
   ·rw[w9 (λz=>by rw[nc d z]at e;cases e)];exact s3 _ _ (vc _ _ e)
end
theorem zp3 {K:Frag}{A:List Addr}{H:Hp}{st:z8}{i:Nat}{T:Addr}{pos:Pos}{q:Str}(rs:RS K A H st)(hi:st[i]?=some (.tbl T pos q)):
  rV T pos q H/\T∈A/\∀H',lF T H H'->rV T pos q H'->yC A H A H'/\RS K A H' st:=by
 have hil:i < A.length:=by rw[rs.len];exact(List.getElem?_eq_some_iff.mp hi).1
 have hA:A[i]?=some A[i]:=List.getElem?_eq_getElem hil;obtain⟨ea,ps,e,hps⟩:=rs.at_ i _ _ hA hi;rw[ea]at hA e;have mT:T∈A:=List.mem_of_getElem? hA;refine⟨⟨ps,e,hps.imp id λ⟨c',a,b,_⟩=>⟨c',a,b⟩⟩,mT,λH' bt tb=> ?_⟩;have g:yC A H A H':=by
  refine⟨⟨[],by simp,by simp⟩,λb o h n=>bt b o h λz=>n (z▸mT),λb hb=> ?_⟩;by_cases z:b=T
  ·obtain⟨ps',e',_⟩:=tb
   rw[z,e'];exact Option.some_ne_none _
  ·cases ho:H b with
   | none=>exact absurd ho hb
   | some o=>rw[bt b o ho z];exact Option.some_ne_none _
 refine⟨g,rs.nd,rs.len,λj a o h1 h2=> ?_⟩;by_cases z:a=T
 ·subst z
  have hij:i=j:=(List.getElem?_inj (List.getElem?_eq_some_iff.mp hA).1 rs.nd).mp (hA.trans h1.symm);subst hij;rw[hi]at h2;cases h2;obtain⟨ps',e',h'⟩:=tb;refine⟨rfl,ps',e',h'.imp id λ⟨c',a1,b1⟩=>⟨c',a1,b1,λmc=> ?_⟩⟩;obtain⟨i',o',f1,f2,oa⟩:=rs.has mc;have nc:c'≠a:=λz=>by rw[z,e']at b1;cases b1
  cases o' with
  | lst xs=>obtain⟨us,h,_⟩:=oa;rw[bt _ _ h nc]at b1;cases b1
  | dct xs=>obtain⟨us,h,_⟩:=oa;rw[bt _ _ h nc]at b1;cases b1
  | tbl T' p' q'=>obtain⟨_,us,h,_⟩:=oa;rw[bt _ _ h nc]at b1;cases b1
  | itb kvs=>rw[bt _ _ (show _=_ from oa) nc]at b1;cases b1
 ·have oa:=rs.at_ j a o h1 h2
  refine oa.move g ?_;cases ho:H a with
  | none=>exact absurd ho oa.some
  | some u=>exact bt a u ho z
theorem zpu {L:Type}{K:Frag}{A:List Addr}{H:Hp}{lp:L->PV}{t:Tm L}{v:V}(hlp:uK lp)(e:RE K A H (t.pv lp) v):RV K A H (t.pv lp) v:=by
 cases t with
 | lf l=>
  obtain⟨kd,zB,el,_⟩:=hlp l;have e':RE K A H (lp l) v:=e;show RV K A H (lp l) v;rw[el]at e'⊢
  cases e' with | val e=>exact e
 | num k=>unfold Tm.pv at e⊢;cases e with | val e=>exact e
 | op s a b=>unfold Tm.pv at e⊢;cases e with | val e=>exact e
 | ite a b c=>unfold Tm.pv at e⊢;cases e with | val e=>exact e
theorem zgC {K:Frag}{A:List Addr}{H:Hp}{xs:List PV}{v:V}(e:RE K A H (.tup xs) v):RV K A H (.tup xs) v:=by cases e with | val e=>exact e
theorem zbU {K:Frag}{A:List Addr}{T:Addr}{H:Hp}{x:PV}{v:V}(m:T∈A)(r:RV K A H x v):RV K [T] H x v:=r.less λb hb=>by rw[List.mem_singleton.mp hb];exact m
def fE {L:Type}(lp:L->PV)(SVA:y4)(T:Addr):y4:=λxs st Q=> ∃(pr ho:List PV) (t:Tm L) (lo:L->Prop) (lv:L->Int) (i:Nat),xs= [.tup pr,.tup ho,t.pv lp]/\dpts pr < 999/\dpts ho < 999/\st[i]?=some (.tbl T u8 wU)/\t.ok lo/\t.rank < 7/\(∀l,lo l->In (lv l))/\(∀(l:L) (st:z8) (Q:K3),lo l->Q (.int (lv l)) st->SVA [.tup pr,.tup ho,lp l] st Q)/\Q (.int (t.val lv)) st
section
variable {P:Program} {w:World} {K:Frag} {mg:Str->Option Value} {base:Heap}
theorem zrc {L:Type}{lp:L->PV}{SVA:y4}{T:Addr}{vs:List V}{H:Hp}{Q:VK}{E:XK}(hlp:uK lp)(h:zN K (fE lp SVA T) vs H Q E):zhy K lp SVA T vs H Q E:=by
 obtain⟨A,st,xs,Q3,rs,ex,⟨pr,ho,t,lo,lv,i,rfl,dp,dh,hi,hok,hrk,hin,hS,q⟩,k⟩:=h;rcases ex with _ | ⟨e1,_ | ⟨e2,_ | ⟨e3,ex⟩⟩⟩
 cases ex;obtain⟨hTb,mT,eW⟩:=zp3 rs hi;have r:=zpu hlp e3;obtain⟨p,rfl⟩:=mL hlp r;have r1:=zgC e1;have r2:=zgC e2;obtain⟨a,_,rfl,_⟩:=sX r1;obtain⟨b,_,rfl,_⟩:=sX r2;exact⟨a,b,p,_,_,lo,lv,t,rfl,by unfold zH;omega,by unfold zH;omega,zbU mT r1,zbU mT r2,zbU mT r,hok,hrk,hTb,hin,hS,λH' bt tb=>k A H' st _ _ (eW H' bt tb).1 (eW H' bt tb).2 (.val (.int _)) q⟩
theorem zfY {L:Type}{lp:L->PV}{SVA:y4}{T c0 f:Addr}{fd:FuncData}{kV:Nat}{fVA:Addr}{fdVA:FuncData}(hlp:uK lp)(dl: ∀l,zH (lp l) < 1000)(M:Mo K mg)(GVA:zJ P w K mg base zI kV fVA fdVA ["program","house","leaf"] (zN K SVA))(mVA:mg "value_asked" =some (.ref fVA))(kVA:keepIn K (.ref fVA)=true)(bVA:yH K fdVA ["program","house","leaf"] [])
  (F:sZ K "value_of" "value_of" xU f fd c0) (hC:PySem.W.codeHdIn K c0 T=true) (hB:base.BuiltinsAt mg T):zJ P w K mg base zI (kV+1+1+7+1) f fd ["program","house","term"] (zN K (fE lp SVA T)):=
 (zni hlp dl M GVA mVA kVA bVA F hC hB).imp λvs H Q E h=>zrc hlp h
end
theorem zqE (ys:List Str)(n:Nat)(h: ∀y∈ys,y.length<=n):(ys.map (·.length)).sum<=n * ys.length:=by
 induction ys with
 | nil=>simp
 | cons y r ih=>
  have h1:=h y List.mem_cons_self;have h2:=ih λz hz=>h z (List.mem_cons_of_mem _ hz);rw[List.map_cons,List.sum_cons,List.length_cons,Nat.mul_succ];omega
theorem zoi {ss:List (Str×PV)}{M:List (Str×Int)}(h:ss.Perm (M.map λq=>(q.1,PV.int q.2))): ∃Z:List (Str×Int),Z.Perm M/\ss=Z.map λq=>(q.1,PV.int q.2):=by
 have gen: ∀{a b:List (Str×PV)},a.Perm b->∀M:List (Str×Int),b=M.map (λq=>(q.1,PV.int q.2))->∃Z:List (Str×Int),Z.Perm M/\a=Z.map λq=>(q.1,PV.int q.2):=by
  intro a b p
  induction p with
  | nil=>intro M h;cases M with
   | nil=>exact⟨[],.nil,rfl⟩
   | cons q M=>cases h
  | cons x p ih=>intro M h;cases M with
   | nil=>cases h
   | cons q M=>
    obtain⟨h1,h2⟩:=List.cons.inj h;obtain⟨Z,hZ,e⟩:=ih M h2;exact⟨q::Z,.cons _ hZ,by rw[e,h1];rfl⟩
  | swap x y l=>intro M h;cases M with
   | nil=>cases h
   | cons q M=>cases M with
    | nil=>cases h
    | cons r M=>
     obtain⟨h1,h2⟩:=List.cons.inj h;obtain⟨h3,h4⟩:=List.cons.inj h2;exact⟨r::q::M,.swap _ _ _,by rw[h1,h3,h4];rfl⟩
  | trans p q ih1 ih2=>
   intro M h;obtain⟨Z,hZ,e⟩:=ih2 M h;obtain⟨Z2,hZ2,e2⟩:=ih1 Z e;exact⟨Z2,hZ2.trans hZ,e2⟩
 exact gen h M rfl
theorem zcT: ∀(b a:List (Str×Int)) (q:Str×Int),wN a (b++ [q])=wE (wN a b) q.1 (y9 (wN a b) q.1+q.2)
 | [],_,_=>rfl
 | r::b,a,q=>zcT b _ q
def zhr:y4:=λxs st Q=> ∃(l:List (Str×Int)) (x:Str),xs= [xK l,.str x]/\(l.map (·.1)).Nodup/\Q (.int (y9 l x)) st
def zhd:y4:=λxs st Q=> ∃(l m:List (Str×Int)),xs= [xK l,xK m]/\(l.map (·.1)).Nodup/\l.length+m.length < 64/\∀R,vT R->(∀x,y9 R x=y9 (wN l m) x)->R.length<=l.length+m.length->Q (xK R) st
def zh0:y4:=λxs st Q=> ∃(l:List (Str×Int)) (x:Str) (n:Int),xs= [xK l,.str x,.int n]/\(l.map (·.1)).Nodup/\l.length < 63/\∀R,vT R->(∀y,y9 R y=y9 (wN l [(x,n)]) y)->R.length<=l.length+1->Q (xK R) st
theorem pN {α:Type}{f:PV->Option PV}{g h:α->PV}(l:List α)(e: ∀x,f (g x)=some (h x)):(l.map g).filterMap f=l.map h:=by
 induction l with
 | nil=>rfl
 | cons x l ih=>rw[List.map_cons,List.filterMap_cons,e x,ih];rfl
def ngB:PV->Option PV:=λx=>match x with | .tup [z,.int m]=>some (.tup [z,.int (-m)]) | _=>none
theorem z9 {t u:xF}{D:xV}{env:zO}{st:z8}(h:t {D with nx:=u D} env st):p7 t u D env st:=h
abbrev Sh:=Str×PV×PV
def zW (s:Sh):PV:= .tup [.str s.1,s.2.1,s.2.2]
def sS:PV->Option PV:=λx=>match x with | .tup [n,_,_]=>some n | _=>none
theorem kL {sh:List Sh}{S:Str}{i:Nat}(h:(sh.map (·.1)).findIdx? (λn=>n==S)=some i):(sh.map λs=>PV.str s.1).findIdx? (λz=>yD z (.str S))=some i:=by
 rw[<- h,List.findIdx?_map,List.findIdx?_map];have:((λz=>yD z (.str S)) ∘ λs:Sh=>PV.str s.1)=((λn=>n==S) ∘ λs:Sh=>s.1):=funext λs=>iT.2.1;rw[this]
def fC:y4:=λxs st Q=> ∃(sh:List Sh) (zB:List PV) (S:Str) (i:Nat),xs= [.tup (.tup (sh.map zW)::zB),.str S]/\(sh.map (·.1)).findIdx? (λn=>n==S)=some i/\Q (.int i) st
inductive Hv where | int (v:Int) | bag (l:List (Str×Int)) | row (ws:List Str)
def Hv.pv:Hv->PV | .int v=> .int v | .bag l=>xK l | .row ws=> .tup (ws.map PV.str)
inductive Lf where | shelf (s:Str) | many (s t:Str) | long (s:Str)
def Lf.pv:Lf->PV | .shelf s=> .tup [.str "shelf",.str s] | .many s t=> .tup [.str "many",.str s,.str t] | .long s=> .tup [.str "long",.str s]
theorem kQ:uK Lf.pv:=λl=>by cases l <;> exact⟨_,_,rfl,by decide+kernel,by decide+kernel,by decide+kernel⟩
def xZ (sh:List Sh)(hs:List Hv)(s:Str):Option Hv:=((sh.map (·.1)).findIdx? λn=>n==s).bind λi=>hs[i]?
def Lf.val (sh:List Sh)(hs:List Hv):Lf->Option Int
 | .shelf s=>(match xZ sh hs s with | some (.int v)=>some v | _=>none)
 | .many s t=>(match xZ sh hs s with | some (.bag l)=>some (y9 l t % 4294967296) | _=>none)
 | .long s=>(match xZ sh hs s with | some (.row ws)=>some ws.length | _=>none)
def nF (hs:List Hv):Prop:= ∀l,Hv.bag l∈hs->(l.map (·.1)).Nodup
def jH:y4:=λxs st Q=> ∃(sh:List Sh) (zB:List PV) (hs:List Hv) (l:Lf) (v:Int),xs= [.tup (.tup (sh.map zW)::zB),.tup (hs.map Hv.pv),l.pv]/\nF hs/\l.val sh hs=some v/\Q (.int v) st
theorem znu {a b c d f:PV} :yY (wR [] [(Sum.inr "+",a),(Sum.inr "-",b),(Sum.inr "*",c),(Sum.inr "<",d),(Sum.inr "=",f)]) (Sum.inr "+")=some a:=by first | rfl | (simp[wR,wS,yY];done) | decide+kernel
theorem znv {a b c d f:PV} :yY (wR [] [(Sum.inr "+",a),(Sum.inr "-",b),(Sum.inr "*",c),(Sum.inr "<",d),(Sum.inr "=",f)]) (Sum.inr "-")=some b:=by first | rfl | (simp[wR,wS,yY];done) | decide+kernel
theorem znw {a b c d f:PV} :yY (wR [] [(Sum.inr "+",a),(Sum.inr "-",b),(Sum.inr "*",c),(Sum.inr "<",d),(Sum.inr "=",f)]) (Sum.inr "*")=some c:=by first | rfl | (simp[wR,wS,yY];done) | decide+kernel
theorem znx {a b c d f:PV} :yY (wR [] [(Sum.inr "+",a),(Sum.inr "-",b),(Sum.inr "*",c),(Sum.inr "<",d),(Sum.inr "=",f)]) (Sum.inr "<")=some d:=by first | rfl | (simp[wR,wS,yY];done) | decide+kernel
theorem zny {a b c d f:PV} :yY (wR [] [(Sum.inr "+",a),(Sum.inr "-",b),(Sum.inr "*",c),(Sum.inr "<",d),(Sum.inr "=",f)]) (Sum.inr "=")=some f:=by first | rfl | (simp[wR,wS,yY];done) | decide+kernel
theorem zpQ: ∀d:Int,0<=d->d < 5->∃c,atI (("+-*<=" :Str)).cps.toList d=some c/\Sg ⟨#[c]⟩:=λd d0 d1=>by
 have:d=0∨d=1∨d=2∨d=3∨d=4:=by omega
 rcases this with rfl | rfl | rfl | rfl | rfl
 ·exact⟨43,by decide+kernel,.inl (by decide+kernel)⟩
 ·exact⟨45,by decide+kernel,.inr (.inl (by decide+kernel))⟩
 ·exact⟨42,by decide+kernel,.inr (.inr (.inl (by decide+kernel)))⟩
 ·exact⟨60,by decide+kernel,.inr (.inr (.inr (.inl (by decide+kernel))))⟩
 ·exact⟨61,by decide+kernel,.inr (.inr (.inr (.inr (by decide+kernel))))⟩
theorem zb6 {L:Type}{lp:L->PV}(hlp:uK lp)(t:Tm L):yQ (t.pv lp)=true:=by
 cases t with
 | lf l=>obtain⟨kd,zB,e,_⟩:=hlp l;show yQ (lp l)=true;rw[e];rfl
 | _=>rfl
theorem zq3 {α:Type}{st:List α}{i:Nat}{x:α} :(st.set i x).take st.length=st.set i x:=fJ
theorem zdO {L:Type}{lp:L->PV}{m:Nat}{Q:K3}{st:z8}{t:Tm L}(hlp:uK lp)(h:Q (t.pv lp) (st.take m)):xO m Q (t.pv lp) st:=by
 cases t with
 | lf l=>
  obtain⟨kd,zB,e,_⟩:=hlp l;have h':Q (lp l) (st.take m):=h;show xO m Q (lp l) st;rw[e]at h'⊢;exact h'
 | _=>exact h
def jG {L:Type}(lp:L->PV)(d:Nat):y4:=λxs st Q=> ∃(i:Nat) (ls:List L) (room deep a b:Int),xs= [.obj i,.lst (ls.map lp),.int room,.int deep]/\st[i]?=some (zF a b)/\yT a b/\uK lp/\ls.length<=1000/\0<=deep/\deep < d/\∀(t:Tm L) a b,t.ok (λl=>l∈ls)->(t.rank:Int)<=deep->yT a b->Q (t.pv lp) (st.set i (zF a b))
theorem zhx {L:Type}{lp:L->PV}{K:Frag}{vs:List V}{H:Hp}{Q:VK}{E:XK}(h:zN K (jG lp 0) vs H Q E):False:=by
 obtain⟨_,_,_,_,_,_,⟨_,_,_,_,_,_,_,_,_,_,_,h0,h1,_⟩,_⟩:=h;omega
theorem zfd {tc:xG}{t u:xF}{D:xV}{env:zO}{st:z8}{b:Bool}(h: ∀Q,tc env st Q=Q b st)(k:if b=true then t D env st else u D env st):zcv tc t u D env st:=by
 show tc env st _;rw[h];exact k
def zcd {L:Type}(lp:L->PV):y4:=λxs st Q=> ∃(i:Nat) (ls:List L) (a b:Int),xs= [.obj i,.lst (ls.map lp)]/\st[i]?=some (zF a b)/\yT a b/\uK lp/\ls.length<=1000/\∀(t:Tm L) a b,t.ok (λl=>l∈ls)->t.rank < 7->yT a b->Q (t.pv lp) (st.set i (zF a b))
def sF (s:Sh)(kd:Str):Prop:= ∃r,s.2.1= .tup (.str kd::r)
def nM (sh:List Sh)(l:Lf):Prop:= ∃s∈sh,∃kd,sF s kd/\((kd= "bag" /\∃t,l= .many s.1 t)∨(kd= "row" /\l= .long s.1)∨(kd≠ "bag" /\kd≠ "row" /\l= .shelf s.1))
def zho:y4:=λxs st Q=> ∃(i:Nat) (sh:List Sh) (ws:List Str) (a b:Int),xs= [.obj i,.lst (sh.map zW),.lst (ws.map PV.str)]/\st[i]?=some (zF a b)/\yT a b/\(∀s∈sh,∃kd,sF s kd)/\sh.length<=100/\ws≠ []/\ws.length<=1000/\∀(ls:List Lf) a b,ls.length=sh.length->(∀l∈ls,nM sh l)->yT a b->Q (.lst (ls.map Lf.pv)) (st.set i (zF a b))
def vP (sh:List Sh)(hs:List Hv)(l:Lf):Prop:= ∃v,l.val sh hs=some v/\In v
def yJ (sh:List Sh)(hs:List Hv)(l:Lf):Int:=(l.val sh hs).getD 0
def jI (d:Nat):y4:=λxs st Q=> ∃(sh:List Sh) (zB:List PV) (hs:List Hv) (t:Tm Lf),xs= [.tup (.tup (sh.map zW)::zB),.tup (hs.map Hv.pv),t.pv Lf.pv]/\nF hs/\t.ok (vP sh hs)/\t.rank < d/\Q (.int (t.val (yJ sh hs))) st
theorem zhz {K:Frag}{vs:List V}{H:Hp}{Q:VK}{E:XK}(h:zN K (jI 0) vs H Q E):False:=by
 obtain⟨_,_,_,_,_,_,⟨_,_,_,_,_,_,_,h1,_⟩,_⟩:=h;omega
def zcg:y4:=λxs st Q=> ∃(i:Nat) (a b:Int),xs= [.obj i]/\st[i]?=some (zF a b)/\yT a b/\∀d a b,0<=d->d < 4294967296->yT a b->Q (.int d) (st.set i (zF a b))
def zh1:y4:=λxs st Q=> ∃(i:Nat) (many a b:Int),xs= [.obj i,.int many]/\st[i]?=some (zF a b)/\yT a b/\1<=many/\many<=10/\∀(ws:List Str) a b,(ws.length:Int)=many->ws.Nodup->yT a b->Q (.lst (ws.map PV.str)) (st.set i (zF a b))
theorem zrh {A B z z':Str}{c c':Nat}(h:A++⟨#[c]⟩++B++z=A++⟨#[c']⟩++B++z'):c=c':=by
 have e:=congrArg (λs:Str=>s.cps.toList) h;have cps: ∀a b:Str,(a++b).cps=a.cps++b.cps:=λa b=>rfl;simp only[cps,Array.toList_append,List.append_assoc,List.cons_append,List.nil_append]at e;have e2:=List.append_cancel_left e;injection e2
theorem zfz {d:Int}(d0:0<=d)(d1:d < 26):atI (("abcdefghijklmnopqrstuvwxyz" :Str)).cps.toList d=some (97+d.toNat):=by
 have h: ∀n < 26,(("abcdefghijklmnopqrstuvwxyz" :Str)).cps.toList[n]?=some (97+n):=by decide+kernel
 obtain⟨n,rfl⟩: ∃n:Nat,d=n:=⟨d.toNat,by omega⟩;exact v6 (h n (by omega))
def pG (A B:Str)(first:Int)(ws:List Str):Prop:= ∀(m:Nat) (w:Str),ws[m]?=some w->∃z:Str,w=A++⟨#[97+((first+5 * (0+(m:Int))) % 26).toNat]⟩++B++z
theorem pG.snoc {A B:Str}{first:Int}{ws:List Str}{z:Str}(h:pG A B first ws){k:Nat}(hk:ws.length=k):pG A B first (ws++ [A++⟨#[97+((first+5 * (0+(k:Int))) % 26).toNat]⟩++B++z]):=λm w hw=>by
 subst hk;rcases Nat.lt_or_ge m ws.length with hl | hl
 ·rw[List.getElem?_append_left hl]at hw;exact h m w hw
 ·rw[List.getElem?_append_right hl]at hw
  have:m=ws.length:=by
   have:=(List.getElem?_eq_some_iff.mp hw).1;simp at this;omega
  subst this;rw[Nat.sub_self]at hw;injection hw with hw
  exact⟨z,hw.symm⟩
theorem pG.nodup {A B:Str}{first:Int}{ws:List Str}(h:pG A B first ws)(hl:ws.length<=10):ws.Nodup:=by
 refine List.pairwise_iff_getElem.mpr λi j hi hj hij e=> ?_;obtain⟨z,e1⟩:=h i _ (List.getElem?_eq_getElem hi);obtain⟨z',e2⟩:=h j _ (List.getElem?_eq_getElem hj);rw[e1,e2]at e;have:=zrh e;omega
theorem zmI {α:Type}{ws:List α}{w:α}(h:ws.Nodup)(n:w∉ws)(k:Nat):(ws.set k w).Nodup:=by
 refine List.pairwise_iff_getElem.mpr λi j hi hj hij e=> ?_;rw[List.length_set]at hi hj;rw[List.getElem_set,List.getElem_set]at e;have hp:=List.pairwise_iff_getElem.mp h i j hi hj hij
 split at e
 ·split at e
  ·omega
  ·exact n (e▸List.getElem_mem hj)
 ·split at e
  ·exact n (e▸List.getElem_mem hi)
  ·exact hp e
theorem zfm {m n:Nat}(h:n < m):wD m (n:Int)=some n:=by
 unfold wD
 first | (rw[if_neg (by omega)];simp[h];done) | (simp;omega)
def znM:List Str:= ["shelf","hand","set","more","in","out","lay","drop","tell","when","split","join","last","sum","bag","row","told","many","long","if","was","mine","yours","house","none","end","story"]
theorem znN {d:Int}(d0:0<=d)(d1:d < 27): ∃wd:Str,atI [PV.str "shelf",.str "hand",.str "set",.str "more",.str "in",.str "out",.str "lay",.str "drop",.str "tell",.str "when",.str "split",.str "join",.str "last",.str "sum",.str "bag",.str "row",.str "told",.str "many",.str "long",.str "if",.str "was",.str "mine",.str "yours",.str "house",.str "none",.str "end",.str "story"] d=some (.str wd):=
 let⟨wd,_,e⟩:=pH PV.str (ns:=znM) d0 d1
 ⟨wd,e⟩
def pC (kd:Str)(r:List PV):Prop:=((kd= "last" ∨kd= "sum" ∨kd= "bag" ∨kd= "row")/\r= [])∨kd= "told" /\∃(n:Int) (t:Tm uJ),r= [.int n,t.pv uJ.pv]/\2<=n/\n < 6/\t.rank < 7
def zft:PV:= .lst [.str "last",.str "sum",.str "bag",.str "row",.str "told"]
def zhq:y4:=λxs st Q=> ∃(i:Nat) (a b:Int),xs= [.obj i,zft,.bl false]/\st[i]?=some (zF a b)/\yT a b/\∀kd r a b,pC kd r->yT a b->Q (.tup (.str kd::r)) (st.set i (zF a b))
def pA (n:Nat)(kd:Str):Hv->Prop
 | .int v=>kd≠ "bag" /\kd≠ "row" /\In v
 | .bag l=>kd= "bag" /\(l.map (·.1)).Nodup/\l.length<=n
 | .row ws=>kd= "row" /\ws.length<=n
abbrev nL (kd:Str):Hv->Prop:=pA 40 kd
def zcf:y4:=λxs st Q=> ∃(i:Nat) (kd:Str) (r:List PV) (ws:List Str) (a b:Int),xs= [.obj i,.tup (.str kd::r),.lst (ws.map PV.str)]/\st[i]?=some (zF a b)/\yT a b/\pC kd r/\ws≠ []/\ws.length<=40/\ws.Nodup/\∀(h:Hv) a b,nL kd h->yT a b->Q h.pv (st.set i (zF a b))
def pD (s:Sh):Prop:= ∃(kd:Str) (r:List PV) (h:Hv),s.2.1= .tup (.str kd::r)/\pC kd r/\s.2.2=h.pv/\nL kd h
def ziG (sh:List Sh)(hs:List Hv):Prop:=hs.length=sh.length/\∀(i:Nat) (s:Sh) (h:Hv),sh[i]?=some s->hs[i]?=some h->∃kd r,s.2.1= .tup (.str kd::r)/\nL kd h
def zhk:y4:=λxs st Q=> ∃(i:Nat) (sh:List Sh) (zB:List PV) (ws:List Str) (a b:Int),xs= [.obj i,.tup (.tup (sh.map zW)::zB),.lst (ws.map PV.str)]/\st[i]?=some (zF a b)/\yT a b/\(∀s∈sh,pD s)/\sh.length<=63/\ws≠ []/\ws.length<=40/\ws.Nodup/\∀(hs:List Hv) a b,ziG sh hs->yT a b->Q (.tup (hs.map Hv.pv)) (st.set i (zF a b))
theorem pR (h:Hv):yQ h.pv=true:=by cases h <;> rfl
theorem zlo {w:Str}{ws:List Str} :pS (.str w) (ws.map PV.str)=decide (w∈ws):=by
 unfold pS;rw[List.any_map,show((λy=>yD y (.str w)) ∘ PV.str)=(λn:Str=>n==w)from funext λs=>iT.2.1,Bool.eq_iff_iff];simp
theorem zmJ {w:Str}{ws:List Str}{n:Nat}{st:z8}{Q:K3}(h:st[n]?=some (.lst (ws.map PV.str))):j4 true (.str w) (.obj n) st Q=Q (.bl (!decide (w∈ws))) st:=by
 have hf:(ws.map PV.str).all u5=true:=by rw[List.all_map];exact List.all_eq_true.mpr λ_ _=>rfl
 have e:jD (.obj n) st=some (ws.map PV.str):=by unfold jD;dsimp only;rw[h]
 unfold j4;rw[e];dsimp only;rw[zlo,hf];simp[u5]
theorem Tm.ok_mono {L:Type}{lo lo':L->Prop}(h: ∀l,lo l->lo' l): ∀{t:Tm L},t.ok lo->t.ok lo'
 | .lf l,k=>h l k
 | .num n,k=>k
 | .op s x y,⟨a,b,c⟩=>⟨a,Tm.ok_mono h b,Tm.ok_mono h c⟩
 | .ite x y z,⟨a,b,c⟩=>⟨Tm.ok_mono h a,Tm.ok_mono h b,Tm.ok_mono h c⟩
def tH (n:Nat)(sh:List Sh)(hs:List Hv):Prop:=hs.length=sh.length/\∀(i:Nat) (s:Sh) (h:Hv),sh[i]?=some s->hs[i]?=some h->∃kd r,s.2.1= .tup (.str kd::r)/\pA n kd h
theorem zaV {n:Nat}{sh:List Sh}{hs:List Hv}(h:tH n sh hs):nF hs:=λl m=>by
 obtain⟨i,hi,e⟩:=List.getElem_of_mem m;have hi2:i < sh.length:=by rw[<- h.1];exact hi
 obtain⟨kd,r,_,hk⟩:=h.2 i _ _ (List.getElem?_eq_getElem hi2) (List.getElem?_eq_getElem hi);rw[e]at hk;exact hk.2.1
theorem zlR {n:Nat}{sh:List Sh}{hs:List Hv}{l:Lf}(n60:n<=60)(hn:(sh.map (·.1)).Nodup)(h:tH n sh hs)(hl:nM sh l):vP sh hs l:=by
 obtain⟨s,ms,kd,⟨r,er⟩,hc⟩:=hl;obtain⟨i,hi,e⟩:=List.getElem_of_mem ms;have hi2:i < hs.length:=by rw[h.1];exact hi
 have hf:(sh.map (·.1)).findIdx? (λn=>n==s.1)=some i:=by
  rw[List.findIdx?_eq_some_iff_getElem];refine⟨by rw[List.length_map];exact hi,by rw[List.getElem_map,e];exact beq_self_eq_true _,λj hj hz=> ?_⟩;have hne:=List.pairwise_iff_getElem.mp hn j i (by rw[List.length_map];omega) (by rw[List.length_map];exact hi) hj;have hz':=eq_of_beq hz;rw[<- e]at hz';exact hne (by rw[hz',List.getElem_map])
 have hv:xZ sh hs s.1=some hs[i]:=by
  unfold xZ;rw[hf];exact List.getElem?_eq_getElem hi2
 obtain⟨kd',r',er',hk⟩:=h.2 i s hs[i] (by rw[List.getElem?_eq_getElem hi,e]) (List.getElem?_eq_getElem hi2);rw[er]at er';cases er';generalize hs[i]=u at hv hk;rcases hc with⟨rfl,t,rfl⟩ | ⟨rfl,rfl⟩ | ⟨n1,n2,rfl⟩
 ·cases u with
  | int v=>exact absurd rfl hk.1
  | row us=>exact absurd hk.1 (by decide+kernel)
  | bag m=>exact⟨y9 m t % 4294967296,by show(match xZ sh hs s.1 with | some (.bag l)=>some (y9 l t % 4294967296) | _=>none)=_;rw[hv],Int.emod_nonneg _ (by decide),Int.emod_lt_of_pos _ (by decide)⟩
 ·cases u with
  | int v=>exact absurd rfl hk.2.1
  | bag m=>exact absurd hk.1 (by decide+kernel)
  | row us=>exact⟨us.length,by show(match xZ sh hs s.1 with | some (.row ws)=>some (ws.length:Int) | _=>none)=_;rw[hv],by omega,by have:=hk.2;omega⟩
 ·cases u with
  | row us=>exact absurd hk.1 n2
  | bag m=>exact absurd hk.1 n1
  | int v=>exact⟨v,by show(match xZ sh hs s.1 with | some (.int v)=>some v | _=>none)=_;rw[hv],hk.2.2⟩
inductive Dd where | tell (x:Tm Lf) | bag (up:Bool)(s t:Str) | set (s:Str)(x:Tm Lf) | more (s:Str)(x:Tm Lf) | lay (s:Str)(x:Tm Lf)(t:Str) | drop (s:Str)(x:Tm Lf)
abbrev mZ (x:Tm Lf):PV:=x.pv Lf.pv
def Dd.pv:Dd->PV
 | .tell x=> .tup [.str "tell",mZ x]
 | .bag true s t=> .tup [.str "in",.str s,.str t]
 | .bag false s t=> .tup [.str "out",.str s,.str t]
 | .set s x=> .tup [.str "set",.str s,mZ x]
 | .more s x=> .tup [.str "more",.str s,mZ x]
 | .lay s x t=> .tup [.str "lay",.str s,mZ x,.str t]
 | .drop s x=> .tup [.str "drop",.str s,mZ x]
def At (sh:List Sh)(s:Str)(i:Nat):Prop:=(sh.map (·.1)).findIdx? (λn=>n==s)=some i
def zgY (r:List PV)(v:Int):Int:=match r with | .int n::_=>v % n | _=>v
def tv (sh:List Sh)(hs:List Hv)(x:Tm Lf):Int:=x.val (yJ sh hs)
def nN (sh:List Sh)(hs:List Hv)(i:Nat):Dd->Hv->Prop
 | .tell _,_=>False
 | .bag up _ t,h'=> ∃l R,hs[i]?=some (.bag l)/\vT R/\(∀y,y9 R y=y9 (wN l [(t,if up then 1 else -1)]) y)/\R.length<=l.length+1/\h'= .bag R
 | .set _ x,h'=> ∃n kd r b,sh[i]?=some (n,.tup (.str kd::r),b)/\h'= .int (zgY r (tv sh hs x))
 | .more _ x,h'=> ∃u,hs[i]?=some (.int u)/\h'= .int ((u+tv sh hs x) % 4294967296)
 | .lay _ x t,h'=> ∃ws,hs[i]?=some (.row ws)/\h'= .row (ws.take (tv sh hs x).toNat++t::ws.drop (tv sh hs x).toNat)
 | .drop _ x,h'=> ∃ws,hs[i]?=some (.row ws)/\h'= .row (ws.take (tv sh hs x).toNat++ws.drop ((tv sh hs x).toNat+1))
def i5 (sh:List Sh)(hs:List Hv)(i:Nat):Dd->Prop
 | .tell _=>False
 | .bag _ _ _=> ∃l,hs[i]?=some (.bag l)/\(l.map (·.1)).Nodup/\l.length < 60
 | .set _ _=> ∃h n kd r b,hs[i]?=some h/\sh[i]?=some (n,.tup (.str kd::r),b)/\pC kd r
 | .more _ _=> ∃u n kd r b,hs[i]?=some (.int u)/\sh[i]?=some (n,.tup (.str kd::r),b)/\kd≠ "told"
 | .lay _ _ _=> ∃ws n kd r b,hs[i]?=some (.row ws)/\ws.length < 60/\sh[i]?=some (n,.tup (.str kd::r),b)/\kd≠ "told"
 | .drop _ _=> ∃ws n kd r b,hs[i]?=some (.row ws)/\ws.length < 60/\sh[i]?=some (n,.tup (.str kd::r),b)/\kd≠ "told"
def Dd.nm:Dd->Option Str | .tell _=>none | .bag _ s _ | .set s _ | .more s _ | .lay s _ _ | .drop s _=>some s
def Dd.tm:Dd->Option (Tm Lf) | .bag _ _ _=>none | .tell x | .set _ x | .more _ x | .lay _ x _ | .drop _ x=>some x
def pE (sh:List Sh)(hs:List Hv)(x:Tm Lf):Prop:=x.ok (vP sh hs)/\x.rank < 7
structure zcQ (sh:List Sh)(zB:List PV)(hs:List Hv):Prop where
 bags:nF hs
 dp:dpts (.tup (sh.map zW)::zB) < 999
 dh:dpts (hs.map Hv.pv) < 999
def zhs:y4:=λxs st Q=> ∃(kd:Str) (r:List PV) (v:Int),xs= [.tup (.str kd::r),.int v]/\pC kd r/\Q (.int (zgY r v)) st
def zhj:y4:=λxs st Q=> ∃(sh:List Sh) (S:Str) (i:Nat) (s:Sh),xs= [.tup (sh.map zW),.str S]/\At sh S i/\sh[i]?=some s/\Q (zW s) st
def zhw:y4:=λxs st Q=> ∃(sh:List Sh) (zB:List PV) (S:Str) (i:Nat) (s:Sh),xs= [.tup (.tup (sh.map zW)::zB),.str S]/\At sh S i/\sh[i]?=some s/\Q (zW s) st
def zhe:y4:=λxs st Q=> ∃(sh:List Sh) (zB:List PV),xs= [.tup (.tup (sh.map zW)::zB)]/\sh.length<=63/\(∀s∈sh,yQ s.2.2=true)/\Q (.tup (sh.map (·.2.2))) st
def iF:PV->Option PV:=λx=>match x with | .tup [_,_,b]=>some b | _=>none
def zhp (T:Addr):y4:=λxs st Q=> ∃(sh:List Sh) (zB:List PV) (hs:List Hv) (d:Dd) (i j:Nat),xs= [.tup (.tup (sh.map zW)::zB),.tup (hs.map Hv.pv),d.pv]/\st[j]?=some (.tbl T u8 wU)/\zcQ sh zB hs/\(∀s,d.nm=some s->At sh s i)/\(∀x,d.tm=some x->pE sh hs x)/\i5 sh hs i d/\∀h',nN sh hs i d h'->Q h'.pv st
abbrev Rw:=Option (Tm Lf)×Dd
def Rw.pv:Rw->PV | (none,d)=>d.pv | (some x,d)=> .tup [.str "when",mZ x,d.pv]
def Rw.dep:Rw->Nat | (none,_)=>1 | (some _,_)=>2
def sU:Option Int->PV | none=> .non | some v=> .int v
def kY:Option Str->PV | none=> .non | some v=> .str v
def wT (hs:List Hv)(o:Option Int)(nm:Option Str):PV:= .tup [.tup (hs.map Hv.pv),sU o,kY nm]
def Due (sh:List Sh)(hs:List Hv)(d:Dd)(hs':List Hv)(o:Option Int)(nm:Option Str):Prop:=
 (∃x,d= .tell x/\hs'=hs/\o=some (tv sh hs x)/\nm=none)∨∃i h' s,d.nm=some s/\At sh s i/\nN sh hs i d h'/\hs'=hs.set i h'/\o=none/\nm=some s
def nJ (sh:List Sh)(hs:List Hv)(r:Rw)(hs':List Hv)(o:Option Int)(nm:Option Str):Prop:=
 (∃x,r.1=some x/\tv sh hs x=0/\hs'=hs/\o=none/\nm=none)∨((∀x,r.1=some x->tv sh hs x≠0)/\Due sh hs r.2 hs' o nm)
def ziw (sh:List Sh)(hs:List Hv)(d:Dd):Prop:=(∀x,d.tm=some x->pE sh hs x)/\∀s,d.nm=some s->∃i,At sh s i/\i < hs.length/\i5 sh hs i d
def eL (sh:List Sh)(hs:List Hv)(r:Rw):Prop:=(∀x,r.1=some x->pE sh hs x)/\ziw sh hs r.2
def fB (T:Addr)(d:Nat):y4:=λxs st Q=> ∃(sh:List Sh) (zB:List PV) (hs:List Hv) (r:Rw) (j:Nat),xs= [.tup (.tup (sh.map zW)::zB),.tup (hs.map Hv.pv),r.pv]/\st[j]?=some (.tbl T u8 wU)/\zcQ sh zB hs/\hs.length<=63/\eL sh hs r/\r.dep<=d/\∀hs' o nm,nJ sh hs r hs' o nm->Q (wT hs' o nm) st
theorem zhh {K:Frag}{T:Addr}{vs:List V}{H:Hp}{Q:VK}{E:XK}(h:zN K (fB T 0) vs H Q E):False:=by
 obtain⟨_,_,_,_,_,_,⟨_,_,_,⟨g,d⟩,_,_,_,_,_,_,h1,_⟩,_⟩:=h;cases g with
 | none=>exact absurd (show 1<=0 from h1) (by decide)
 | some x=>exact absurd (show 2<=0 from h1) (by decide)
theorem Dd.form (d:Dd){s:Str}(h:d.nm=some s): ∃(k:Str) (more:List PV),d.pv= .tup (.str k:: .str s::more)/\(k==("when" :Str))=false/\(k==("tell" :Str))=false:=by
 cases d with
 | tell x=>cases h
 | bag up a b=>cases h;cases up <;> exact⟨_,_,rfl,by decide+kernel,by decide+kernel⟩
 | set a x=>cases h;exact⟨_,_,rfl,by decide+kernel,by decide+kernel⟩
 | more a x=>cases h;exact⟨_,_,rfl,by decide+kernel,by decide+kernel⟩
 | lay a x b=>cases h;exact⟨_,_,rfl,by decide+kernel,by decide+kernel⟩
 | drop a x=>cases h;exact⟨_,_,rfl,by decide+kernel,by decide+kernel⟩
theorem zpN {hs:List Hv}{i:Nat}{h:Hv}(hi:i < hs.length):(hs.take i).map Hv.pv++ [h.pv]++(hs.drop (i+1)).map Hv.pv=(hs.set i h).map Hv.pv:=by
 rw[List.set_eq_take_append_cons_drop,if_pos hi];simp
theorem zf0 (l:Lf):zH l.pv < 1000:=by cases l <;> (unfold Lf.pv;simp[zH,dpts])
def nY (S:Str):PV->Option PV:=λx=>match x with | .tup [.str n,a,b]=>if n==S then some (.tup [.str n,a,b])else none | _=>none
theorem zeQ {S:Str} : ∀{sh:List Sh} {i:Nat} {s:Sh},At sh S i->sh[i]?=some s->∃more,(sh.map zW).filterMap (nY S)=zW s::more
 | [],i,s,h,e=>by cases e
 | (n,a,b)::sh,i,s,h,e=>by
  unfold At at h;rw[List.map_cons,List.findIdx?_cons]at h;rw[List.map_cons,List.filterMap_cons];by_cases hn:n=S
  ·subst hn
   rw[if_pos (beq_self_eq_true _)]at h;cases h;cases e;have:nY n (zW (n,a,b))=some (zW (n,a,b)):=by show(if n==n then _ else _)=_;rw[if_pos (beq_self_eq_true _)];rfl
   rw[this];exact⟨_,rfl⟩
  ·have hb:(n==S)=false:=by simpa using hn
   have:nY S (zW (n,a,b))=none:=by show(if n==S then _ else _)=_;rw[hb];rfl
   rw[this];rw[if_neg (by rw[show(((n,a,b):Sh).1==S)=false from hb];decide)]at h;cases i with
   | zero=>simp at h
   | succ i=>
    refine zeQ (i:=i) (s:=s) ?_ (by simpa using e);unfold At;simpa using h
def zhl:y4:=λxs st Q=> ∃(o:Nat) (d:List (Str×Int)),xs= [.obj o]/\st[o]?=some (.dct (xE d))/\(d.map (·.1)).Nodup/\d.length < 64/\∀R,vT R->(∀x,y9 R x=y9 d x)->R.length<=d.length->Q (xK R) st
def zhn:y4:=λxs st Q=> ∃(sh:List Sh) (zB:List PV) (hs:List Hv) (d:Dd) (i:Nat),xs= [.tup (.tup (sh.map zW)::zB),.tup (hs.map Hv.pv),d.pv,.int (i:Nat)]/\nF hs/\(∀x,d.tm=some x->pE sh hs x)/\i5 sh hs i d/\∀h',nN sh hs i d h'->Q h'.pv st
theorem mX {sh:List Sh}{i:Nat}{s:Sh}(e:sh[i]?=some s):atI (sh.map zW) (i:Int)=some (zW s):=v6 (by rw[List.getElem?_map,e];rfl)
def zhm:y4:=λxs st Q=> ∃(sh:List Sh) (zB:List PV) (hs:List Hv) (r:Rw),xs= [.tup (.tup (sh.map zW)::zB),.tup (hs.map Hv.pv),r.pv]/\nF hs/\hs.length<=63/\sh.length<=63/\eL sh hs r/\∀hs' o nm,nJ sh hs r hs' o nm->Q (wT hs' o nm) st
def ziv (nm kd:Str)(ls:List Lf)(d:Dd):Prop:=d.nm=some nm/\(∀x,d.tm=some x->x.ok (λl=>l∈ls)/\x.rank < 7)/\
 (match d with | .tell _=>False | .bag _ _ _=>kd= "bag" | .more _ _=>kd= "sum" | .set _ _=>kd≠ "bag" /\kd≠ "row" /\kd≠ "sum" | .lay _ _ _=>kd= "row" | .drop _ _=>kd= "row")
def zhg:y4:=λxs st Q=> ∃(i:Nat) (nm kd:Str) (r:List PV) (bg:PV) (ls:List Lf) (ws:List Str) (a b:Int),xs= [.obj i,.tup [.str nm,.tup (.str kd::r),bg],.lst (ls.map Lf.pv),.lst (ws.map PV.str)]/\yQ bg=true/\st[i]?=some (zF a b)/\yT a b/\ws≠ []/\ws.length<=1000/\ls.length<=1000/\∀(d:Dd) a b,ziv nm kd ls d->yT a b->Q d.pv (st.set i (zF a b))
theorem l0 (t:Tm Lf):yQ (t.pv Lf.pv)=true:=by
 cases t with
 | lf l=>cases l <;> rfl
 | _=>rfl
def lU (sh:List Sh)(x:Tm Lf):Prop:=x.ok (nM sh)/\x.rank < 7
def eG (kd:Str)(d:Dd):Prop:=match d with | .tell _=>False | .bag _ _ _=>kd= "bag" | .more _ _=>kd= "sum" | .set _ _=>kd≠ "bag" /\kd≠ "row" /\kd≠ "sum" | .lay _ _ _=>kd= "row" | .drop _ _=>kd= "row"
def jP (sh:List Sh)(d:Dd):Prop:=(∀x,d.tm=some x->lU sh x)/\∀s,d.nm=some s->∃sx∈sh,sx.1=s/\∃kd r,sx.2.1= .tup (.str kd::r)/\eG kd d
def lS (sh:List Sh)(r:Rw):Prop:=(∀x,r.1=some x->lU sh x)/\jP sh r.2
def zhv:y4:=λxs st Q=> ∃(i:Nat) (sh:List Sh) (ws:List Str) (a b:Int),xs= [.obj i,.tup [.lst (sh.map zW),.lst (sh.map zW)],.lst (ws.map PV.str)]/\st[i]?=some (zF a b)/\yT a b/\(∀s∈sh,pD s)/\sh≠ []/\sh.length<=63/\ws≠ []/\ws.length<=1000/\∀(r:Rw) a b,lS sh r->yT a b->Q r.pv (st.set i (zF a b))
theorem dH (d:Dd):yQ d.pv=true:=by
 cases d with
 | bag up s t=>cases up <;> rfl
 | _=>rfl
mutual
def wW:PV->Bool
 | .tup xs=>plainPs xs
 | .int _=>true
 | .str _=>true
 | .non=>true
 | _=>false
def plainPs:List PV->Bool
 | []=>true
 | x::xs=>wW x&&plainPs xs
end
theorem zgu: ∀{xs:List PV} {i:Nat} {x:PV},plainPs xs=true->xs[i]?=some x->wW x=true
 | y::ys,0,x,h,e=>by
  cases e;unfold plainPs at h;exact(Bool.and_eq_true _ _▸h).1
 | y::ys,i+1,x,h,e=>by
  unfold plainPs at h;exact zgu (xs:=ys) (i:=i) (Bool.and_eq_true _ _▸h).2 (by simpa using e)
def fD (d:Nat):y4:=λxs st Q=> ∃x:PV,xs= [x]/\wW x=true/\zH x < d/\Q (.bl true) st
theorem zhu {K:Frag}{vs:List V}{H:Hp}{Q:VK}{E:XK}(h:zN K (fD 0) vs H Q E):False:=by
 obtain⟨_,_,_,_,_,_,⟨_,_,_,h1,_⟩,_⟩:=h;omega
def kJ:PV->Option PV:=λx=>match x with | .tup [.int k,.tup [_,.tup (.str kd::_),_]]=>if kd== "row" then some (.int k)else none | _=>none
theorem zkb {sh:List Sh}{y:PV}(hk: ∀s∈sh,∃kd,sF s kd)(h:y∈(sL (sh.map zW)).filterMap kJ): ∃(k:Nat) (s:Sh),y= .int (k:Nat)/\sh[k]?=some s/\sF s "row" :=by
 obtain⟨z,hz,e⟩:=List.mem_filterMap.mp h;obtain⟨k,hk'⟩:=List.mem_iff_getElem?.mp hz;obtain⟨x,hx,rfl⟩:=dL hk';obtain⟨s,hs,rfl⟩:=wQ hx;obtain⟨kd,r,er⟩:=hk s (List.mem_iff_getElem?.mpr ⟨k,hs⟩);obtain⟨n,mn,bg⟩:=s;cases er;refine⟨k,_,?_,hs,?_⟩
 ·have e':(if kd== "row" then some (PV.int (k:Int))else none)=some y:=e
  split at e'
  ·exact(Option.some.inj e').symm
  ·cases e'
 ·have e':(if kd== "row" then some (PV.int (k:Int))else none)=some y:=e
  split at e'
  ·rename_i hh;rw[eq_of_beq hh];exact⟨r,rfl⟩
  ·cases e'
def zhi:y4:=λxs st Q=> ∃(i:Nat) (sh:List Sh) (zB:List PV) (hs:List Hv) (ws:List Str) (a b:Int),xs= [.obj i,.tup (.tup (sh.map zW)::zB),.tup (hs.map Hv.pv),.lst (ws.map PV.str)]/\st[i]?=some (zF a b)/\yT a b/\sh.length<=63/\(∀s∈sh,∃kd,sF s kd)/\(∀(k:Nat) s,sh[k]?=some s->sF s "row" ->∃us,hs[k]?=some (.row us)/\us.length < 60)/\ws≠ []/\ws.length<=1000/\Q .non st/\∀d a b,jP sh d->yT a b->Q d.pv (st.set i (zF a b))
theorem tL {hs:List Hv}{i:Nat}{h:Hv}(e:hs[i]?=some h):atI (hs.map Hv.pv) (i:Int)=some h.pv:=v6 (by rw[List.getElem?_map,e];rfl)
theorem zeY {n m:Nat}{kd:Str}{h:Hv}(l:n<=m)(k:pA n kd h):pA m kd h:=by
 cases h with
 | int v=>exact k
 | bag b=>exact⟨k.1,k.2.1,Nat.le_trans k.2.2 l⟩
 | row ws=>exact⟨k.1,Nat.le_trans k.2 l⟩
theorem zeW {n m:Nat}{sh:List Sh}{hs:List Hv}(l:n<=m)(h:tH n sh hs):tH m sh hs:=⟨h.1,λi s v h1 h2=>let⟨kd,r,e,k⟩:=h.2 i s v h1 h2;⟨kd,r,e,zeY l k⟩⟩
theorem zcY {sh:List Sh}{i:Nat}{s:Sh}(hn:(sh.map (·.1)).Nodup)(e:sh[i]?=some s):At sh s.1 i:=by
 obtain⟨hi,e'⟩:=List.getElem?_eq_some_iff.mp e;unfold At;rw[List.findIdx?_eq_some_iff_getElem];refine⟨by rw[List.length_map];exact hi,by rw[List.getElem_map,e'];exact beq_self_eq_true _,λj hj hz=> ?_⟩;have hne:=List.pairwise_iff_getElem.mp hn j i (by rw[List.length_map];omega) (by rw[List.length_map];exact hi) hj;have hz':=eq_of_beq hz;rw[<- e']at hz';exact hne (by rw[hz',List.getElem_map])
theorem zcn {n:Nat}{sh:List Sh}{hs:List Hv}{x:Tm Lf}(n60:n<=60)(hn:(sh.map (·.1)).Nodup)(h:tH n sh hs)(t:lU sh x):pE sh hs x:=⟨Tm.ok_mono (λl hl=>zlR n60 hn h hl) t.1,t.2⟩
theorem zl9 {n i:Nat}{sh:List Sh}{hs:List Hv}{s:Sh}{v:Hv}{kd:Str}{r:List PV}{d:Dd}(n60:n < 60)(es:sh[i]?=some s)(ev:hs[i]?=some v)(e:s.2.1= .tup (.str kd::r))(hm:pC kd r)(hv:pA n kd v)(hk:eG kd d):i5 sh hs i d:=by
 obtain⟨nm,mn,bg⟩:=s;cases e;cases d with
 | tell x=>exact hk.elim
 | bag up a b=>
  cases hk;cases v with
  | int u=>exact absurd rfl hv.1
  | row us=>exact absurd hv.1 (by decide+kernel)
  | bag l=>exact⟨l,ev,hv.2.1,by have:=hv.2.2;omega⟩
 | set a x=>exact⟨v,nm,kd,r,bg,ev,es,hm⟩
 | more a x=>
  cases hk;cases v with
  | bag l=>exact absurd hv.1 (by decide+kernel)
  | row us=>exact absurd hv.1 (by decide+kernel)
  | int u=>exact⟨u,nm,_,r,bg,ev,es,by decide+kernel⟩
 | lay a x b=>
  cases hk;cases v with
  | int u=>exact absurd rfl hv.2.1
  | bag l=>exact absurd hv.1 (by decide+kernel)
  | row us=>exact⟨us,nm,_,r,bg,ev,by have:=hv.2;omega,es,by decide+kernel⟩
 | drop a x=>
  cases hk;cases v with
  | int u=>exact absurd rfl hv.2.1
  | bag l=>exact absurd hv.1 (by decide+kernel)
  | row us=>exact⟨us,nm,_,r,bg,ev,by have:=hv.2;omega,es,by decide+kernel⟩
theorem zgS {n:Nat}{sh:List Sh}{hs:List Hv}{r:Rw}(n60:n < 60)(hsh: ∀s∈sh,pD s)(hn:(sh.map (·.1)).Nodup)(h:tH n sh hs)(hr:lS sh r):eL sh hs r:=by
 refine⟨λx hx=>zcn (by omega) hn h (hr.1 x hx),λx hx=>zcn (by omega) hn h (hr.2.1 x hx),λs hs'=> ?_⟩;obtain⟨sx,mx,rfl,kd,r',er,hk⟩:=hr.2.2 s hs';obtain⟨i,hi⟩:=List.mem_iff_getElem?.mp mx;have hil:i < hs.length:=by rw[h.1];exact(List.getElem?_eq_some_iff.mp hi).1
 have ev:hs[i]?=some hs[i]:=List.getElem?_eq_getElem hil;obtain⟨kd2,r2,er2,hv⟩:=h.2 i sx _ hi ev;obtain⟨kd3,r3,v3,er3,hm,_⟩:=hsh sx mx;rw[er]at er2 er3;cases er2;cases er3;exact⟨i,zcY hn hi,hil,zl9 n60 hi ev er hm hv hk⟩
theorem zmn {sh:List Sh}{hs:List Hv}{i:Nat}{d:Dd}{a b:Hv}(h1:nN sh hs i d a)(h2:nN sh hs i d b):a=b:=by
 cases d with
 | tell x=>exact h1.elim
 | bag up s t=>
  obtain⟨l,R,e,hB,hV,_,rfl⟩:=h1;obtain⟨l',R',e',hB',hV',_,rfl⟩:=h2;rw[e]at e';cases e';rw[zdb hB hB' λy=>(hV y).trans (hV' y).symm]
 | set s x=>
  obtain⟨n,kd,r,b1,e,rfl⟩:=h1;obtain⟨n',kd',r',b2,e',rfl⟩:=h2;rw[e]at e';cases e';rfl
 | more s x=>
  obtain⟨u,e,rfl⟩:=h1;obtain⟨u',e',rfl⟩:=h2;rw[e]at e';cases e';rfl
 | lay s x t=>
  obtain⟨u,e,rfl⟩:=h1;obtain⟨u',e',rfl⟩:=h2;rw[e]at e';cases e';rfl
 | drop s x=>
  obtain⟨u,e,rfl⟩:=h1;obtain⟨u',e',rfl⟩:=h2;rw[e]at e';cases e';rfl
theorem zdF {sh:List Sh}{hs h1 h2:List Hv}{r:Rw}{o1 o2:Option Int}{n1 n2:Option Str}(a:nJ sh hs r h1 o1 n1)(b:nJ sh hs r h2 o2 n2):wT h1 o1 n1=wT h2 o2 n2:=by
 rcases a with⟨x,e,z,rfl,rfl,rfl⟩ | ⟨nz,a⟩
 ·rcases b with⟨x',e',z',rfl,rfl,rfl⟩ | ⟨nz,_⟩
  ·rfl
  ·exact absurd z (nz x e)
 ·rcases b with⟨x',e',z',rfl,rfl,rfl⟩ | ⟨_,b⟩
  ·exact absurd z' (nz x' e')
  ·rcases a with⟨x,e,rfl,rfl,rfl⟩ | ⟨i,v,s,e,hi,hM,rfl,rfl,rfl⟩
   ·rcases b with⟨x',e',rfl,rfl,rfl⟩ | ⟨i,v,s,e',_⟩
    ·rw[e]at e';cases e';rfl
    ·rw[e]at e';cases e'
   ·rcases b with⟨x',e',rfl,rfl,rfl⟩ | ⟨i',v',s',e',hi',hM',rfl,rfl,rfl⟩
    ·rw[e']at e;cases e
    ·rw[e]at e';cases e'
     unfold At at hi hi';rw[hi]at hi';cases hi';rw[zmn hM hM']
theorem zln {sh:List Sh}{hs:List Hv}{x:Tm Lf}(ok:pE sh hs x):In (tv sh hs x):=sB (λl ⟨v,e1,e2⟩=>by unfold yJ;rw[e1];exact e2) ok.1
theorem zmo {n i:Nat}{sh:List Sh}{hs:List Hv}{s:Sh}{v h':Hv}{kd:Str}{r:List PV}{d:Dd}(es:sh[i]?=some s)(ev:hs[i]?=some v)(e:s.2.1= .tup (.str kd::r))(hm:pC kd r)(hv:pA n kd v)(hk:eG kd d)(tok: ∀x,d.tm=some x->pE sh hs x)(hM:nN sh hs i d h'):pA (n+1) kd h':=by
 cases d with
 | tell x=>exact hk.elim
 | bag up a b=>
  obtain⟨l,R,e',hB,hV,hL,rfl⟩:=hM;rw[ev]at e';cases e';exact⟨hv.1,zgI hB.rise,by have:=hv.2.2;omega⟩
 | set a x=>
  obtain⟨n',kd',r',b',e',rfl⟩:=hM;rw[es]at e';cases e';cases e;refine⟨hk.1,hk.2.1,?_⟩;have hI:=zln (tok x rfl);rcases hm with⟨_,rfl⟩ | ⟨_,m,t',rfl,m2,m6⟩
  ·exact hI
  ·show In (tv sh hs x % m)
   have z1:0<=tv sh hs x % m:=Int.emod_nonneg _ (by omega);have z2:tv sh hs x % m < m:=Int.emod_lt_of_pos _ (by omega);exact⟨z1,by omega⟩
 | more a x=>
  obtain⟨u,e',rfl⟩:=hM;cases hk;exact⟨by decide+kernel,by decide+kernel,Int.emod_nonneg _ (by decide),Int.emod_lt_of_pos _ (by decide)⟩
 | lay a x b=>
  obtain⟨us,e',rfl⟩:=hM;rw[ev]at e';cases e';refine⟨hv.1,?_⟩;have:=hv.2;rw[List.length_append,List.length_cons,List.length_take,List.length_drop];omega
 | drop a x=>
  obtain⟨us,e',rfl⟩:=hM;rw[ev]at e';cases e';refine⟨hv.1,?_⟩;have:=hv.2;rw[List.length_append,List.length_take,List.length_drop];omega
theorem zjY {n:Nat}{sh:List Sh}{hs hs':List Hv}{r:Rw}{o:Option Int}{nm:Option Str}(n60:n < 60)(hsh: ∀s∈sh,pD s)(hn:(sh.map (·.1)).Nodup)(h:tH n sh hs)(hr:lS sh r)(hD:nJ sh hs r hs' o nm):tH (n+1) sh hs':=by
 rcases hD with⟨_,_,_,rfl,_⟩ | ⟨_,⟨_,_,rfl,_⟩ | ⟨i,v,s,e,hi,hM,rfl,_⟩⟩
 ·exact zeW (Nat.le_succ n) h
 ·exact zeW (Nat.le_succ n) h
 obtain⟨sx,mx,rfl,kd,r',er,hk⟩:=hr.2.2 s e;obtain⟨i',hi'⟩:=List.mem_iff_getElem?.mp mx;have ei:i'=i:=by
  have h1:=zcY hn hi';unfold At at hi h1;rw[hi]at h1;exact(Option.some.inj h1).symm
 subst ei;refine⟨by rw[List.length_set];exact h.1,λj s w h1 h2=> ?_⟩;by_cases hj:j=i'
 ·subst hj
  have hil:j < hs.length:=by have:=(List.getElem?_eq_some_iff.mp h2).1;rw[List.length_set]at this;exact this
  have ev:hs[j]?=some hs[j]:=List.getElem?_eq_getElem hil;rw[List.getElem?_set_self hil]at h2;cases h2;rw[hi']at h1;cases h1;obtain⟨kd2,r2,er2,hv⟩:=h.2 j sx _ hi' ev;obtain⟨kd3,r3,v3,er3,hm,_⟩:=hsh sx mx;rw[er]at er2 er3;cases er2;cases er3;exact⟨kd,r',er,zmo hi' ev er hm hv hk (λx hx=>zcn (by omega) hn h (hr.2.1 x hx)) hM⟩
 ·rw[List.getElem?_set_ne (λz=>hj z.symm)]at h2
  obtain⟨kd2,r2,er2,hv⟩:=h.2 j s w h1 h2;exact⟨kd2,r2,er2,zeY (Nat.le_succ n) hv⟩
theorem pM {α:Type}{f:α->PV}{m:Nat} : ∀(l:List α),(∀x∈l,zH (f x)<=m)->dpts (l.map f)<=m
 | [],_=>by unfold dpts;exact Nat.zero_le _
 | x::l,h=>by
  rw[List.map_cons];unfold dpts;exact Nat.max_le.mpr ⟨h x List.mem_cons_self,pM l λy hy=>h y (List.mem_cons_of_mem _ hy)⟩
theorem iO (h:Hv):zH h.pv<=2:=by
 cases h with
 | int v=>unfold Hv.pv zH;decide
 | bag l=>
  unfold Hv.pv xK zH;have:=pM (f:=λq:Str×Int=>PV.tup [.str q.1,.int q.2]) (m:=1) l λx _=>by simp[zH,dpts]
  omega
 | row ws=>
  unfold Hv.pv zH;have:=pM (f:=PV.str) (m:=0) ws λx _=>by simp[zH]
  omega
theorem gG {α:Type}{f:α->PV} : ∀(l:List α),(∀x∈l,wW (f x)=true)->plainPs (l.map f)=true
 | [],_=>by unfold plainPs;rfl
 | x::l,h=>by
  rw[List.map_cons];unfold plainPs;rw[h x List.mem_cons_self,gG l λy hy=>h y (List.mem_cons_of_mem _ hy)];rfl
theorem zo0 (h:Hv):wW h.pv=true:=by
 cases h with
 | int v=>unfold Hv.pv wW;rfl
 | bag l=>
  unfold Hv.pv xK wW;exact gG (f:=λq:Str×Int=>PV.tup [.str q.1,.int q.2]) l λx _=>by simp[wW,plainPs]
 | row ws=>
  unfold Hv.pv wW;exact gG (f:=PV.str) ws λx _=>by simp[wW]
theorem zgF (hs:List Hv)(o:Option Int)(nm:Option Str):zH (wT hs o nm) < 6:=by
 have h1:=pM (f:=Hv.pv) (m:=2) hs λh _=>iO h;have h2:zH (sU o)=0:=by cases o <;> (unfold sU zH;rfl)
 have h3:zH (kY nm)=0:=by cases nm <;> (unfold kY zH;rfl)
 unfold wT;simp only[zH,dpts,h2,h3];omega
theorem zpx (hs:List Hv)(o:Option Int)(nm:Option Str):wW (wT hs o nm)=true:=by
 have h1:=gG (f:=Hv.pv) hs λh _=>zo0 h;have h2:wW (sU o)=true:=by cases o <;> (unfold sU wW;rfl)
 have h3:wW (kY nm)=true:=by cases nm <;> (unfold kY wW;rfl)
 unfold wT;simp[wW,plainPs,h1,h2,h3]
theorem nV: ∀t:Tm uJ,zH (t.pv uJ.pv)<=t.rank+1
 | .num k=>by unfold Tm.pv;simp[zH,dpts]
 | .lf l=>by cases l <;> (unfold Tm.pv uJ.pv;simp[zH,dpts])
 | .op s a b=>by
  have h1:=nV a;have h2:=nV b;unfold Tm.pv Tm.rank;simp only[zH,dpts];omega
 | .ite a b c=>by
  have h1:=nV a;have h2:=nV b;have h3:=nV c;unfold Tm.pv Tm.rank;simp only[zH,dpts];omega
theorem zpR {s:Sh}(h:pD s):zH (zW s)<=12:=by
 obtain⟨kd,r,v,e1,hm,e2,_⟩:=h;have hv:=iO v;unfold zW;rw[e1,e2];rcases hm with⟨_,rfl⟩ | ⟨_,n,t,rfl,_,_,hr⟩
 ·simp only[zH,dpts];omega
 ·have:=nV t
  simp only[zH,dpts];omega
abbrev prP (sh:List Sh):PV:= .tup [.tup (sh.map zW),.tup [.tup [.str "first",.tup []]]]
theorem zgx {sh:List Sh}(h: ∀s∈sh,pD s):dpts (.tup (sh.map zW):: [.tup [.tup [.str "first",.tup []]]]) < 999:=by
 have:=pM (f:=zW) (m:=12) sh λs hs=>zpR (h s hs);simp only[zH,dpts];omega
theorem zeX (hs:List Hv):dpts (hs.map Hv.pv) < 999:=by
 have:=pM (f:=Hv.pv) (m:=2) hs λh _=>iO h;omega
def jF (T:Addr):y4:=λxs st Q=> ∃ns:List Int,xs= [.lst (ns.map PV.int)]/\st= [.tbl T u8 wU]/\ns.length<=63/\∀s,Q (.bl true) s
theorem zd7 (r:Rw):r.dep<=2:=by
 obtain⟨g,d⟩:=r;cases g with
 | none=>exact(by decide:1<=2)
 | some x=>exact Nat.le_refl 2
abbrev As:=List Hv×Rw×List Hv×Option Int×Option Str
def nP:As->PV:=λx=> .tup [.tup (x.1.map Hv.pv),x.2.1.pv,wT x.2.2.1 x.2.2.2.1 x.2.2.2.2]
def zio (sh:List Sh)(x:As):Prop:= ∃n,n < 60/\tH n sh x.1/\lS sh x.2.1/\nJ sh x.1 x.2.1 x.2.2.1 x.2.2.2.1 x.2.2.2.2
def iQ:Option Dd->PV | none=> .non | some d=>d.pv
theorem zjP (d:Dd): ∃xs,d.pv= .tup xs:=by
 cases d with
 | bag up s t=>cases up <;> exact⟨_,rfl⟩
 | _=>exact⟨_,rfl⟩
theorem zp7 (r:Rw):yQ r.pv=true:=by
 obtain⟨g,d⟩:=r;cases g with
 | none=>exact dH d
 | some x=>rfl
theorem zp2 {n:Nat}{sh:List Sh}{hs:List Hv}(n60:n < 60)(h:tH n sh hs): ∀(k:Nat) s,sh[k]?=some s->sF s "row" ->∃us,hs[k]?=some (.row us)/\us.length < 60:=λk s hk ⟨r,er⟩=>by
 have hil:k < hs.length:=by rw[h.1];exact(List.getElem?_eq_some_iff.mp hk).1
 have ev:hs[k]?=some hs[k]:=List.getElem?_eq_getElem hil;obtain⟨kd,r',e,hv⟩:=h.2 k s _ hk ev;rw[er]at e;cases e;generalize hs[k]=v at ev hv;cases v with
 | int u=>exact absurd rfl hv.2.1
 | bag l=>exact absurd hv.1 (by decide+kernel)
 | row us=>exact⟨us,ev,by have:=hv.2;omega⟩
section
variable {P:Program} {w:World} {K:Frag} {mg:Str->Option Value} {base:Heap}
theorem znp {f:Addr}{fd:FuncData}(M:Mo K mg)(F:zZ K "many_of" "many_of" oZ f fd):zJ P w K mg base zI 1 f fd ["bag","word"] (zN K zhr):=by
 refine xI 0 F zpF (λxs st Q h=>by obtain⟨l,x,rfl,_⟩:=h;rfl) ⟨_,λcdv A outer s H E hr=>(zP (y7 (wY PySem.F.plainAttrs_dict PySem.F.slot_dict_get PySem.F.type_dict_get (by decide) (g9 hr) (xT (zfK rfl) (by rfl) M.dict iI (z4 (qv 0) z6)) (z4 (qv 1) (z4 z7 z6))))),λxs st Q h=> ?_⟩;obtain⟨l,x,rfl,hn,q⟩:=h;unfold xK
 simp_all? only[gL]
 refine⟨_,kD l,?_⟩;rw[kU hn,lE]
 simp_all? only[true_and]
 exact q
theorem nd0:(["one","other","numbers","?3","?4","word","many"]:List Str).Nodup:=by decide+kernel
theorem znk {f:Addr}{fd:FuncData}(M:Mo K mg)(F:zZ K "bags_added" "bags_added" qV f fd):zJ P w K mg base zI 1 f fd ["one","other"] (zN K zhd):=by
 refine xI 0 F gY (λxs st Q h=>by obtain⟨l,m,rfl,_⟩:=h;rfl) ⟨_,λcdv A outer s H E hr=>(zE (zY (i:=2) gY.nd rfl (Or.inl rfl) (xT (zfL rfl) (by rfl) M.dict iI (z4 (qv 0) z6)))
   (zE (o8 PassesOwn.never rfl (vI (qv 1)) (rG (n:=2) rfl (wF (yZ (i:=3) gY.nd rfl (Or.inl rfl)) (wF (yZ (i:=4) gY.nd rfl (Or.inl rfl)) rH))) (zP (qK (y6 xH (wY PySem.F.plainAttrs_dict PySem.F.slot_dict_get PySem.F.type_dict_get (by decide) (g9 hr) (qv 2) (z4 (qv 3) (z4 z7 z6))) (qv 4)) (mM hr (qv 2) (qv 3)))))
   (zP (y7 (xT (tP rfl) (by rfl) M.tuple uQ (z4 (uD (own:= ["word","many"]) (vM (fsc:=zK qV) (N:= ["one","other","numbers","word","many"]) (N':= ["one","other","numbers","?3","?4"]) rfl rfl (by decide+kernel)) rfl (vI (zoO rfl (by rfl) M.sorted (qv 2))) (λC s H fp pins=>(rG (n:=2) rfl (wF (yZ (i:=5) nd0 rfl (Or.inl rfl)) (wF (yZ (i:=6) nd0 rfl (Or.inl rfl)) rH)))) (λC s H fp pins=>gI (yB (o4 hr) (qv 6) z7 (zS _))) (λC s H fp pins=>(yO (z4 (qv 5) (z4 (qv 6) z6))))) z6)))))),λxs st Q h=> ?_⟩
 obtain⟨l,m,rfl,hn,hz,q⟩:=h;unfold xK
 simp_all? only[j3]
 refine⟨_,kD l,?_⟩;rw[kU hn];refine pO (λi env s=> ∃v w,env= [some (xK l),some (xK m),some (PV.obj st.length),v,w]/\s=st++ [.dct (xE (wN l (m.take i)))]) ⟨none,none,rfl,rfl⟩ ?_ ?_
 ·rintro i x env s hx ⟨v,w,rfl,rfl⟩
  obtain⟨y,hy,rfl⟩:=wQ hx;have hna:((wN l (m.take i)).map (·.1)).Nodup:=iA hn;have hln:=lX (m.take i) l;have hlt:(m.take i).length<=m.length:=by rw[List.length_take];omega
  simp_all? only[lE,zbb]
  refine⟨Nat.lt_of_lt_of_le (m:=1000) (by omega) (by decide),_,_,rfl,?_⟩;rw[gH hna,nB hy,zcT]
 ·rintro env s ⟨v,w,rfl,rfl⟩
  rw[List.length_map,List.take_of_length_le (Nat.le_refl _)];have hln:=lX m l
  simp_all? only[zic]
  refine⟨(wN l m).map λq=>(q.1,PV.int q.2),?_,by rw[List.length_map];omega,λss' hp hpw=> ?_⟩
  ·unfold xE;rw[List.map_map];rfl
  ·obtain⟨Z,hZ,rfl⟩:=zoi hp
   have hrise:lR Z:=by rw[List.pairwise_map]at hpw;exact hpw
   obtain⟨hbag,hval⟩:=zdc hZ hrise;rw[List.map_map];refine vX pZ (λi x e hx he=> ?_) ?_
   ·obtain⟨y,hy,rfl⟩:=wQ hx
    obtain⟨a,b,rfl⟩:=zfw he
    simp_all? only[Function.comp]
    by_cases h0:y.2=0
    ·have hb:(!(y.2==0))=false:=by simpa using h0
     simp only[hb,Bool.false_eq_true,if_false];exact CP.no (e':= [_,_]) hx (zfF h0) rfl
    ·have hb:(!(y.2==0))=true:=by simpa using h0
     simp only[hb,if_true];exact CP.yes (e':= [_,_]) hx (zfG h0) rfl
   ·rw[show ∀(s:z8) (o:PO),(s++ [o]).take s.length=s from λs o=>jK,show List.filterMap pZ (List.map ((λq:Str×PV=>PV.tup [PV.str q.fst,q.snd]) ∘ λq:Str×Int=>(q.fst,PV.int q.snd)) Z)=_ from zkN Z]
    exact q _ hbag hval (Nat.le_trans (List.length_filter_le _ _) (by rw[hZ.length_eq];exact hln))
theorem znj {f:Addr}{fd:FuncData}(M:Mo K mg)(F:zZ K "bag_with" "bag_with" oS f fd):zJ P w K mg base zI 2 f fd ["bag","word","many"] (zN K zh0):=by
 obtain⟨zkw,zkB,zcF,zjj,zmq⟩:=M.bags_added;have zi9:zJ P w K mg base zI 1 zkw zkB ["one","other"] (zN K zhd):=znk M zcF;refine xI 0 F zpC (λxs st Q h=>by obtain⟨l,x,n,rfl,_⟩:=h;rfl) ⟨_,λcdv A outer s H E hr=>have hr1:zX 1 _:=hr.mono (by decide);(zP (y7 (zL zi9 hr1 (by rfl) zmq zcF.kp zjj (z4 (qv 0) (z4 (yO (z4 (yO (z4 (qv 1) (z4 (qv 2) z6))) z6)) z6))))),λxs st Q h=> ?_⟩;obtain⟨l,x,n,rfl,hn,hz,q⟩:=h
 try simp? only[true_and]
 exact⟨l,[(x,n)],rfl,hn,by rw[List.length_singleton];omega,λR h1 h2 h3=>uS rfl (q R h1 h2 h3)⟩
theorem nd1:(["tuples","word","one"]:List Str).Nodup:=by decide+kernel
theorem znm {f:Addr}{fd:FuncData}(M:Mo K mg)(F:zZ K "first_called" "first_called" qX f fd):zJ P w K mg base zI 1 f fd ["tuples","word"] (zN K zhj):=by
 refine xI 0 F zpE (λxs st Q h=>by obtain⟨sh,S,i,s,rfl,_⟩:=h;rfl) ⟨_,λcdv A outer s H E hr=>(zP (y7 (zD (zC hr) (uD (own:= ["one"]) (vM (fsc:=zK qX) (N:= ["tuples","word"]) (N':= ["tuples","word"]) rfl rfl (by decide+kernel)) rfl (vI (qv 0)) (λC s H fp pins=>(yZ (i:=2) nd1 rfl (Or.inl rfl))) (λC s H fp pins=>gI (yB (yK hr) (zD (zC hr) (qv 2) z7 (λ_ _=>rfl)) (qv 1) (zS _))) (λC s H fp pins=>(qv 2))) z7 (λ_ _=>rfl)))),λxs st Q h=> ?_⟩;obtain⟨sh,S,i,s,rfl,ha,hs,q⟩:=h;obtain⟨more,em⟩:=zeQ ha hs
 try simp? only[true_and]
 refine vX (nY S) (λj x e hx he=> ?_) ?_
 ·obtain⟨⟨n,a,b⟩,hs',rfl⟩:=wQ hx
  obtain⟨y,rfl⟩:=sQ he;unfold zW
  try simp? only[true_and]
  by_cases hn:n=S
  ·have hb:(n==S)=true:=by rw[hn];exact beq_self_eq_true _
   have hf:nY S (zW (n,a,b))=some (zW (n,a,b)):=by show(if n==S then _ else _)=_;rw[hb];rfl
   try simp? only[hb]
   exact CP.yes (e':= [_]) hx hf rfl
  ·have hb:(n==S)=false:=by simpa using hn
   have hf:nY S (zW (n,a,b))=none:=by show(if n==S then _ else _)=_;rw[hb];rfl
   try simp? only[hb]
   exact CP.no (e':= [_]) hx hf rfl
 rw[em]
 try simp? only[true_and]
 exact uS rfl q
theorem znr {f:Addr}{fd:FuncData}(M:Mo K mg)(F:zZ K "shelf_named" "shelf_named" n5 f fd):zJ P w K mg base zI 2 f fd ["program","S"] (zN K zhw):=by
 obtain⟨zkL,zkE,zcH,zjl,zms⟩:=M.first_called;have ziA:zJ P w K mg base zI 1 zkL zkE ["tuples","word"] (zN K zhj):=znm M zcH;refine xI 0 F zpI (λxs st Q h=>by obtain⟨sh,zB,S,i,s,rfl,_⟩:=h;rfl) ⟨_,λcdv A outer s H E hr=>have hr1:zX 1 _:=hr.mono (by decide);(zP (y7 (zL ziA hr1 (by rfl) zms zcH.kp zjl (z4 (zD (zC hr) (qv 0) z7 (λ_ _=>rfl)) (z4 (qv 1) z6))))),λxs st Q h=> ?_⟩;obtain⟨sh,zB,S,i,s,rfl,ha,hs,q⟩:=h
 try simp? only[true_and]
 exact⟨sh,S,i,s,rfl,ha,hs,uS rfl q⟩
theorem nd2:(["program","S","shelf"]:List Str).Nodup:=by decide+kernel
theorem zbt {f:Addr}{fd:FuncData}(M:Mo K mg)(F:zZ K "shelf_place" "shelf_place" qZ f fd):zJ P w K mg base zI 1 f fd ["program","S"] (zN K fC):=by
 refine xI 0 F zpJ (λxs st Q h=>by obtain⟨sh,zB,S,i,rfl,_⟩:=h;rfl) ⟨_,λcdv A outer s H E hr=>(zP (y7 (wY PySem.F.plainAttrs_list PySem.F.slot_list_index PySem.F.type_list_index (by decide) zbn (uD (own:= ["shelf"]) (vM (fsc:=zK qZ) (N:= ["program","S"]) (N':= ["program","S"]) rfl rfl (by decide+kernel)) rfl (vI (zD (zC hr) (qv 0) z7 (λ_ _=>rfl))) (λC s H fp pins=>(yZ (i:=2) nd2 rfl (Or.inl rfl))) (λC s H fp pins=>sW) (λC s H fp pins=>(zD (zC hr) (qv 2) z7 (λ_ _=>rfl)))) (z4 (qv 1) z6)))),λxs st Q h=> ?_⟩;obtain⟨sh,zB,S,i,rfl,hf,q⟩:=h
 try simp? only[true_and]
 refine vX sS (λj x e hx he=> ?_) ?_
 ·obtain⟨s,hs,rfl⟩:=wQ hx
  obtain⟨y,rfl⟩:=sQ he;unfold zW
  try simp? only[true_and]
  exact CP.yes (e':= [_]) hx rfl rfl
 rw[pN sh (f:=sS) (h:=λs=>PV.str s.1) λs=>rfl]
 try simp? only[oA,uX]
 refine⟨_,i,rfl,?_,rfl,kL hf,?_⟩
 ·rw[List.all_map];exact List.all_eq_true.mpr λ_ _=>rfl
 ·try simp? only[true_and]
  exact q
theorem zfW {f:Addr}{fd:FuncData}(M:Mo K mg)(F:zZ K "value_asked" "value_asked" n8 f fd):zJ P w K mg base zI 2 f fd ["program","house","leaf"] (zN K jH):=by
 obtain⟨zkQ,zkG,zcJ,zjn,zmx⟩:=M.many_of;have ziC:zJ P w K mg base zI 1 zkQ zkG ["bag","word"] (zN K zhr):=znp M zcJ;obtain⟨kM,kK,rO,kE,kW⟩:=M.shelf_place;have lK:zJ P w K mg base zI 1 kM kK ["program","S"] (zN K fC):=zbt M rO;obtain⟨tW,hW⟩:=M.WIDE;refine xI 0 F zgX (λxs st Q h=>by obtain⟨sh,zB,hs,l,v,rfl,_⟩:=h;rfl) ⟨_,λcdv A outer s H E hr=>have hr1:zX 1 _:=hr.mono (by decide);(zE (zY (i:=3) zgX.nd rfl (Or.inl rfl) (zD (zC hr) (qv 1) (zL lK hr1 (by rfl) kW rO.kp kE (z4 (qv 0) (z4 (zD (zC hr) (qv 2) z7 (λ_ _=>rfl)) z6))) (λ_ _=>rfl)))
   (zE (yI (yB (yK hr) (zD (zC hr) (qv 2) z7 (λ_ _=>rfl)) zM (zS _)) (zP (y7 (y6 wV (zL ziC hr1 (by rfl) zmx zcJ.kp zjn (z4 (qv 3) (z4 (zD (zC hr) (qv 2) z7 (λ_ _=>rfl)) z6))) (zg6 (v:= .int 4294967296) (y:= .int 4294967296) (by rfl) hW ⟨_,rfl⟩ (λ_ _=> .val (.int _)))))) yL)
   (zE (yI (yB (yK hr) (zD (zC hr) (qv 2) z7 (λ_ _=>rfl)) zM (zS _)) (zP (y7 (xL wG (by rfl) M.len PySem.boot_len (z4 (qv 3) z6)))) yL)
   (zP (y7 (qv 3)))))),λxs st Q h=> ?_⟩
 obtain⟨sh,zB,hs,l,v,rfl,hB,hv,q⟩:=h;have e1:(("shelf" :Str)==("many" :Str))=false:=by decide+kernel
 have e2:(("shelf" :Str)==("long" :Str))=false:=by decide+kernel
 have e3:(("long" :Str)==("many" :Str))=false:=by decide+kernel
 have at_: ∀{s:Str} {u:Hv},xZ sh hs s=some u->∃i:Nat,(sh.map (·.1)).findIdx? (λn=>n==s)=some i/\atI (hs.map Hv.pv) (i:Int)=some u.pv/\u∈hs:=λ{s u} h=>by
  unfold xZ at h;obtain⟨i,h1,h2⟩:=Option.bind_eq_some_iff.mp h;exact⟨i,h1,v6 (by rw[List.getElem?_map,h2];rfl),List.mem_of_getElem? h2⟩
 cases l with
 | shelf s=>
  obtain⟨u,hu⟩: ∃u,xZ sh hs s=some (.int u)/\v=u:=by
   have hv':(match xZ sh hs s with | some (.int v)=>some v | _=>none)=some v:=hv
   split at hv' <;> rename_i h
   ·cases hv';exact⟨_,h,rfl⟩
   ·cases hv'
  obtain⟨hu,rfl⟩:=hu;obtain⟨i,hi,ha,_⟩:=at_ hu;unfold Lf.pv;refine z9 ?_
  try simp? only[true_and]
  refine⟨sh,zB,s,i,rfl,hi,?_⟩
  try simp? only[ha]
  refine z9 ?_
  try simp? only[e1]
  refine z9 ?_
  try simp? only[e2]
  unfold Hv.pv
  try simp? only[true_and]
  exact q
 | many s t=>
  obtain⟨u,hu⟩: ∃u,xZ sh hs s=some (.bag u)/\v=y9 u t % 4294967296:=by
   have hv':(match xZ sh hs s with | some (.bag l)=>some (y9 l t % 4294967296) | _=>none)=some v:=hv
   split at hv' <;> rename_i h
   ·cases hv';exact⟨_,h,rfl⟩
   ·cases hv'
  obtain⟨hu,rfl⟩:=hu;obtain⟨i,hi,ha,hm⟩:=at_ hu;unfold Lf.pv;refine z9 ?_
  try simp? only[true_and]
  refine⟨sh,zB,s,i,rfl,hi,?_⟩
  try simp? only[ha]
  refine z9 ?_
  try simp? only[beq_self_eq_true]
  refine⟨u,t,rfl,hB u hm,?_⟩
  try simp? only[true_and]
  exact q
 | long s=>
  obtain⟨u,hu⟩: ∃u,xZ sh hs s=some (.row u)/\v=(u.length:Int):=by
   have hv':(match xZ sh hs s with | some (.row ws)=>some (ws.length:Int) | _=>none)=some v:=hv
   split at hv' <;> rename_i h
   ·cases hv';exact⟨_,h,rfl⟩
   ·cases hv'
  obtain⟨hu,rfl⟩:=hu;obtain⟨i,hi,ha,_⟩:=at_ hu;unfold Lf.pv;refine z9 ?_
  try simp? only[true_and]
  refine⟨sh,zB,s,i,rfl,hi,?_⟩
  try simp? only[ha]
  refine z9 ?_
  try simp? only[e3]
  refine z9 ?_
  try simp? only[beq_self_eq_true]
  unfold Hv.pv
  try simp? only[List.length_map]
  exact q
theorem nd3:(["program","shelf"]:List Str).Nodup:=by decide+kernel
theorem znl {f:Addr}{fd:FuncData}(M:Mo K mg)(F:zZ K "begins" "begins" qW f fd):zJ P w K mg base zI 1 f fd ["program"] (zN K zhe):=by
 refine xI 0 F zpD (λxs st Q h=>by obtain⟨sh,zB,rfl,_⟩:=h;rfl) ⟨_,λcdv A outer s H E hr=>(zP (y7 (xT (tP rfl) (by rfl) M.tuple uQ (z4 (uD (own:= ["shelf"]) (vM (fsc:=zK qW) (N:= ["program"]) (N':= ["program"]) rfl rfl (by decide+kernel)) rfl (vI (zD (zC hr) (qv 0) z7 (λ_ _=>rfl))) (λC s H fp pins=>(yZ (i:=1) nd3 rfl (Or.inl rfl))) (λC s H fp pins=>sW) (λC s H fp pins=>(zD (zC hr) (qv 1) z7 (λ_ _=>rfl)))) z6)))),λxs st Q h=> ?_⟩;obtain⟨sh,zB,rfl,hl,hno,q⟩:=h
 try simp? only[true_and]
 refine vX iF (λj x e hx he=> ?_) ?_
 ·obtain⟨⟨n,a,b⟩,hs',rfl⟩:=wQ hx
  obtain⟨y,rfl⟩:=sQ he;unfold zW
  try simp? only[true_and]
  exact⟨hno _ (List.mem_iff_getElem?.mpr ⟨j,hs'⟩),CP.yes (e':= [_]) hx rfl rfl⟩
 rw[pN sh (f:=iF) (g:=zW) (h:=λs=>s.2.2) λs=>rfl]
 try simp? only[true_and]
 exact q
theorem znq {f:Addr}{fd:FuncData}(M:Mo K mg)(F:zZ K "number_set" "number_set" n4 f fd):zJ P w K mg base zI 1 f fd ["manner","number"] (zN K zhs):=by
 refine xI 0 F zpG (λxs st Q h=>by obtain⟨kd,r,v,rfl,_⟩:=h;rfl) ⟨_,λcdv A outer s H E hr=>(zE (yI (yB (yK hr) (zD (zC hr) (qv 0) z7 (λ_ _=>rfl)) zM (zS _)) (zP (y7 (y6 wV (qv 1) (zD (zC hr) (qv 0) z7 (λ_ _=>rfl))))) yL)
   (zP (y7 (qv 1)))),λxs st Q h=> ?_⟩
 obtain⟨kd,r,v,rfl,hm,q⟩:=h;rcases hm with⟨hk,rfl⟩ | ⟨rfl,n,t,rfl,n2,n6⟩
 ·have hne:(kd==("told" :Str))=false:=by rcases hk with rfl | rfl | rfl | rfl <;> decide+kernel
  refine z9 ?_
  try simp? only[hne]
  exact q
 ·refine z9 ?_
  try simp? only[beq_self_eq_true]
  exact⟨by omega,q⟩
theorem zno {T c0 u6:Addr}{u3:FuncData}{f:Addr}{fd:FuncData}(M:Mo K mg)(FC:sZ K "value_of" "value_of" xU u6 u3 c0)(hC:PySem.W.codeHdIn K c0 T=true)(hB:base.BuiltinsAt mg T)(rP:zZ K "value_of" "value_of" xU u6 u3)(rX:yH K u3 ["program","house","term"] [])(qA:mg "value_of" =some (.ref u6))(F:zZ K "made_by" "made_by" oY f fd):zJ P w K mg base zI 13 f fd ["program","house","deed"] (zN K (zhp T)):=by
 obtain⟨zkv,zkA,fV,zdd,zf5⟩:=M.bag_with
 have zcO:zJ P w K mg base zI 2 zkv zkA ["bag","word","many"] (zN K zh0):=znj M fV
 obtain⟨zkU,zkJ,zcL,zjq,zmz⟩:=M.shelf_named;have ziE:zJ P w K mg base zI 2 zkU zkJ ["program","S"] (zN K zhw):=znr M zcL;obtain⟨kM,kK,rO,kE,kW⟩:=M.shelf_place;have lK:zJ P w K mg base zI 1 kM kK ["program","S"] (zN K fC):=zbt M rO;obtain⟨fVA,fdVA,FVA,bVA,mVA⟩:=M.value_asked;have jY:zJ P w K mg base zI 12 u6 u3 ["program","house","term"] (zN K (fE Lf.pv jH T)):=zfY kQ zf0 M (zfW M FVA) mVA FVA.kp bVA FC hC hB;obtain⟨zkR,zkH,zcK,zjo,zmy⟩:=M.number_set;have ziD:zJ P w K mg base zI 1 zkR zkH ["manner","number"] (zN K zhs):=znq M zcK;obtain⟨tW,hW⟩:=M.WIDE;refine xI 0 F zbY (λxs st Q h=>by obtain⟨sh,zB,hs,d,i,j,rfl,_⟩:=h;rfl) ⟨_,λcdv A outer s H E hr=>have hr1:zX 1 _:=hr.mono (by decide);have hr2:zX 2 _:=hr.mono (by decide);have hr12:zX 12 _:=hr.mono (by decide);(zE (zY (i:=3) zbY.nd rfl (Or.inl rfl) (zD (zC hr) (qv 1) (zL lK hr1 (by rfl) kW rO.kp kE (z4 (qv 0) (z4 (zD (zC hr) (qv 2) z7 (λ_ _=>rfl)) z6))) (λ_ _=>rfl)))
   (zE (yI (yB (yK hr) (zD (zC hr) (qv 2) z7 (λ_ _=>rfl)) zM (zS _)) (zP (y7 (zL zcO hr2 (by rfl) zf5 fV.kp zdd (z4 (qv 3) (z4 (zD (zC hr) (qv 2) z7 (λ_ _=>rfl)) (z4 z7 z6)))))) yL)
   (zE (yI (yB (yK hr) (zD (zC hr) (qv 2) z7 (λ_ _=>rfl)) zM (zS _)) (zP (y7 (zL zcO hr2 (by rfl) zf5 fV.kp zdd (z4 (qv 3) (z4 (zD (zC hr) (qv 2) z7 (λ_ _=>rfl)) (z4 (zb9 zbo z7) z6)))))) yL)
   (zE (zY (i:=4) zbY.nd rfl (Or.inl rfl) (zL jY hr12 (by rfl) qA rP.kp rX (z4 (qv 0) (z4 (qv 1) (z4 (zD (zC hr) (qv 2) z7 (λ_ _=>rfl)) z6)))))
   (zE (yI (yB (yK hr) (zD (zC hr) (qv 2) z7 (λ_ _=>rfl)) zM (zS _)) (zP (y7 (zL ziD hr1 (by rfl) zmy zcK.kp zjo (z4 (zD (zC hr) (zL ziE hr2 (by rfl) zmz zcL.kp zjq (z4 (qv 0) (z4 (zD (zC hr) (qv 2) z7 (λ_ _=>rfl)) z6))) z7 (λ_ _=>rfl)) (z4 (qv 4) z6))))) yL)
   (zE (yI (yB (yK hr) (zD (zC hr) (qv 2) z7 (λ_ _=>rfl)) zM (zS _)) (zP (y7 (y6 wV (y6 xH (qv 3) (qv 4)) (zg6 (v:= .int 4294967296) (y:= .int 4294967296) (by rfl) hW ⟨_,rfl⟩ (λ_ _=> .val (.int _)))))) yL)
   (zE (yI (yB (yK hr) (zD (zC hr) (qv 2) z7 (λ_ _=>rfl)) zM (zS _)) (zP (y7 (y6 xH (y6 xH (qJ (qv 3) rJ (rK (qv 4))) (yO (z4 (zD (zC hr) (qv 2) z7 (λ_ _=>rfl)) z6))) (qJ (qv 3) (rK (qv 4)) rJ)))) yL)
   (zP (y7 (y6 xH (qJ (qv 3) rJ (rK (qv 4))) (qJ (qv 3) (rK (y6 xH (qv 4) z7)) rJ))))))))))),λxs st Q h=> ?_⟩
 obtain⟨sh,zB,hs,d,i,j,rfl,hj,H,hnm,htm,hkd,q⟩:=h;have thou: ∀{n:Nat},n<=1000->n<=sizeLine:=λh=>Nat.le_trans h (by decide);have hv: ∀l,vP sh hs l->In (yJ sh hs l):=λl ⟨v,e1,e2⟩=>by unfold yJ;rw[e1];exact e2
 have n_out_in:(("out" :Str)==("in" :Str))=false:=by decide+kernel
 have n_set_in:(("set" :Str)==("in" :Str))=false:=by decide+kernel
 have n_set_out:(("set" :Str)==("out" :Str))=false:=by decide+kernel
 have n_more_in:(("more" :Str)==("in" :Str))=false:=by decide+kernel
 have n_more_out:(("more" :Str)==("out" :Str))=false:=by decide+kernel
 have n_more_set:(("more" :Str)==("set" :Str))=false:=by decide+kernel
 have n_lay_in:(("lay" :Str)==("in" :Str))=false:=by decide+kernel
 have n_lay_out:(("lay" :Str)==("out" :Str))=false:=by decide+kernel
 have n_lay_set:(("lay" :Str)==("set" :Str))=false:=by decide+kernel
 have n_lay_more:(("lay" :Str)==("more" :Str))=false:=by decide+kernel
 have n_drop_in:(("drop" :Str)==("in" :Str))=false:=by decide+kernel
 have n_drop_out:(("drop" :Str)==("out" :Str))=false:=by decide+kernel
 have n_drop_set:(("drop" :Str)==("set" :Str))=false:=by decide+kernel
 have n_drop_more:(("drop" :Str)==("more" :Str))=false:=by decide+kernel
 have n_drop_lay:(("drop" :Str)==("lay" :Str))=false:=by decide+kernel
 cases d with
 | tell x=>exact hkd.elim
 | bag up s t=>
  obtain⟨l,e,nd,lt⟩:=hkd;have ev:atI (hs.map Hv.pv) (i:Int)=some (xK l):=tL e;cases up with
  | true=>
   unfold Dd.pv;refine z9 ?_
   try simp? only[true_and]
   refine⟨sh,zB,s,i,rfl,hnm s rfl,?_⟩
   try simp? only[ev]
   refine z9 ?_
   try simp? only[beq_self_eq_true]
   exact⟨l,t,1,rfl,nd,by omega,λR h1 h2 h3=>uS rfl (q (.bag R) ⟨l,R,e,h1,h2,h3,rfl⟩)⟩
  | false=>
   unfold Dd.pv;refine z9 ?_
   try simp? only[true_and]
   refine⟨sh,zB,s,i,rfl,hnm s rfl,?_⟩
   try simp? only[ev]
   refine z9 ?_
   try simp? only[n_out_in]
   refine z9 ?_
   try simp? only[beq_self_eq_true]
   exact⟨l,t,-1,rfl,nd,by omega,λR h1 h2 h3=>uS rfl (q (.bag R) ⟨l,R,e,h1,h2,h3,rfl⟩)⟩
 | set s x=>
  obtain⟨h0,n,kd,r,b,e,es,hm⟩:=hkd;have ev:atI (hs.map Hv.pv) (i:Int)=some h0.pv:=tL e;have ok:=htm x rfl;unfold Dd.pv;refine z9 ?_
  try simp? only[true_and]
  refine⟨sh,zB,s,i,rfl,hnm s rfl,?_⟩
  try simp? only[ev]
  refine z9 ?_
  try simp? only[n_set_in]
  refine z9 ?_
  try simp? only[n_set_out]
  refine z9 ?_
  try simp? only[true_and]
  refine⟨_,_,x,vP sh hs,yJ sh hs,j,rfl,H.dp,H.dh,hj,ok.1,ok.2,hv,λl st' Q' ⟨v,e1,e2⟩ q'=>⟨sh,_,hs,l,v,rfl,H.bags,e1,?_⟩,?_⟩
  ·have:yJ sh hs l=v:=by unfold yJ;rw[e1];rfl
   rw[this]at q';exact q'
  try simp? only[true_and]
  refine z9 ?_
  try simp? only[beq_self_eq_true]
  refine⟨sh,zB,s,i,_,rfl,hnm s rfl,es,?_⟩;unfold zW
  try simp? only[true_and]
  exact⟨kd,r,_,rfl,hm,uS rfl (q (.int _) ⟨n,kd,r,b,es,rfl⟩)⟩
 | more s x=>
  obtain⟨u,n,kd,r,b,e,es,hm⟩:=hkd;have ev:atI (hs.map Hv.pv) (i:Int)=some (.int u):=tL e;have ok:=htm x rfl;unfold Dd.pv;refine z9 ?_
  try simp? only[true_and]
  refine⟨sh,zB,s,i,rfl,hnm s rfl,?_⟩
  try simp? only[ev]
  refine z9 ?_
  try simp? only[n_more_in]
  refine z9 ?_
  try simp? only[n_more_out]
  refine z9 ?_
  try simp? only[true_and]
  refine⟨_,_,x,vP sh hs,yJ sh hs,j,rfl,H.dp,H.dh,hj,ok.1,ok.2,hv,λl st' Q' ⟨v,e1,e2⟩ q'=>⟨sh,_,hs,l,v,rfl,H.bags,e1,?_⟩,?_⟩
  ·have:yJ sh hs l=v:=by unfold yJ;rw[e1];rfl
   rw[this]at q';exact q'
  try simp? only[true_and]
  refine z9 ?_
  try simp? only[n_more_set]
  refine z9 ?_
  try simp? only[beq_self_eq_true]
  exact q (.int _) ⟨u,e,rfl⟩
 | lay s x t=>
  obtain⟨ws,n,kd,r,b,e,wl,es,hm⟩:=hkd;have ev:atI (hs.map Hv.pv) (i:Int)=some (.tup (ws.map PV.str)):=tL e;have ok:=htm x rfl;obtain⟨z0,_⟩:=sB hv ok.1;obtain⟨k,hk⟩: ∃k:Nat,x.val (yJ sh hs)=(k:Int):=⟨(x.val (yJ sh hs)).toNat,by omega⟩;have hk2:(tv sh hs x).toNat=k:=by unfold tv;omega
  unfold Dd.pv;refine z9 ?_
  try simp? only[true_and]
  refine⟨sh,zB,s,i,rfl,hnm s rfl,?_⟩
  try simp? only[ev]
  refine z9 ?_
  try simp? only[n_lay_in]
  refine z9 ?_
  try simp? only[n_lay_out]
  refine z9 ?_
  try simp? only[true_and]
  refine⟨_,_,x,vP sh hs,yJ sh hs,j,rfl,H.dp,H.dh,hj,ok.1,ok.2,hv,λl st' Q' ⟨v,e1,e2⟩ q'=>⟨sh,_,hs,l,v,rfl,H.bags,e1,?_⟩,?_⟩
  ·have:yJ sh hs l=v:=by unfold yJ;rw[e1];rfl
   rw[this]at q';exact q'
  rw[hk]
  try simp? only[true_and]
  refine z9 ?_
  try simp? only[n_lay_set]
  refine z9 ?_
  try simp? only[n_lay_more]
  refine z9 ?_
  try simp? only[beq_self_eq_true,iM,dE,<- List.map_take,<- List.map_drop,List.length_map,List.length_take,List.length_drop,List.length_append,List.length_singleton]
  have q1:=q (.row (ws.take k++t::ws.drop k)) ⟨ws,e,by rw[hk2]⟩;refine⟨thou (by omega),thou (by omega),?_⟩;have e1:List.map PV.str (ws.take k)++ [PV.str t]++List.map PV.str (ws.drop k)=List.map PV.str (ws.take k++t::ws.drop k):=by simp
  rw[e1];exact q1
 | drop s x=>
  obtain⟨ws,n,kd,r,b,e,wl,es,hm⟩:=hkd;have ev:atI (hs.map Hv.pv) (i:Int)=some (.tup (ws.map PV.str)):=tL e;have ok:=htm x rfl;obtain⟨z0,_⟩:=sB hv ok.1;obtain⟨k,hk⟩: ∃k:Nat,x.val (yJ sh hs)=(k:Int):=⟨(x.val (yJ sh hs)).toNat,by omega⟩;have hk2:(tv sh hs x).toNat=k:=by unfold tv;omega
  obtain⟨k',hk'⟩: ∃k':Nat,(k':Int)=(k:Int)+1:=⟨k+1,by omega⟩;unfold Dd.pv;refine z9 ?_
  try simp? only[true_and]
  refine⟨sh,zB,s,i,rfl,hnm s rfl,?_⟩
  try simp? only[ev]
  refine z9 ?_
  try simp? only[n_drop_in]
  refine z9 ?_
  try simp? only[n_drop_out]
  refine z9 ?_
  try simp? only[true_and]
  refine⟨_,_,x,vP sh hs,yJ sh hs,j,rfl,H.dp,H.dh,hj,ok.1,ok.2,hv,λl st' Q' ⟨v,e1,e2⟩ q'=>⟨sh,_,hs,l,v,rfl,H.bags,e1,?_⟩,?_⟩
  ·have:yJ sh hs l=v:=by unfold yJ;rw[e1];rfl
   rw[this]at q';exact q'
  rw[hk]
  try simp? only[true_and]
  refine z9 ?_
  try simp? only[n_drop_set]
  refine z9 ?_
  try simp? only[n_drop_more]
  refine z9 ?_
  try simp? only[n_drop_lay]
  try simp? only[<- hk',iM,dE,<- List.map_take,<- List.map_drop,List.length_map,List.length_take,List.length_drop]
  have:k'=k+1:=by omega
  subst this;have q1:=q (.row (ws.take k++ws.drop (k+1))) ⟨ws,e,by rw[hk2]⟩;refine⟨thou (by omega),?_⟩;rw[<- List.map_append];exact q1
theorem zfV {T c0 u6:Addr}{u3:FuncData}{f:Addr}{fd:FuncData}(M:Mo K mg)(FC:sZ K "value_of" "value_of" xU u6 u3 c0)(hC:PySem.W.codeHdIn K c0 T=true)(hB:base.BuiltinsAt mg T)(rP:zZ K "value_of" "value_of" xU u6 u3)(rX:yH K u3 ["program","house","term"] [])(qA:mg "value_of" =some (.ref u6))(F:zZ K "done" "done" oW f fd)(nQ:yH K fd ["program","house","row"] [])(mG:mg "done" =some (.ref f)): ∀d,zJ P w K mg base zI (d+13) f fd ["program","house","row"] (zN K ((fB T) d))
 | 0=>⟨λvs H Q E h=>(zhh h).elim,λA outer s H args us vs Q E _ _ _ _ h=>(zhh h).elim⟩
 | d+1=>by
  have IH:zJ P w K mg base zI (d+13) f fd ["program","house","row"] (zN K ((fB T) d)):=zfV M FC hC hB rP rX qA F nQ mG d;obtain⟨kM,kK,rO,kE,kW⟩:=M.shelf_place;have lK:zJ P w K mg base zI 1 kM kK ["program","S"] (zN K fC):=zbt M rO;obtain⟨fVA,fdVA,FVA,bVA,mVA⟩:=M.value_asked;have jY:zJ P w K mg base zI 12 u6 u3 ["program","house","term"] (zN K (fE Lf.pv jH T)):=zfY kQ zf0 M (zfW M FVA) mVA FVA.kp bVA FC hC hB;obtain⟨zkP,zkF,zcI,zjm,zmw⟩:=M.made_by
  have ziB:zJ P w K mg base zI 13 zkP zkF ["program","house","deed"] (zN K (zhp T)):=zno M FC hC hB rP rX qA zcI
  have lJ:=F;refine xI 0 F zbX (λxs st Q h=>by obtain⟨sh,zB,hs,r,j,rfl,_⟩:=h;rfl) ⟨_,λcdv A outer s H E hr=>have hr1:zX 1 _:=hr.mono (by omega);have hr12:zX 12 _:=hr.mono (by omega);have hr13:zX 13 _:=hr.mono (by omega);(zE (yI (yB (yK hr) (zD (zC hr) (qv 2) z7 (λ_ _=>rfl)) zM (zS _)) (zE (yI (yB (yK hr) (zL jY hr12 (by rfl) qA rP.kp rX (z4 (qv 0) (z4 (qv 1) (z4 (zD (zC hr) (qv 2) z7 (λ_ _=>rfl)) z6)))) z7 (zS _)) (zP (y7 (yO (z4 (qv 1) (z4 tX (z4 tX z6)))))) yL)
   (zP (y7 (zL IH hr (by rfl) mG lJ.kp nQ (z4 (qv 0) (z4 (qv 1) (z4 (zD (zC hr) (qv 2) z7 (λ_ _=>rfl)) z6))))))) yL)
   (zE (yI (yB (yK hr) (zD (zC hr) (qv 2) z7 (λ_ _=>rfl)) zM (zS _)) (zP (y7 (yO (z4 (qv 1) (z4 (zL jY hr12 (by rfl) qA rP.kp rX (z4 (qv 0) (z4 (qv 1) (z4 (zD (zC hr) (qv 2) z7 (λ_ _=>rfl)) z6)))) (z4 tX z6)))))) yL)
   (zE (zY (i:=3) zbX.nd rfl (Or.inl rfl) (zL lK hr1 (by rfl) kW rO.kp kE (z4 (qv 0) (z4 (zD (zC hr) (qv 2) z7 (λ_ _=>rfl)) z6))))
   (zE (zY (i:=4) zbX.nd rfl (Or.inl rfl) (zL ziB hr13 (by rfl) zmw zcI.kp zjm (z4 (qv 0) (z4 (qv 1) (z4 (qv 2) z6)))))
   (zP (y7 (yO (z4 (y6 xH (y6 xH (qJ (qv 1) rJ (rK (qv 3))) (yO (z4 (qv 4) z6))) (qJ (qv 1) (rK (y6 xH (qv 3) z7)) rJ)) (z4 tX (z4 (zD (zC hr) (qv 2) z7 (λ_ _=>rfl)) z6)))))))))),λxs st Q h=> ?_⟩
  obtain⟨sh,zB,hs,r,j,rfl,hj,H,hl,hok,hdp,q⟩:=h;have thou: ∀{n:Nat},n<=1000->n<=sizeLine:=λh=>Nat.le_trans h (by decide);have hv: ∀l,vP sh hs l->In (yJ sh hs l):=λl ⟨v,e1,e2⟩=>by unfold yJ;rw[e1];exact e2
  have n_tw:(("tell" :Str)==("when" :Str))=false:=by decide+kernel
  obtain⟨g,dd⟩:=r;cases g with
  | some x=>
   have ok:=hok.1 x rfl;unfold Rw.pv;refine z9 ?_
   try simp? only[beq_self_eq_true]
   refine z9 ?_
   try simp? only[true_and]
   refine⟨_,_,x,vP sh hs,yJ sh hs,j,rfl,H.dp,H.dh,hj,ok.1,ok.2,hv,λl st' Q' ⟨v,e1,e2⟩ q'=>⟨sh,_,hs,l,v,rfl,H.bags,e1,?_⟩,?_⟩
   ·have:yJ sh hs l=v:=by unfold yJ;rw[e1];rfl
    rw[this]at q';exact q'
   by_cases hz:x.val (yJ sh hs)=0
   ·rw[hz]
    try simp? only[beq_self_eq_true]
    exact q hs none none (.inl ⟨x,rfl,hz,rfl,rfl,rfl⟩)
   ·have hb:(x.val (yJ sh hs)==0)=false:=by simpa using hz
    try simp? only[hb]
    refine⟨sh,zB,hs,(none,dd),j,rfl,hj,H,hl,⟨λ_ z=>(by cases z),hok.2⟩,Nat.le_of_succ_le_succ (show 2<=d+1 from hdp),λhs' o nm hD=>uS rfl (q hs' o nm (.inr ⟨λy hy=>by cases hy;exact hz,?_⟩))⟩;rcases hD with⟨y,hy,_⟩ | ⟨_,hD⟩
    ·cases hy
    ·exact hD
  | none=>
   cases hn:dd.nm with
   | none=>
    cases dd with
    | tell x=>
     have ok:=hok.2.1 x rfl;unfold Rw.pv Dd.pv;refine z9 ?_
     try simp? only[n_tw]
     refine z9 ?_
     try simp? only[beq_self_eq_true]
     refine⟨_,_,x,vP sh hs,yJ sh hs,j,rfl,H.dp,H.dh,hj,ok.1,ok.2,hv,λl st' Q' ⟨v,e1,e2⟩ q'=>⟨sh,_,hs,l,v,rfl,H.bags,e1,?_⟩,?_⟩
     ·have:yJ sh hs l=v:=by unfold yJ;rw[e1];rfl
      rw[this]at q';exact q'
     try simp? only[true_and]
     exact q hs (some _) none (.inr ⟨λy hy=>(by cases hy),.inl ⟨x,rfl,rfl,rfl,rfl⟩⟩)
    | _=>cases hn
   | some s=>
    obtain⟨i,hi,hil,hkd⟩:=hok.2.2 s hn;obtain⟨k,more,ep,kw,kt⟩:=dd.form hn;obtain⟨i',hi'⟩: ∃i':Nat,(i':Int)=(i:Int)+1:=⟨i+1,by omega⟩;have em:Rw.pv (none,dd)= .tup (.str k:: .str s::more):=ep;rw[em];refine z9 ?_
    try simp? only[kw]
    refine z9 ?_
    try simp? only[kt]
    refine z9 ?_
    try simp? only[true_and]
    refine⟨sh,zB,s,i,rfl,hi,?_⟩
    try simp? only[true_and]
    refine z9 ?_
    try simp? only[true_and]
    refine⟨sh,zB,hs,dd,i,j,by rw[ep],hj,H,λs' h'=>by rw[hn]at h';cases h';exact hi,hok.2.1,hkd,λh' hM=> ?_⟩
    try simp? only[pR,<- hi',iM,dE,<- List.map_take,<- List.map_drop,List.length_map,List.length_take,List.length_drop,List.length_append,List.length_singleton]
    have:i'=i+1:=by omega
    subst this;refine⟨thou (by omega),thou (by omega),?_⟩;rw[zpN hil];exact q (hs.set i h') none (some s) (.inr ⟨λy hy=>(by cases hy),.inr ⟨i,h',s,hn,hi,hM,rfl,rfl,rfl⟩⟩)
theorem zmY {f:Addr}{fd:FuncData}(M:Mo K mg)(F:zZ K "_law_box" "_law_box" oF f fd):zJ P w K mg base zI 1 f fd ["_law_script","_law_k"] (zN K zhf):=by
 refine xI 1 F j9 (λxs st Q h=>by obtain⟨ns,k,rfl,_⟩:=h;rfl) ⟨_,λcdv A outer s H E hr=>(zE (zY (i:=2) j9.nd rfl (Or.inl rfl) (y6 xH (y6 tN z7 (qv 1)) z7))
   (zE (yI (yB mK (qv 1) (xL wG (by rfl) M.len PySem.boot_len (z4 (qv 0) z6)) (zS _)) (zP (zY (i:=2) j9.nd rfl (Or.inl rfl) (zD (zC hr) (qv 0) (qv 1) (λ_ _=>rfl)))) (zP (yI (yB qB (xL wG (by rfl) M.len PySem.boot_len (z4 (qv 0) z6)) z7 (zS _)) (zP (zY (i:=2) j9.nd rfl (Or.inl rfl) (y6 xH (qv 2) (y6 tN (y6 wV (zD (zC hr) (qv 0) (y6 wV (qv 1) (xL wG (by rfl) M.len PySem.boot_len (z4 (qv 0) z6))) (λ_ _=>rfl)) z7) z7)))) yL)))
   (zE (zY (i:=3) j9.nd rfl (Or.inl rfl) (y6 xH (y6 wV (y6 xH (y6 tN (y6 wV (qv 2) z7) z7) (y6 tN z7 (qv 1))) z7) z7))
   (zP (y7 (o7 (z4 (y6 tN (qv 2) (xT sT (by rfl) M.int sJ (z4 (uC zfM (qv 2) (y6 zmR z7 z7) (zS _)) z6))) (z4 (qv 3) z6)))))))),λxs st Q h=> ?_⟩
 obtain⟨ns,k,rfl,hl,hk,q⟩:=h
 simp_all? only[List.length_map]
 have bit: ∀c:Int,-18446744073709551616 < (if decide (1000000000000000000<=c)=true then(1:Int)else 0)/\(if decide (1000000000000000000<=c)=true then(1:Int)else 0) < 18446744073709551616:=λc=>by split <;> exact⟨by decide,by decide⟩
 have fin: ∀c:Int,yT (c * (if decide (1000000000000000000<=c)=true then(1:Int)else 0)) ((c % 2147483629 * 48271+40692 * k) % 2147483629+1):=λc=>by
  refine⟨?_,by omega,by omega⟩
  split
  ·rename_i h
   have:=of_decide_eq_true h;omega
  ·omega
 refine wO (λh=> ?_) (λh=>wO (λh2=> ?_) (λh2=> ?_))
 ·obtain⟨z,_,ez⟩:=pH PV.int (ns:=ns) hk (of_decide_eq_true h)
  simp_all? only[ez]
  exact⟨dC,.inr (bit z),q _ _ (fin z)⟩
 ·have hp:(0:Int) < ns.length:=of_decide_eq_true h2
  obtain⟨z,_,ez⟩:=pH PV.int (ns:=ns) (k:=k % ns.length) (Int.emod_nonneg _ (by omega)) (Int.emod_lt_of_pos _ hp)
  simp_all? only[ez]
  exact⟨hp,dC,.inr (bit _),q _ _ (fin _)⟩
 ·exact⟨dC,.inr (bit _),q _ _ (fin _)⟩
theorem t5 {f:Addr}{fd:FuncData}(M:Mo K mg)(F:zZ K "_law_take" "_law_take" oO f fd):zJ P w K mg base zI 1 f fd ["_law_box_here","_law_many"] (zN K uF):=by
 refine xI 0 F zbW (λxs st Q h=>by obtain⟨i,many,a,b,rfl,_⟩:=h;rfl) ⟨_,λcdv A outer s H E hr=>(zE (yI (yB qB (zD (zC hr) (qv 0) z7 (λ_ _=>rfl)) z7 (zS _)) (zE (zY (i:=2) zbW.nd rfl (Or.inl rfl) (y6 wV (zD (zC hr) (qv 0) z7 (λ_ _=>rfl)) (qv 1)))
   (zE (qK (y6 g8 (zD (zC hr) (qv 0) z7 (λ_ _=>rfl)) (qv 1)) (mM hr (qv 0) z7))
   (zP (y7 (qv 2))))) yL)
   (zE (zY (i:=3) zbW.nd rfl (Or.inl rfl) (y6 wV (y6 tN (zD (zC hr) (qv 0) z7 (λ_ _=>rfl)) z7) z7))
   (zE (qK (y6 xH (y6 wV (y6 xH (y6 tN (qv 3) z7) z7) z7) z7) (mM hr (qv 0) z7))
   (zP (y7 (y6 wV (y6 g8 (y6 xH (y6 tN (qv 3) z7) (zD (zC hr) (qv 0) z7 (λ_ _=>rfl))) z7) (qv 1))))))),λxs st Q h=> ?_⟩
 obtain⟨i,many,a,b,rfl,hi,⟨ha,hb,hb2⟩,hm,hm2,q⟩:=h
 simp_all? only[hi]
 refine wO (λh=> ?_) (λh=> ?_)
 ·exact⟨hm,⟨hm,hm2⟩,q _ _ _ (Int.emod_nonneg _ (by omega)) (Int.emod_lt_of_pos _ hm) ⟨Int.ediv_nonneg ha (by omega),hb,hb2⟩⟩
 ·exact⟨hm,q _ _ _ (Int.emod_nonneg _ (by omega)) (Int.emod_lt_of_pos _ hm) ⟨ha,by omega,by omega⟩⟩
theorem nd4:(["_law_box_here","_law_many","_law_letters","?3","_law_common","_law_at","_law_first","_law_longer","_law_found","_law_word","_law_own","_law_k"]:List Str).Nodup:=by decide+kernel
theorem znh {f:Addr}{fd:FuncData}(M:Mo K mg)(F:zZ K "_law_words" "_law_words" qU f fd):zJ P w K mg base zI 2 f fd ["_law_box_here","_law_many"] (zN K zh1):=by
 obtain⟨w5,w6,yA,yF,yG⟩:=M._law_take;have yE:zJ P w K mg base zI 1 w5 w6 ["_law_box_here","_law_many"] (zN K uF):=t5 M yA;refine xI 0 F uE (λxs st Q h=>by obtain⟨i,many,a,b,rfl,_⟩:=h;rfl) ⟨_,λcdv A outer s H E hr=>have hr1:zX 1 _:=hr.mono (by decide);(zE (zY (i:=2) uE.nd rfl (Or.inr rfl) zM)
   (zE (zY (i:=4) uE.nd rfl (Or.inl rfl) (wY PySem.F.plainAttrs_str PySem.F.slot_str_join PySem.F.type_str_join (by decide) zmN zM (z4 (uD (own:= ["_law_k"]) (vM (fsc:=zK qU) (N:= ["_law_box_here","_law_many","_law_letters","_law_k","_law_common","_law_at","_law_first","_law_longer","_law_found","_law_word","_law_own"]) (N':= ["_law_box_here","_law_many","_law_letters","?3","_law_common","_law_at","_law_first","_law_longer","_law_found","_law_word","_law_own"]) rfl rfl (by decide+kernel)) rfl (gJ (by rfl) M.range (z4 (zL yE hr1 (by rfl) yG yA.kp yF (z4 (qv 0) (z4 z7 z6))) z6)) (λC s H fp pins=>(yZ (i:=11) nd4 rfl (Or.inl rfl))) (λC s H fp pins=>sW) (λC s H fp pins=>(zD (zC hr) (qv 2) (zL yE hr1 (by rfl) yG yA.kp yF (z4 (qv 0) (z4 z7 z6))) (λ_ _=>rfl)))) z6)))
   (zE (zY (i:=5) uE.nd rfl (Or.inl rfl) (zL yE hr1 (by rfl) yG yA.kp yF (z4 (qv 0) (z4 (y6 xH (xL wG (by rfl) M.len PySem.boot_len (z4 (qv 4) z6)) z7) z6))))
   (zE (zY (i:=6) uE.nd rfl (Or.inl rfl) (zL yE hr1 (by rfl) yG yA.kp yF (z4 (qv 0) (z4 z7 z6))))
   (zE (zY (i:=7) uE.nd rfl (Or.inl rfl) (zL yE hr1 (by rfl) yG yA.kp yF (z4 (qv 0) (z4 z7 z6))))
   (zE (zY (i:=8) uE.nd rfl (Or.inl rfl) (o7 z6))
   (zE (o8 PassesOwn.never rfl (gJ (by rfl) M.range (z4 (qv 1) z6)) (yZ (i:=3) uE.nd rfl (Or.inl rfl)) (zE (zY (i:=9) uE.nd rfl (Or.inl rfl) (y6 xH (y6 xH (qJ (qv 4) rJ (rK (qv 5))) (zD (zC hr) (qv 2) (y6 wV (y6 xH (qv 6) (y6 tN z7 (qv 3))) z7) (λ_ _=>rfl))) (qJ (qv 4) (rK (qv 5)) rJ)))
   (zP (rL (wY PySem.F.plainAttrs_list PySem.F.slot_list_append PySem.F.type_list_append (by decide) o0 (qv 8) (z4 (y6 xH (qv 9) (y6 tN zM (xT sT (by rfl) M.int sJ (z4 (zg5 (uC (yK hr) (qv 7) z7 (zS _)) (zb8 (uC (yK hr) (y6 wV (qv 3) z7) z7 (zS _)))) z6)))) z6))))))
   (zE (zY (i:=10) uE.nd rfl (Or.inl rfl) (vR (z4 zM (z4 zM (z4 zM (z4 zM (z4 zM (z4 zM (z4 zM (z4 zM (z4 zM (z4 zM (z4 zM (z4 zM z6))))))))))))))
   (zE (zY (i:=10) uE.nd rfl (Or.inl rfl) (y6 xH (qv 10) (vR (z4 zM (z4 zM (z4 zM (z4 zM (z4 zM (z4 zM (z4 zM (z4 zM (z4 zM (z4 zM (z4 zM z6))))))))))))))
   (zE (zY (i:=10) uE.nd rfl (Or.inl rfl) (y6 xH (qv 10) (vR (z4 zM (z4 zM (z4 zM (z4 zM z6)))))))
   (zE (zY (i:=9) uE.nd rfl (Or.inl rfl) (zD (zC hr) (qv 10) (zL yE hr1 (by rfl) yG yA.kp yF (z4 (qv 0) (z4 z7 z6))) (λ_ _=>rfl)))
   (zE (yI (PW.pt (mN (yB (yK hr) (zL yE hr1 (by rfl) yG yA.kp yF (z4 (qv 0) (z4 z7 z6))) z7 (zS _)) (mO (yB (zmP hr) (qv 9) (qv 8) (by rfl))))) (zP (qK (qv 9) (mM hr (qv 8) (zL yE hr1 (by rfl) yG yA.kp yF (z4 (qv 0) (z4 (qv 1) z6)))))) yL)
   (zP (y7 (qv 8))))))))))))))),λxs st Q h=> ?_⟩
 obtain⟨i,many,a,b,rfl,hi,hb,h0,h10,q⟩:=h;have hil:=(List.getElem?_eq_some_iff.mp hi).1;have hset: ∀{a b:Int},(st.set i (zF a b))[i]?=some (zF a b):=λ{a b} =>uV hi;have hset2: ∀{a b:Int} {o:PO},(st.set i (zF a b)++ [o])[i]?=some (zF a b):=λ{a b o} =>iZ hset;have hput: ∀{a b c d:Int} {o:PO},(st.set i (zF a b)++ [o]).set i (zF c d)=st.set i (zF c d)++ [o]:=λ{a b c d o} =>by rw[fA (by rw[List.length_set];exact hil),wH]
 have hsl: ∀{o:PO},(st.set i o).length=st.length:=List.length_set;have hat: ∀{a b:Int} {o:PO},(st.set i (zF a b)++ [o])[st.length]?=some o:=λ{a b o} =>by rw[<- hsl (o:=zF a b)];exact sR
 have hst2: ∀{a b:Int} {o o':PO},(st.set i (zF a b)++ [o]).set st.length o'=st.set i (zF a b)++ [o']:=λ{a b o o'} =>by rw[<- hsl (o:=zF a b)];exact jE
 have small_l:(("abcdefghijklmnopqrstuvwxyz" :Str)).length<=sizeLine:=Nat.le_trans (m:=1000) (by decide+kernel) (by decide);have thou: ∀{n:Nat},n<=1000->n<=sizeLine:=λh=>Nat.le_trans h (by decide);refine z9 ?_
 try simp? only[true_and]
 refine z9 ?_
 try simp? only[true_and]
 refine⟨i,7,a,b,rfl,hi,hb,by decide,by decide,λd a b d0 d1 hb=> ?_⟩
 try simp? only[true_and]
 refine⟨⟨by omega,by omega⟩,λk ys env s=> ∃(xs:List Str) (v:Option PV) (a b:Int),ys=xs.map PV.str/\xs.length=k/\(∀x∈xs,x.length<=1)/\env= [some (PV.obj i),some (PV.int many),some (PV.str "abcdefghijklmnopqrstuvwxyz"),none,none,none,none,none,none,none,none,v]/\yT a b/\s=st.set i (zF a b),
  ⟨[],none,a,b,rfl,rfl,by simp,rfl,hb,rfl⟩,?_,?_⟩
 ·rintro k x ys env s hx ⟨xs,v,a,b,rfl,hk,hx1,rfl,hb,rfl⟩
  obtain⟨_,rfl⟩:=mS hx
  try simp? only[true_and]
  refine⟨i,26,a,b,rfl,hset,hb,by decide,by decide,λe a b e0 e1 hb=> ?_⟩;have hc:=zfz e0 e1
  try simp? only[hc]
  refine⟨small_l,xs++ [⟨#[97+e.toNat]⟩],_,a,b,by simp,by simp[hk],λz hz=> ?_,rfl,hb,rfl⟩;rcases List.mem_append.mp hz with hz | hz
  ·exact hx1 z hz
  ·rw[List.mem_singleton.mp hz];exact Nat.le_refl _
 rintro ys env s ⟨xs,v,a,b,rfl,hk,hx1,rfl,hb,rfl⟩;rw[qM]at hk;have hsum:(xs.map (·.length)).sum<=1 * xs.length:=zqE xs 1 hx1;have hz:(xs.map (·.length)).sum+xs.length * (Str.ofString "").length<=6:=by
  rw[show(Str.ofString "").length=0 by decide+kernel];omega
 try simp? only[zbE]
 refine⟨xs,rfl,Nat.le_trans hz (by decide),?_⟩;have hcl:(Txt.join (Str.ofString "") xs).length<=6:=Nat.le_trans (zl7 _ _) hz;generalize Txt.join (Str.ofString "") xs=common at hcl⊢
 try simp? only[true_and]
 refine z9 ?_
 try simp? only[true_and]
 refine⟨thou (by omega),i,_,a,b,rfl,hset,hb,by omega,by omega,λat' a b a0 a1 hb=> ?_⟩
 try simp? only[true_and]
 refine z9 ?_
 try simp? only[true_and]
 refine⟨i,26,a,b,rfl,hset,hb,by decide,by decide,λfirst a b f0 f1 hb=> ?_⟩
 try simp? only[true_and]
 refine z9 ?_
 try simp? only[true_and]
 refine⟨i,3,a,b,rfl,hset,hb,by decide,by decide,λlg a b g0 g1 hb=> ?_⟩
 try simp? only[true_and]
 refine z9 ?_
 try simp? only[true_and]
 refine z9 ?_
 try simp? only[hsl]
 obtain⟨A,eA⟩: ∃A:Str,A=Txt.slice common none (some at'):=⟨_,rfl⟩;obtain⟨B,eB⟩: ∃B:Str,B=Txt.slice common (some at') none:=⟨_,rfl⟩;refine⟨⟨by omega,by omega⟩,?_⟩;refine pO (λk env s=> ∃(ws:List Str) (v3 v9:Option PV),env= [some (PV.obj i),some (PV.int many),some (PV.str "abcdefghijklmnopqrstuvwxyz"),v3,some (.str common),some (.int at'),some (.int first),some (.int lg),some (.obj st.length),v9,none]/\ws.length=k/\pG A B first ws/\s=st.set i (zF a b)++ [.lst (ws.map PV.str)])
  ⟨[],none,none,rfl,rfl,λm w hw=>by simp at hw,rfl⟩ ?_ ?_
 ·rintro k x env s hx ⟨ws,v3,v9,rfl,hwl,hw,rfl⟩
  obtain⟨hk2,rfl⟩:=mS hx;have hc:=zfz (d:=(first+5 * (0+k)) % 26) (Int.emod_nonneg _ (by decide)) (Int.emod_lt_of_pos _ (by decide))
  try simp? only[true_and]
  refine z9 ?_
  try simp? only[hc]
  refine⟨thou (by omega),λl1=>⟨small_l,?_⟩⟩;rw[<- eA]at l1⊢
  have lc:(⟨#[97+((first+5 * (0+(k:Int))) % 26).toNat]⟩:Str).length=1:=rfl;refine⟨thou (by omega),thou (by omega),λl2=> ?_⟩;rw[<- eB]at l2⊢
  refine⟨thou (by rw[Str.length_append];omega),?_⟩
  try simp? only[true_and]
  have done: ∀z:Str,z.length<=1->(A++⟨#[97+((first+5 * (0+(k:Int))) % 26).toNat]⟩++B).length+z.length<=sizeLine/\ws.length < sizeLine/\∃(ws':List Str) (v3 v9:Option PV),[some (PV.obj i),some (PV.int many),some (PV.str "abcdefghijklmnopqrstuvwxyz"),some (PV.int (0+k)),some (.str common),some (.int at'),some (.int first),some (.int lg),some (.obj st.length),some (PV.str (A++⟨#[97+((first+5 * (0+(k:Int))) % 26).toNat]⟩++B)),none]= [some (PV.obj i),some (PV.int many),some (PV.str "abcdefghijklmnopqrstuvwxyz"),v3,some (.str common),some (.int at'),some (.int first),some (.int lg),some (.obj st.length),v9,none]/\ws'.length=k+1/\pG A B first ws'/\st.set i (zF a b)++ [PO.lst (ws.map PV.str++ [.str (A++⟨#[97+((first+5 * (0+(k:Int))) % 26).toNat]⟩++B++z)])]=st.set i (zF a b)++ [.lst (ws'.map PV.str)]:=λz hz=>by
   refine⟨thou (by rw[Str.length_append,Str.length_append];omega),Nat.lt_of_lt_of_le (m:=1000) (by omega) (by decide),ws++ [A++⟨#[97+((first+5 * (0+(k:Int))) % 26).toNat]⟩++B++z],_,_,rfl,by simp[hwl],hw.snoc hwl,by simp⟩
  by_cases gg:lg=1
  ·subst gg
   by_cases o1:(0+(k:Int)) % 2=1
   ·have b1:((0+(k:Int)) % 2==1)=true:=by simpa using o1
    try simp? only[beq_self_eq_true,b1,hat,hst2,List.length_map]
    exact done _ (by decide+kernel)
   ·have b1:((0+(k:Int)) % 2==1)=false:=by simpa using o1
    try simp? only[beq_self_eq_true,b1,hat,hst2,List.length_map]
    exact done _ (by decide+kernel)
  ·have gf:(lg==1)=false:=by simpa using gg
   try simp? only[gf,hat,hst2,List.length_map]
   exact done _ (by decide+kernel)
 ·rintro env s ⟨ws,v3,v9,rfl,hwl,hw,rfl⟩
  rw[qM]at hwl;have hnd:=hw.nodup (by omega)
  try simp? only[true_and]
  refine z9 ?_
  try simp? only[true_and]
  refine z9 ?_
  try simp? only[true_and]
  refine⟨thou (by decide),z9 ?_⟩
  try simp? only[true_and]
  refine⟨thou (by decide),z9 ?_⟩
  try simp? only[true_and]
  refine⟨i,27,a,b,rfl,hset2,hb,by decide,by decide,λe a b e0 e1 hb=> ?_⟩;obtain⟨wd,et⟩:=znN e0 e1
  try simp? only[hput,et]
  refine oX (λenv s=> ∃(us:List Str) (v3 v9 v10:Option PV) (a b:Int),env= [some (PV.obj i),some (PV.int many),some (PV.str "abcdefghijklmnopqrstuvwxyz"),v3,some (.str common),some (.int at'),some (.int first),some (.int lg),some (.obj st.length),v9,v10]/\us.Nodup/\us.length=ws.length/\yT a b/\s=st.set i (zF a b)++ [.lst (us.map PV.str)]) (λN hN=> ?_) ?_
  ·try simp? only[true_and]
   refine⟨i,4,a,b,rfl,hset2,hb,by decide,by decide,λf a b f0 f1 hb=> ?_⟩
   try simp? only[hput]
   by_cases hf:f=0
   ·subst hf
    have nin: ∀{Q:K3},j4 true (.str wd) (.obj st.length) (st.set i (zF a b)++ [.lst (ws.map PV.str)]) Q=Q (.bl (!decide (wd∈ws))) (st.set i (zF a b)++ [.lst (ws.map PV.str)]):=zmJ hat
    try simp? only[beq_self_eq_true,nin]
    by_cases hin:wd∈ws
    ·have hd:decide (wd∈ws)=true:=decide_eq_true hin
     try simp? only[hd]
     exact hN _ _ ⟨ws,_,_,_,a,b,rfl,hnd,rfl,hb,rfl⟩
    ·have hd:decide (wd∈ws)=false:=decide_eq_false hin
     try simp? only[hd]
     refine⟨i,many,a,b,rfl,hset2,hb,by omega,by omega,λg a b g0 g1 hb=> ?_⟩;obtain⟨n,rfl⟩: ∃n:Nat,g=n:=⟨g.toNat,by omega⟩;have hix:wD ws.length (n:Int)=some n:=zfm (by omega)
     try simp? only[hput,hat,hst2,List.length_map,hix]
     exact hN _ _ ⟨ws.set n wd,_,_,_,a,b,rfl,zmI hnd hin n,List.length_set,hb,by rw[List.map_set]⟩
   ·have nf:(f==0)=false:=by simpa using hf
    try simp? only[nf]
    exact hN _ _ ⟨ws,_,_,_,a,b,rfl,hnd,rfl,hb,rfl⟩
  ·rintro env s ⟨us,v3,v9,v10,a,b,rfl,hun,hul,hb,rfl⟩
   try simp? only[true_and]
   rw[show xO st.length Q=xO ((st.set i (zF a b)).length+0) Q by rw[hsl];rfl,<- hsl (o:=zF a b),iW];exact q us a b (by omega) hun hb
theorem zfT {f:Addr}{fd:FuncData}(M:Mo K mg)(F:zZ K "_law_number" "_law_number" oM f fd):zJ P w K mg base zI 2 f fd ["_law_box_here"] (zN K zcg):=by
 obtain⟨w5,w6,yA,yF,yG⟩:=M._law_take;have yE:zJ P w K mg base zI 1 w5 w6 ["_law_box_here","_law_many"] (zN K uF):=t5 M yA;refine xI 0 F zgV (λxs st Q h=>by obtain⟨i,a,b,rfl,_⟩:=h;rfl) ⟨_,λcdv A outer s H E hr=>have hr1:zX 1 _:=hr.mono (by decide);(zE (zY (i:=1) zgV.nd rfl (Or.inl rfl) (zL yE hr1 (by rfl) yG yA.kp yF (z4 (qv 0) (z4 z7 z6))))
   (zE (yI (yB mK (qv 1) z7 (zS _)) (zP (y7 (zL yE hr1 (by rfl) yG yA.kp yF (z4 (qv 0) (z4 z7 z6))))) yL)
   (zE (yI (yB (yK hr) (qv 1) z7 (zS _)) (zP (y7 (y6 tO z7 (zL yE hr1 (by rfl) yG yA.kp yF (z4 (qv 0) (z4 z7 z6)))))) yL)
   (zP (y7 (zL yE hr1 (by rfl) yG yA.kp yF (z4 (qv 0) (z4 z7 z6)))))))),λxs st Q h=> ?_⟩
 obtain⟨i,a,b,rfl,hi,hb,q⟩:=h;have hset: ∀{a b:Int},(st.set i (zF a b))[i]?=some (zF a b):=λ{a b} =>uV hi;refine z9 ?_
 try simp? only[true_and]
 refine⟨i,4,a,b,rfl,hi,hb,by decide,by decide,λd a b d0 d1 hb=> ?_⟩;refine z9 ?_
 try simp? only[true_and]
 by_cases h0:d < 2
 ·rw[if_pos (decide_eq_true h0)]
  exact⟨i,_,a,b,rfl,hset,hb,by decide,by decide,λe a b e0 e1 hb=>by try simp? only[true_and];exact q e a b e0 (by omega) hb⟩
 rw[if_neg (by simpa using h0)];refine z9 ?_
 try simp? only[true_and]
 by_cases h1:d=2
 ·subst h1
  try simp? only[beq_self_eq_true]
  refine⟨i,_,a,b,rfl,hset,hb,by decide,by decide,λe a b e0 e1 hb=> ?_⟩
  try simp? only[true_and]
  exact q _ a b (by omega) (by omega) hb
 have n1:(d==2)=false:=by simpa using h1
 try simp? only[n1]
 exact⟨i,_,a,b,rfl,hset,hb,by decide,by decide,λe a b e0 e1 hb=>by try simp? only[true_and];exact q e a b e0 e1 hb⟩
theorem zbr {L:Type}{lp:L->PV}{f:Addr}{fd:FuncData}(M:Mo K mg)(F:zZ K "_law_term" "_law_term" oP f fd)(vW:yH K fd ["_law_box_here","_law_leaves_here","_law_room","_law_deep"] [])(u9:mg "_law_term" =some (.ref f)): ∀d,zJ P w K mg base zI (d+2) f fd ["_law_box_here","_law_leaves_here","_law_room","_law_deep"] (zN K ((jG lp) d))
 | 0=>⟨λvs H Q E h=>(zhx h).elim,λA outer s H args us vs Q E _ _ _ _ h=>(zhx h).elim⟩
 | d+1=>by
  have IH:zJ P w K mg base zI (d+2) f fd ["_law_box_here","_law_leaves_here","_law_room","_law_deep"] (zN K ((jG lp) d)):=zbr M F vW u9 d;obtain⟨w5,w6,yA,yF,yG⟩:=M._law_take;have yE:zJ P w K mg base zI 1 w5 w6 ["_law_box_here","_law_many"] (zN K uF):=t5 M yA;obtain⟨zaK,zaP,lI,eV,zbj⟩:=M._law_number;have fZ:zJ P w K mg base zI 2 zaK zaP ["_law_box_here"] (zN K zcg):=zfT M lI;have uH:=F;refine xI 0 F oV (λxs st Q h=>by obtain⟨i,ls,room,deep,a,b,rfl,_⟩:=h;rfl) ⟨_,λcdv A outer s H E hr=>have hr1:zX 1 _:=hr.mono (by omega);have hr2:zX 2 _:=hr.mono (by omega);(zE (zY (i:=4) oV.nd rfl (Or.inl rfl) (zL yE hr1 (by rfl) yG yA.kp yF (z4 (qv 0) (z4 z7 z6))))
   (zE (yI (PW.pt (gK (yB mK (qv 2) z7 (zS _)) (gK (yB (yK hr) (qv 3) z7 (zS _)) (zbA (yB mK (qv 4) z7 (zS _)))))) (zE (yI (PW.pt (mN (yB qB (xL wG (by rfl) M.len PySem.boot_len (z4 (qv 1) z6)) z7 (zS _)) (mO (yB qB (zL yE hr1 (by rfl) yG yA.kp yF (z4 (qv 0) (z4 z7 z6))) z7 (zS _))))) (zP (y7 (zD (zC hr) (qv 1) (zL yE hr1 (by rfl) yG yA.kp yF (z4 (qv 0) (z4 (xL wG (by rfl) M.len PySem.boot_len (z4 (qv 1) z6)) z6))) (λ_ _=>rfl)))) yL)
   (zP (y7 (yO (z4 zM (z4 (zL fZ hr2 (by rfl) zbj lI.kp eV (z4 (qv 0) z6)) z6)))))) yL)
   (zE (yI (PW.pt (mN (yB (yK hr) (qv 4) z7 (zS _)) (mO (yB qB (qv 2) z7 (zS _))))) (zE (zY (i:=5) oV.nd rfl (Or.inl rfl) (y6 g8 (y6 tO (qv 2) z7) z7))
   (zE (zY (i:=6) oV.nd rfl (Or.inl rfl) (zL IH hr (by rfl) u9 uH.kp vW (z4 (qv 0) (z4 (qv 1) (z4 (qv 5) (z4 (y6 tO (qv 3) z7) z6))))))
   (zE (zY (i:=7) oV.nd rfl (Or.inl rfl) (zL IH hr (by rfl) u9 uH.kp vW (z4 (qv 0) (z4 (qv 1) (z4 (qv 5) (z4 (y6 tO (qv 3) z7) z6))))))
   (zP (y7 (yO (z4 zM (z4 (qv 6) (z4 (qv 7) (z4 (zL IH hr (by rfl) u9 uH.kp vW (z4 (qv 0) (z4 (qv 1) (z4 (qv 5) (z4 (y6 tO (qv 3) z7) z6))))) z6)))))))))) yL)
   (zE (zY (i:=8) oV.nd rfl (Or.inl rfl) (y6 g8 (y6 tO (qv 2) z7) z7))
   (zE (zY (i:=6) oV.nd rfl (Or.inl rfl) (zL IH hr (by rfl) u9 uH.kp vW (z4 (qv 0) (z4 (qv 1) (z4 (qv 8) (z4 (y6 tO (qv 3) z7) z6))))))
   (zP (y7 (yO (z4 zM (z4 (zD (zC hr) zM (zL yE hr1 (by rfl) yG yA.kp yF (z4 (qv 0) (z4 z7 z6))) (λ_ _=>rfl)) (z4 (qv 6) (z4 (zL IH hr (by rfl) u9 uH.kp vW (z4 (qv 0) (z4 (qv 1) (z4 (qv 8) (z4 (y6 tO (qv 3) z7) z6))))) z6)))))))))))),λxs st Q h=> ?_⟩
  obtain⟨i,ls,room,deep,a,b,rfl,hi,hb,hlp,hll,d0,dd,q⟩:=h;have hset: ∀{a b:Int},(st.set i (zF a b))[i]?=some (zF a b):=λ{a b} =>uV hi;refine z9 ?_
  try simp? only[true_and]
  refine⟨i,5,a,b,rfl,hi,hb,by decide,by decide,λf a b f0 f1 hb=> ?_⟩;refine z9 ?_;refine zfd (b:=decide (room < 3∨deep=0∨f < 2)) (λQ=> ?_) ?_
  ·try simp? only[true_and]
   by_cases h1:room < 3
   ·simp[h1]
   ·by_cases h2:deep=0
    ·simp[h1,h2]
    ·simp[h1,h2]
  by_cases hz:room < 3∨deep=0∨f < 2
  ·rw[if_pos (decide_eq_true hz)]
   refine z9 ?_
   try simp? only[List.length_map]
   by_cases hl:0 < ls.length
   ·have hl':decide ((0:Int) < (ls.length:Int))=true:=decide_eq_true (by omega)
    try simp? only[hl']
    refine⟨i,3,a,b,rfl,hset,hb,by decide,by decide,λe a b e0 e1 hb=> ?_⟩
    try simp? only[true_and]
    by_cases he:0 < e
    ·rw[if_pos (decide_eq_true he)]
     try simp? only[List.length_map]
     refine⟨i,_,a,b,rfl,hset,hb,by omega,by omega,λg a b g0 g1 hb=> ?_⟩;obtain⟨n,rfl⟩: ∃n:Nat,g=n:=⟨g.toNat,by omega⟩;have hn:n < ls.length:=by omega
     have ha:atI (ls.map lp) (n:Int)=some (lp ls[n]):=v6 (by rw[List.getElem?_map,List.getElem?_eq_getElem hn];rfl)
     try simp? only[ha]
     refine zdO (t:= .lf ls[n]) hlp ?_;rw[zq3];exact q (.lf ls[n]) a b (List.getElem_mem hn) d0 hb
    ·rw[if_neg (by simpa using he)]
     try simp? only[true_and]
     refine⟨i,a,b,rfl,hset,hb,λk a b k0 k1 hb=> ?_⟩
     try simp? only[true_and]
     exact q (.num k) a b ⟨k0,k1⟩ d0 hb
   ·have hl':decide ((0:Int) < (ls.length:Int))=false:=decide_eq_false (by omega)
    try simp? only[hl']
    refine⟨i,a,b,rfl,hset,hb,λk a b k0 k1 hb=> ?_⟩
    try simp? only[true_and]
    exact q (.num k) a b ⟨k0,k1⟩ d0 hb
  rw[if_neg (by simpa using hz)];have hd0: ¬ deep=0:=λz=>hz (.inr (.inl z))
  try simp? only[true_and]
  refine z9 ?_;refine zfd (b:=decide (f=4/\3 < room)) (λQ=> ?_) ?_
  ·try simp? only[true_and]
   by_cases h1:f=4
   ·subst h1;simp
   ·simp[h1]
  by_cases hc:f=4/\3 < room
  ·rw[if_pos (decide_eq_true hc)]
   refine z9 ?_
   try simp? only[true_and]
   refine z9 ?_
   try simp? only[true_and]
   refine⟨i,ls,_,deep - 1,a,b,rfl,hset,hb,hlp,hll,by omega,by omega,λt1 a b k1 r1 hb=> ?_⟩;refine z9 ?_
   try simp? only[true_and]
   refine⟨i,ls,_,deep - 1,a,b,rfl,hset,hb,hlp,hll,by omega,by omega,λt2 a b k2 r2 hb=> ?_⟩
   try simp? only[true_and]
   refine⟨i,ls,_,deep - 1,a,b,rfl,hset,hb,hlp,hll,by omega,by omega,λt3 a b k3 r3 hb=> ?_⟩
   try simp? only[zb6 hlp]
   exact q (.ite t1 t2 t3) a b ⟨k1,k2,k3⟩ (by show((max t1.rank (max t2.rank t3.rank)+1:Nat):Int)<=deep;omega) hb
  rw[if_neg (by simpa using hc)]
  try simp? only[true_and]
  refine z9 ?_
  try simp? only[true_and]
  refine z9 ?_
  try simp? only[true_and]
  refine⟨i,ls,_,deep - 1,a,b,rfl,hset,hb,hlp,hll,by omega,by omega,λt1 a b k1 r1 hb=> ?_⟩
  try simp? only[true_and]
  refine⟨i,5,a,b,rfl,hset,hb,by decide,by decide,λg a b g0 g1 hb=> ?_⟩;obtain⟨c,hc,hs⟩:=zpQ g g0 g1
  try simp? only[hc]
  refine⟨Nat.le_trans (m:=1000) (by decide+kernel) (by decide),i,ls,_,deep - 1,a,b,rfl,hset,hb,hlp,hll,by omega,by omega,λt2 a b k2 r2 hb=> ?_⟩
  try simp? only[zb6 hlp]
  exact q (.op ⟨#[c]⟩ t1 t2) a b ⟨hs,k1,k2⟩ (by show((max t1.rank t2.rank+1:Nat):Int)<=deep;omega) hb
theorem zfR {L:Type}{lp:L->PV}{f:Addr}{fd:FuncData}(M:Mo K mg)(F:zZ K "_law_any_term" "_law_any_term" oE f fd):zJ P w K mg base zI 10 f fd ["_law_box_here","_law_leaves_here"] (zN K (zcd lp)):=by
 obtain⟨w5,w6,yA,yF,yG⟩:=M._law_take;have yE:zJ P w K mg base zI 1 w5 w6 ["_law_box_here","_law_many"] (zN K uF):=t5 M yA;obtain⟨zaL,zaQ,uH,vW,u9⟩:=M._law_term;have jW:zJ P w K mg base zI 9 zaL zaQ ["_law_box_here","_law_leaves_here","_law_room","_law_deep"] (zN K (jG lp 7)):=zbr M uH vW u9 7;refine xI 0 F zgT (λxs st Q h=>by obtain⟨i,ls,a,b,rfl,_⟩:=h;rfl) ⟨_,λcdv A outer s H E hr=>have hr1:zX 1 _:=hr.mono (by decide);have hr9:zX 9 _:=hr.mono (by decide);(zE (zY (i:=2) zgT.nd rfl (Or.inl rfl) (zD (zC hr) (vR (z4 z7 (z4 z7 (z4 z7 (z4 z7 z6))))) (zL yE hr1 (by rfl) yG yA.kp yF (z4 (qv 0) (z4 z7 z6))) (λ_ _=>rfl)))
   (zP (y7 (zL jW hr9 (by rfl) u9 uH.kp vW (z4 (qv 0) (z4 (qv 1) (z4 (qv 2) (z4 (zD (zC hr) (vR (z4 z7 (z4 z7 z6))) (xT sT (by rfl) M.int sJ (z4 (uC (yK hr) (zL yE hr1 (by rfl) yG yA.kp yF (z4 (qv 0) (z4 z7 z6))) z7 (zS _)) z6)) (λ_ _=>rfl)) z6)))))))),λxs st Q h=> ?_⟩
 obtain⟨i,ls,a,b,rfl,hi,hb,hlp,hll,q⟩:=h;have hset: ∀{a b:Int},(st.set i (zF a b))[i]?=some (zF a b):=λ{a b} =>uV hi;refine z9 ?_
 try simp? only[true_and]
 refine⟨i,4,a,b,rfl,hi,hb,by decide,by decide,λf a b f0 f1 hb=> ?_⟩;obtain⟨r,er⟩: ∃r:Int,atI [PV.int 1,.int 3,.int 7,.int 30] f=some (.int r):=by
  have:f=0∨f=1∨f=2∨f=3:=by omega
  rcases this with rfl | rfl | rfl | rfl
  ·exact⟨1,rfl⟩
  ·exact⟨3,rfl⟩
  ·exact⟨7,rfl⟩
  ·exact⟨30,rfl⟩
 try simp? only[er]
 refine⟨i,4,a,b,rfl,hset,hb,by decide,by decide,λg a b g0 g1 hb=> ?_⟩;obtain⟨dp,ed,p0,p6⟩: ∃dp:Int,atI [PV.int 2,.int 6] (if(g==1)=true then(1:Int)else 0)=some (.int dp)/\0<=dp/\dp<=6:=by
  split
  ·exact⟨6,rfl,by decide,by decide⟩
  ·exact⟨2,rfl,by decide,by decide⟩
 try simp? only[ed]
 refine⟨i,ls,r,dp,a,b,rfl,hset,hb,hlp,hll,p0,by omega,λt a b tk tr hb=> ?_⟩;refine zdO hlp ?_
 try simp? only[true_and]
 exact q t a b tk (by omega) hb
theorem znf {f:Addr}{fd:FuncData}(M:Mo K mg)(F:zZ K "_law_manner" "_law_manner" oK f fd):zJ P w K mg base zI 10 f fd ["_law_box_here","_law_kinds","_law_calm"] (zN K zhq):=by
 obtain⟨w5,w6,yA,yF,yG⟩:=M._law_take;have yE:zJ P w K mg base zI 1 w5 w6 ["_law_box_here","_law_many"] (zN K uF):=t5 M yA;obtain⟨zaL,zaQ,uH,vW,u9⟩:=M._law_term;have jW:zJ P w K mg base zI 9 zaL zaQ ["_law_box_here","_law_leaves_here","_law_room","_law_deep"] (zN K (jG uJ.pv 7)):=zbr M uH vW u9 7;refine xI 0 F jB (λxs st Q h=>by obtain⟨i,a,b,rfl,_⟩:=h;rfl) ⟨_,λcdv A outer s H E hr=>have hr1:zX 1 _:=hr.mono (by decide);have hr9:zX 9 _:=hr.mono (by decide);(zE (zY (i:=3) jB.nd rfl (Or.inl rfl) (zD (zC hr) (qv 1) (zL yE hr1 (by rfl) yG yA.kp yF (z4 (qv 0) (z4 (xL wG (by rfl) M.len PySem.boot_len (z4 (qv 1) z6)) z6))) (λ_ _=>rfl)))
   (zE (yI (yB (o4 hr) (qv 3) zM (zS _)) (zP (y7 (yO (z4 (qv 3) z6)))) yL)
   (zE (zY (i:=4) jB.nd rfl (Or.inl rfl) (vR (z4 (yO (z4 zM z6)) (z4 (yO (z4 zM z6)) (z4 (yO (z4 zM z6)) z6)))))
   (zE (zY (i:=5) jB.nd rfl (Or.inl rfl) (zL jW hr9 (by rfl) u9 uH.kp vW (z4 (qv 0) (z4 (qv 4) (z4 (zD (zC hr) (vR (z4 z7 (z4 z7 (z4 z7 (z4 z7 z6))))) (zL yE hr1 (by rfl) yG yA.kp yF (z4 (qv 0) (z4 z7 z6))) (λ_ _=>rfl)) (z4 z7 z6))))))
   (zE (yI (zb_ (qv 2)) (zP (zY (i:=5) jB.nd rfl (Or.inl rfl) (yO (z4 zM (z4 (yO (z4 zM (z4 zM (z4 (zD (zC hr) (qv 4) z7 (λ_ _=>rfl)) (z4 (zD (zC hr) (qv 4) z7 (λ_ _=>rfl)) z6))))) (z4 (zD (zC hr) (qv 4) z7 (λ_ _=>rfl)) (z4 (zL jW hr9 (by rfl) u9 uH.kp vW (z4 (qv 0) (z4 (qv 4) (z4 z7 (z4 z7 z6))))) z6))))))) yL)
   (zP (y7 (yO (z4 zM (z4 (y6 xH z7 (zL yE hr1 (by rfl) yG yA.kp yF (z4 (qv 0) (z4 z7 z6)))) (z4 (qv 5) z6))))))))))),λxs st Q h=> ?_⟩
 obtain⟨i,a,b,rfl,hi,hb,q⟩:=h;have hset: ∀{a b:Int},(st.set i (zF a b))[i]?=some (zF a b):=λ{a b} =>uV hi;unfold zft;refine z9 ?_
 try simp? only[true_and]
 refine⟨i,_,a,b,rfl,hi,hb,by decide,by decide,λd a b d0 d1 hb=> ?_⟩;obtain⟨kd,hkd,ek⟩: ∃kd:Str,(kd= "last" ∨kd= "sum" ∨kd= "bag" ∨kd= "row" ∨kd= "told")/\atI [PV.str "last",.str "sum",.str "bag",.str "row",.str "told"] d=some (.str kd):=by
  have:d=0∨d=1∨d=2∨d=3∨d=4:=by omega
  rcases this with rfl | rfl | rfl | rfl | rfl
  ·exact⟨_,.inl rfl,rfl⟩
  ·exact⟨_,.inr (.inl rfl),rfl⟩
  ·exact⟨_,.inr (.inr (.inl rfl)),rfl⟩
  ·exact⟨_,.inr (.inr (.inr (.inl rfl))),rfl⟩
  ·exact⟨_,.inr (.inr (.inr (.inr rfl))),rfl⟩
 try simp? only[ek]
 refine z9 ?_
 try simp? only[true_and]
 by_cases ht:kd= "told"
 ·subst ht
  try simp? only[beq_self_eq_true]
  refine z9 ?_
  try simp? only[true_and]
  refine z9 ?_
  try simp? only[true_and]
  refine⟨i,4,a,b,rfl,hset,hb,by decide,by decide,λe a b e0 e1 hb=> ?_⟩;obtain⟨rm,er⟩: ∃rm:Int,atI [PV.int 1,.int 3,.int 7,.int 15] e=some (.int rm):=by
   have:e=0∨e=1∨e=2∨e=3:=by omega
   rcases this with rfl | rfl | rfl | rfl
   ·exact⟨1,rfl⟩
   ·exact⟨3,rfl⟩
   ·exact⟨7,rfl⟩
   ·exact⟨15,rfl⟩
  try simp? only[er]
  refine⟨i,[.was,.mine,.yours],rm,6,a,b,rfl,hset,hb,zfv,by decide,by decide,by decide,λt a b tk tr hb=> ?_⟩
  try simp? only[true_and]
  refine z9 ?_
  try simp? only[true_and]
  refine⟨i,4,a,b,rfl,hset,hb,by decide,by decide,λn a b n0 n1 hb=> ?_⟩
  try simp? only[zb6 zfv]
  exact q "told" [.int (2+n),t.pv uJ.pv] a b (.inr ⟨rfl,2+n,t,rfl,by omega,by omega,by omega⟩) hb
 ·have nt:(kd==("told" :Str))=false:=by simpa using ht
  try simp? only[nt]
  exact q kd [] a b (.inl ⟨by rcases hkd with h | h | h | h | h <;> simp_all,rfl⟩) hb
theorem nd5:(["_law_box_here","_law_manner_here","_law_things","_law_found","_law_word","_law_many","_law_k"]:List Str).Nodup:=by decide+kernel
theorem zfS {f:Addr}{fd:FuncData}(M:Mo K mg)(F:zZ K "_law_begin" "_law_begin" qP f fd):zJ P w K mg base zI 3 f fd ["_law_box_here","_law_manner_here","_law_things"] (zN K zcf):=by
 obtain⟨w5,w6,yA,yF,yG⟩:=M._law_take;have yE:zJ P w K mg base zI 1 w5 w6 ["_law_box_here","_law_many"] (zN K uF):=t5 M yA;obtain⟨zaK,zaP,lI,eV,zbj⟩:=M._law_number;have fZ:zJ P w K mg base zI 2 zaK zaP ["_law_box_here"] (zN K zcg):=zfT M lI;refine xI 0 F j8 (λxs st Q h=>by obtain⟨i,kd,r,ws,a,b,rfl,_⟩:=h;rfl) ⟨_,λcdv A outer s H E hr=>have hr1:zX 1 _:=hr.mono (by decide);have hr2:zX 2 _:=hr.mono (by decide);(zE (yI (yB (yK hr) (zD (zC hr) (qv 1) z7 (λ_ _=>rfl)) zM (zS _)) (zP (y7 (zL yE hr1 (by rfl) yG yA.kp yF (z4 (qv 0) (z4 (zD (zC hr) (qv 1) z7 (λ_ _=>rfl)) z6))))) yL)
   (zE (yI (yB (yK hr) (zD (zC hr) (qv 1) z7 (λ_ _=>rfl)) zM (zS _)) (zE (zY (i:=3) j8.nd rfl (Or.inl rfl) (o7 z6))
   (zE (o8 PassesOwn.never rfl (vI (xL zmU (by rfl) M.sorted boot_sorted (z4 (qv 2) z6))) (yZ (i:=4) j8.nd rfl (Or.inl rfl)) (zE (zY (i:=5) j8.nd rfl (Or.inl rfl) (y6 tO (zL yE hr1 (by rfl) yG yA.kp yF (z4 (qv 0) (z4 z7 z6))) z7))
   (zP (yI (yB (yK hr) (zL yE hr1 (by rfl) yG yA.kp yF (z4 (qv 0) (z4 z7 z6))) z7 (zS _)) (zP (rL (wY PySem.F.plainAttrs_list PySem.F.slot_list_append PySem.F.type_list_append (by decide) o0 (qv 3) (z4 (yO (z4 (qv 4) (z4 (y6 xH (qv 5) (xT sT (by rfl) M.int sJ (z4 (uC zfM (qv 5) z7 (zS _)) z6))) z6))) z6)))) yL))))
   (zP (y7 (xT (tP rfl) (by rfl) M.tuple uQ (z4 (qv 3) z6)))))) yL)
   (zE (yI (yB (yK hr) (zD (zC hr) (qv 1) z7 (λ_ _=>rfl)) zM (zS _)) (zE (zY (i:=5) j8.nd rfl (Or.inl rfl) (zL yE hr1 (by rfl) yG yA.kp yF (z4 (qv 0) (z4 (zD (zC hr) (vR (z4 z7 (z4 z7 z6))) (xT sT (by rfl) M.int sJ (z4 (uC (yK hr) (zL yE hr1 (by rfl) yG yA.kp yF (z4 (qv 0) (z4 z7 z6))) z7 (zS _)) z6)) (λ_ _=>rfl)) z6))))
   (zP (y7 (xT (tP rfl) (by rfl) M.tuple uQ (z4 (uD (own:= ["_law_k"]) (vM (fsc:=zK qP) (N:= ["_law_box_here","_law_manner_here","_law_things","_law_found","_law_word","_law_many"]) (N':= ["_law_box_here","_law_manner_here","_law_things","_law_found","_law_word","_law_many"]) rfl rfl (by decide+kernel)) rfl (gJ (by rfl) M.range (z4 (qv 5) z6)) (λC s H fp pins=>(yZ (i:=6) nd5 rfl (Or.inl rfl))) (λC s H fp pins=>sW) (λC s H fp pins=>(zD (zC hr) (qv 2) (zL yE hr1 (by rfl) yG yA.kp yF (z4 (qv 0) (z4 (xL wG (by rfl) M.len PySem.boot_len (z4 (qv 2) z6)) z6))) (λ_ _=>rfl)))) z6))))) yL)
   (zP (y7 (zL fZ hr2 (by rfl) zbj lI.kp eV (z4 (qv 0) z6))))))),λxs st Q h=> ?_⟩
 obtain⟨i,kd,r,ws,a,b,rfl,hi,hb,hmn,hne,hwl,hnd,q⟩:=h;have hil:=(List.getElem?_eq_some_iff.mp hi).1;have hset: ∀{a b:Int},(st.set i (zF a b))[i]?=some (zF a b):=λ{a b} =>uV hi;have hset2: ∀{a b:Int} {o:PO},(st.set i (zF a b)++ [o])[i]?=some (zF a b):=λ{a b o} =>iZ hset;have hput: ∀{a b c d:Int} {o:PO},(st.set i (zF a b)++ [o]).set i (zF c d)=st.set i (zF c d)++ [o]:=λ{a b c d o} =>by rw[fA (by rw[List.length_set];exact hil),wH]
 have hsl: ∀{o:PO},(st.set i o).length=st.length:=List.length_set;have hat: ∀{a b:Int} {o:PO},(st.set i (zF a b)++ [o])[st.length]?=some o:=λ{a b o} =>by rw[<- hsl (o:=zF a b)];exact sR
 have hst2: ∀{a b:Int} {o o':PO},(st.set i (zF a b)++ [o]).set st.length o'=st.set i (zF a b)++ [o']:=λ{a b o o'} =>by rw[<- hsl (o:=zF a b)];exact jE
 have htk: ∀{a b:Int} {o:PO},(st.set i (zF a b)++ [o]).take st.length=st.set i (zF a b):=λ{a b o} =>by rw[<- hsl (o:=zF a b)];exact jK
 have hst:st=st.set i (zF a b):=by
  obtain⟨h1,h2⟩:=List.getElem?_eq_some_iff.mp hi;rw[<- h2,List.set_getElem_self]
 have hpos:0 < ws.length:=List.length_pos_iff.mpr hne;have n_last_told:(("last" :Str)==("told" :Str))=false:=by decide+kernel
 have n_last_bag:(("last" :Str)==("bag" :Str))=false:=by decide+kernel
 have n_last_row:(("last" :Str)==("row" :Str))=false:=by decide+kernel
 have n_sum_told:(("sum" :Str)==("told" :Str))=false:=by decide+kernel
 have n_sum_bag:(("sum" :Str)==("bag" :Str))=false:=by decide+kernel
 have n_sum_row:(("sum" :Str)==("row" :Str))=false:=by decide+kernel
 have n_bag_told:(("bag" :Str)==("told" :Str))=false:=by decide+kernel
 have n_row_told:(("row" :Str)==("told" :Str))=false:=by decide+kernel
 have n_row_bag:(("row" :Str)==("bag" :Str))=false:=by decide+kernel
 rcases hmn with⟨hk,rfl⟩ | ⟨rfl,n,t,rfl,n2,n6⟩
 ·rcases hk with rfl | rfl | rfl | rfl
  ·refine z9 ?_
   try simp? only[n_last_told]
   refine z9 ?_
   try simp? only[n_last_bag]
   refine z9 ?_
   try simp? only[n_last_row]
   refine⟨i,a,b,rfl,hi,hb,λd a b d0 d1 hb=> ?_⟩
   try simp? only[true_and]
   exact q (.int d) a b ⟨by decide+kernel,by decide+kernel,d0,d1⟩ hb
  ·refine z9 ?_
   try simp? only[n_sum_told]
   refine z9 ?_
   try simp? only[n_sum_bag]
   refine z9 ?_
   try simp? only[n_sum_row]
   refine⟨i,a,b,rfl,hi,hb,λd a b d0 d1 hb=> ?_⟩
   try simp? only[true_and]
   exact q (.int d) a b ⟨by decide+kernel,by decide+kernel,d0,d1⟩ hb
  ·refine z9 ?_
   try simp? only[n_bag_told]
   refine z9 ?_
   try simp? only[beq_self_eq_true]
   refine z9 ?_
   try simp? only[true_and]
   refine z9 ?_
   try simp? only[zbO,uX]
   refine⟨ws,rfl,by omega,λss hp hs=> ?_⟩;have hss:ss.Nodup:=hp.nodup_iff.mpr hnd;have hsln:=hp.length_eq
   try simp? only[true_and]
   refine pO (λk env s=> ∃(l:List (Str×Int)) (v w:Option PV) (a b:Int),env= [some (PV.obj i),some (.tup [.str "bag"]),some (.lst (ws.map PV.str)),some (.obj st.length),v,w]/\(l.map (·.1)).Sublist (ss.take k)/\yT a b/\s=st.set i (zF a b)++ [.lst (l.map λq=>PV.tup [.str q.1,.int q.2])])
    ⟨[],none,none,a,b,rfl,by simp,hb,by rw[<- hst];rfl⟩ ?_ ?_
   ·rintro k x env s hx ⟨l,v,w,a,b,rfl,hl,hb,rfl⟩
    obtain⟨wd,hwd,rfl⟩:=wQ hx;have hll:l.length<=40:=by
     have:=hl.length_le;rw[List.length_map,List.length_take]at this;omega
    try simp? only[true_and]
    refine z9 ?_
    try simp? only[true_and]
    refine⟨i,198,a,b,rfl,hset2,hb,by decide,by decide,λd a b d0 d1 hb=> ?_⟩
    try simp? only[hput]
    refine⟨i,2,a,b,rfl,hset2,hb,by decide,by decide,λe a b e0 e1 hb=> ?_⟩
    try simp? only[hput]
    by_cases h1:e=1
    ·subst h1
     try simp? only[beq_self_eq_true,hat,hst2,List.length_map]
     refine⟨Nat.lt_of_lt_of_le (m:=1000) (by omega) (by decide),l++ [(wd,_)],_,_,a,b,rfl,?_,hb,by simp;rfl⟩;rw[nB hwd,List.map_append];exact hl.append (List.Sublist.refl _)
    ·have n1:(e==1)=false:=by simpa using h1
     try simp? only[n1]
     exact⟨l,_,_,a,b,rfl,by rw[nB hwd];exact hl.trans (List.sublist_append_left _ _),hb,rfl⟩
   ·rintro env s ⟨l,v,w,a,b,rfl,hl,hb,rfl⟩
    have hsub:=hl.trans (List.take_sublist _ _);have hll:l.length<=40:=by
     have:=hsub.length_le;rw[List.length_map]at this;omega
    try simp? only[hat,htk]
    exact q (.bag l) a b ⟨rfl,hss.sublist hsub,hll⟩ hb
  ·refine z9 ?_
   try simp? only[n_row_told]
   refine z9 ?_
   try simp? only[n_row_bag]
   refine z9 ?_
   try simp? only[beq_self_eq_true]
   refine z9 ?_
   try simp? only[true_and]
   refine⟨i,4,a,b,rfl,hi,hb,by decide,by decide,λe a b e0 e1 hb=> ?_⟩;obtain⟨z,ez,z0,z1⟩: ∃z:Int,atI [PV.int 5,.int 21] (if(e==1)=true then(1:Int)else 0)=some (.int z)/\0 < z/\z<=21:=by
    split
    ·exact⟨21,rfl,by decide,by decide⟩
    ·exact⟨5,rfl,by decide,by decide⟩
   try simp? only[ez]
   refine⟨i,z,a,b,rfl,hset,hb,z0,by omega,λm a b m0 m1 hb=> ?_⟩
   try simp? only[true_and]
   refine⟨⟨by omega,by omega⟩,λk ys env s=> ∃(us:List Str) (v:Option PV) (a b:Int),ys=us.map PV.str/\us.length=k/\env= [some (PV.obj i),some (.tup [.str "row"]),some (.lst (ws.map PV.str)),none,none,some (.int m),v]/\yT a b/\s=st.set i (zF a b),⟨[],none,a,b,rfl,rfl,rfl,hb,rfl⟩,?_,?_⟩
   ·rintro k x ys env s hx ⟨us,v,a,b,rfl,hk,rfl,hb,rfl⟩
    obtain⟨_,rfl⟩:=mS hx
    try simp? only[List.length_map]
    refine⟨i,_,a,b,rfl,hset,hb,by omega,by omega,λe a b e0 e1 hb=> ?_⟩;obtain⟨t,_,et⟩:=pH PV.str (ns:=ws) e0 e1
    try simp? only[et]
    exact⟨us++ [t],_,a,b,by simp,by simp[hk],rfl,hb,rfl⟩
   ·rintro ys env s ⟨us,v,a,b,rfl,hk,rfl,hb,rfl⟩
    rw[qM]at hk
    try simp? only[true_and]
    exact q (.row us) a b ⟨rfl,by omega⟩ hb
 ·refine z9 ?_
  try simp? only[beq_self_eq_true]
  refine⟨i,n,a,b,rfl,hi,hb,by omega,by omega,λd a b d0 d1 hb=> ?_⟩
  try simp? only[true_and]
  exact q (.int d) a b ⟨by decide+kernel,by decide+kernel,d0,by omega⟩ hb
theorem znd {f:Addr}{fd:FuncData}(M:Mo K mg)(F:zZ K "_law_leaves" "_law_leaves" oH f fd):zJ P w K mg base zI 2 f fd ["_law_box_here","_law_shelves","_law_things"] (zN K zho):=by
 obtain⟨w5,w6,yA,yF,yG⟩:=M._law_take;have yE:zJ P w K mg base zI 1 w5 w6 ["_law_box_here","_law_many"] (zN K uF):=t5 M yA;refine xI 0 F jA (λxs st Q h=>by obtain⟨i,sh,ws,a,b,rfl,_⟩:=h;rfl) ⟨_,λcdv A outer s H E hr=>have hr1:zX 1 _:=hr.mono (by decide);(zE (zY (i:=3) jA.nd rfl (Or.inl rfl) (o7 z6))
   (zE (o8 PassesOwn.never rfl (vI (qv 1)) (rG (n:=3) rfl (wF (yZ (i:=4) jA.nd rfl (Or.inl rfl)) (wF (yZ (i:=5) jA.nd rfl (Or.inl rfl)) (wF (yZ (i:=6) jA.nd rfl (Or.inl rfl)) rH)))) (zP (yI (yB (yK hr) (zD (zC hr) (qv 5) z7 (λ_ _=>rfl)) zM (zS _)) (zP (rL (wY PySem.F.plainAttrs_list PySem.F.slot_list_append PySem.F.type_list_append (by decide) o0 (qv 3) (z4 (yO (z4 zM (z4 (qv 4) (z4 (zD (zC hr) (qv 2) (zL yE hr1 (by rfl) yG yA.kp yF (z4 (qv 0) (z4 (xL wG (by rfl) M.len PySem.boot_len (z4 (qv 2) z6)) z6))) (λ_ _=>rfl)) z6)))) z6)))) (zP (rL (wY PySem.F.plainAttrs_list PySem.F.slot_list_append PySem.F.type_list_append (by decide) o0 (qv 3) (z4 (zD (zC hr) (vR (z4 (yO (z4 zM (z4 (qv 4) z6))) (z4 (yO (z4 zM (z4 (qv 4) z6))) z6))) (xT sT (by rfl) M.int sJ (z4 (uC (yK hr) (zD (zC hr) (qv 5) z7 (λ_ _=>rfl)) zM (zS _)) z6)) (λ_ _=>rfl)) z6)))))))
   (zP (y7 (qv 3))))),λxs st Q h=> ?_⟩
 obtain⟨i,sh,ws,a,b,rfl,hi,hb,hk,hsl,hne,hwl,q⟩:=h;have hil:=(List.getElem?_eq_some_iff.mp hi).1;have hset: ∀{a b:Int},(st.set i (zF a b))[i]?=some (zF a b):=λ{a b} =>uV hi;have hset2: ∀{a b:Int} {o:PO},(st.set i (zF a b)++ [o])[i]?=some (zF a b):=λ{a b o} =>iZ hset;have hput: ∀{a b c d:Int} {o:PO},(st.set i (zF a b)++ [o]).set i (zF c d)=st.set i (zF c d)++ [o]:=λ{a b c d o} =>by rw[fA (by rw[List.length_set];exact hil),wH]
 have hsl2: ∀{o:PO},(st.set i o).length=st.length:=List.length_set;have hst:st=st.set i (zF a b):=by
  obtain⟨h1,h2⟩:=List.getElem?_eq_some_iff.mp hi;rw[<- h2,List.set_getElem_self]
 have hpos:0 < ws.length:=List.length_pos_iff.mpr hne;refine z9 ?_
 try simp? only[true_and]
 refine z9 ?_
 try simp? only[true_and]
 refine pO (λk env s=> ∃(ls:List Lf) (v w x:Option PV) (a b:Int),env= [some (PV.obj i),some (.lst (sh.map zW)),some (.lst (ws.map PV.str)),some (.obj st.length),v,w,x]/\ls.length=k/\(∀l∈ls,nM sh l)/\yT a b/\s=st.set i (zF a b)++ [.lst (ls.map Lf.pv)])
  ⟨[],none,none,none,a,b,rfl,rfl,by simp,hb,by rw[<- hst];rfl⟩ ?_ ?_
 ·rintro k y env s hy ⟨ls,v,w,x,a,b,rfl,hk',hl,hb,rfl⟩
  obtain⟨s0,hs0,rfl⟩:=wQ hy;have ms:=List.mem_of_getElem? hs0;have hkl:=(List.getElem?_eq_some_iff.mp hs0).1;obtain⟨kd,r,er⟩:=hk s0 ms;have hat: ∀{a b:Int} {o:PO},(st.set i (zF a b)++ [o])[st.length]?=some o:=λ{a b o} =>by rw[<- hsl2 (o:=zF a b)];exact sR
  have hst2: ∀{a b:Int} {o o':PO},(st.set i (zF a b)++ [o]).set st.length o'=st.set i (zF a b)++ [o']:=λ{a b o o'} =>by rw[<- hsl2 (o:=zF a b)];exact jE
  unfold zW;rw[er];have more: ∀(l:Lf) (a b:Int),nM sh l->yT a b->∀v w x,∃(ls':List Lf) (v' w' x':Option PV) (a' b':Int),[some (PV.obj i),some (.lst (sh.map zW)),some (.lst (ws.map PV.str)),some (.obj st.length),v,w,x]= [some (PV.obj i),some (.lst (sh.map zW)),some (.lst (ws.map PV.str)),some (.obj st.length),v',w',x']/\ls'.length=k+1/\(∀l∈ls',nM sh l)/\yT a' b'/\st.set i (zF a b)++ [PO.lst (ls.map Lf.pv++ [l.pv])]=st.set i (zF a' b')++ [.lst (ls'.map Lf.pv)]:=λl a b h1 h2 v w x=>
   ⟨ls++ [l],v,w,x,a,b,rfl,by simp[hk'],λl' hl'=>by
    rcases List.mem_append.mp hl' with h | h
    ·exact hl l' h
    ·rw[List.mem_singleton.mp h];exact h1,h2,by simp⟩
  have small:(ls.map Lf.pv).length < sizeLine:=Nat.lt_of_lt_of_le (m:=1000) (by rw[List.length_map];omega) (by decide)
  try simp? only[true_and]
  by_cases hbag:kd= "bag"
  ·subst hbag
   try simp? only[beq_self_eq_true,List.length_map,hat]
   refine⟨i,_,a,b,rfl,hset2,hb,by omega,by omega,λe a b e0 e1 hb=> ?_⟩;obtain⟨t,_,et⟩:=pH PV.str (ns:=ws) e0 e1
   try simp? only[et,hput,hat,hst2]
   exact⟨small,more (.many s0.1 t) a b ⟨s0,ms,"bag",⟨r,er⟩,.inl ⟨rfl,t,rfl⟩⟩ hb _ _ _⟩
  ·have nb:(kd==("bag" :Str))=false:=by simpa using hbag
   try simp? only[nb]
   by_cases hrow:kd= "row"
   ·subst hrow
    try simp? only[beq_self_eq_true,hat,hst2]
    exact⟨small,more (.long s0.1) a b ⟨s0,ms,"row",⟨r,er⟩,.inr (.inl ⟨rfl,rfl⟩)⟩ hb _ _ _⟩
   ·have nr:(kd==("row" :Str))=false:=by simpa using hrow
    try simp? only[nr,hat,hst2]
    exact⟨small,more (.shelf s0.1) a b ⟨s0,ms,kd,⟨r,er⟩,.inr (.inr ⟨hbag,hrow,rfl⟩)⟩ hb _ _ _⟩
 ·rintro env s ⟨ls,v,w,x,a,b,rfl,hk',hl,hb,rfl⟩
  rw[List.length_map]at hk'
  try simp? only[true_and]
  rw[show xO st.length Q=xO ((st.set i (zF a b)).length+0) Q by rw[hsl2];rfl,<- hsl2 (o:=zF a b),iW];exact q ls a b hk' hl hb
theorem zmZ {f:Addr}{fd:FuncData}(M:Mo K mg)(F:zZ K "_law_deed" "_law_deed" oG f fd):zJ P w K mg base zI 11 f fd ["_law_box_here","_law_shelf","_law_leaves_here","_law_things"] (zN K zhg):=by
 obtain⟨w5,w6,yA,yF,yG⟩:=M._law_take;have yE:zJ P w K mg base zI 1 w5 w6 ["_law_box_here","_law_many"] (zN K uF):=t5 M yA;obtain⟨zaI,zaN,nK,iD,g6⟩:=M._law_any_term;have jV:zJ P w K mg base zI 10 zaI zaN ["_law_box_here","_law_leaves_here"] (zN K (zcd Lf.pv)):=zfR M nK;refine xI 0 F oT (λxs st Q h=>by obtain⟨i,nm,kd,r,bg,ls,ws,a,b,rfl,_⟩:=h;rfl) ⟨_,λcdv A outer s H E hr=>have hr1:zX 1 _:=hr.mono (by decide);have hr10:zX 10 _:=hr.mono (by decide);(zE (qK (qv 1) (rG (n:=3) rfl (wF (yZ (i:=4) oT.nd rfl (Or.inl rfl)) (wF (yZ (i:=5) oT.nd rfl (Or.inl rfl)) (wF (yZ (i:=6) oT.nd rfl (Or.inl rfl)) rH)))))
   (zE (zY (i:=7) oT.nd rfl (Or.inl rfl) (zD (zC hr) (qv 3) (zL yE hr1 (by rfl) yG yA.kp yF (z4 (qv 0) (z4 (xL wG (by rfl) M.len PySem.boot_len (z4 (qv 3) z6)) z6))) (λ_ _=>rfl)))
   (zE (yI (yB (yK hr) (zD (zC hr) (qv 5) z7 (λ_ _=>rfl)) zM (zS _)) (zP (y7 (yO (z4 (zD (zC hr) (vR (z4 zM (z4 zM z6))) (zL yE hr1 (by rfl) yG yA.kp yF (z4 (qv 0) (z4 z7 z6))) (λ_ _=>rfl)) (z4 (qv 4) (z4 (qv 7) z6)))))) yL)
   (zE (zY (i:=8) oT.nd rfl (Or.inl rfl) (zL jV hr10 (by rfl) g6 nK.kp iD (z4 (qv 0) (z4 (qv 2) z6))))
   (zE (yI (yB (yK hr) (zD (zC hr) (qv 5) z7 (λ_ _=>rfl)) zM (zS _)) (zP (y7 (yO (z4 zM (z4 (qv 4) (z4 (qv 8) z6)))))) yL)
   (zE (yI (yB (o4 hr) (zD (zC hr) (qv 5) z7 (λ_ _=>rfl)) zM (zS _)) (zP (y7 (yO (z4 zM (z4 (qv 4) (z4 (qv 8) z6)))))) yL)
   (zE (yI (yB (yK hr) (zL yE hr1 (by rfl) yG yA.kp yF (z4 (qv 0) (z4 z7 z6))) z7 (zS _)) (zP (zY (i:=8) oT.nd rfl (Or.inl rfl) (yO (z4 zM (z4 (zL yE hr1 (by rfl) yG yA.kp yF (z4 (qv 0) (z4 z7 z6))) z6))))) yL)
   (zE (yI (yB qB (zL yE hr1 (by rfl) yG yA.kp yF (z4 (qv 0) (z4 z7 z6))) z7 (zS _)) (zP (y7 (yO (z4 zM (z4 (qv 4) (z4 (qv 8) (z4 (qv 7) z6))))))) yL)
   (zP (y7 (yO (z4 zM (z4 (qv 4) (z4 (qv 8) z6)))))))))))))),λxs st Q h=> ?_⟩
 obtain⟨i,nm,kd,r,bg,ls,ws,a,b,rfl,hbg,hi,hb,hwe,hwl,hll,q⟩:=h;have hset: ∀{a b:Int},(st.set i (zF a b))[i]?=some (zF a b):=λ{a b} =>uV hi;have hw0:0 < ws.length:=List.length_pos_iff.mpr hwe;refine z9 ?_
 try simp? only[hbg]
 refine z9 ?_
 try simp? only[List.length_map]
 refine⟨i,(ws.length:Int),a,b,rfl,hi,hb,by omega,by omega,λd a b d0 d1 hb=> ?_⟩;obtain⟨wd,_,ew⟩:=pH PV.str (ns:=ws) d0 d1
 try simp? only[ew]
 refine z9 ?_;by_cases k1:kd= "bag"
 ·subst k1
  try simp? only[beq_self_eq_true]
  refine⟨i,2,a,b,rfl,hset,hb,by decide,by decide,λg a b g0 g1 hb=> ?_⟩;have hg:g=0∨g=1:=by omega
  rcases hg with rfl | rfl
  ·try simp? only[wH]
   exact q (.bag true nm wd) a b ⟨rfl,λx hx=>(by cases hx),rfl⟩ hb
  ·try simp? only[wH]
   exact q (.bag false nm wd) a b ⟨rfl,λx hx=>(by cases hx),rfl⟩ hb
 have n1:(kd==("bag" :Str))=false:=by simpa using k1
 try simp? only[n1]
 refine z9 ?_
 try simp? only[true_and]
 refine⟨i,ls,a,b,rfl,hset,hb,kQ,hll,λt a b tok vJ hb=> ?_⟩
 try simp? only[wH]
 refine z9 ?_;by_cases k2:kd= "sum"
 ·subst k2
  try simp? only[beq_self_eq_true]
  exact⟨l0 t,q (.more nm t) a b ⟨rfl,λx hx=>(by cases hx;exact⟨tok,vJ⟩),rfl⟩ hb⟩
 have n2:(kd==("sum" :Str))=false:=by simpa using k2
 try simp? only[n2]
 refine z9 ?_;by_cases k3:kd= "row"
 rotate_left
 ·have n3:(kd==("row" :Str))=false:=by simpa using k3
  try simp? only[n3]
  exact⟨l0 t,q (.set nm t) a b ⟨rfl,λx hx=>(by cases hx;exact⟨tok,vJ⟩),k1,k3,k2⟩ hb⟩
 subst k3
 try simp? only[beq_self_eq_true]
 refine oX (λenv s=> ∃(t:Tm Lf) (a b:Int),env= [some (PV.obj i),some (.tup [.str nm,.tup (.str "row" ::r),bg]),some (.lst (ls.map Lf.pv)),some (.lst (ws.map PV.str)),some (.str nm),some (.tup (.str "row" ::r)),some bg,some (.str wd),some (t.pv Lf.pv)]/\s=st.set i (zF a b)/\yT a b/\t.ok (λl=>l∈ls)/\t.rank < 7) (λN hN=> ?_) ?_
 ·try simp? only[true_and]
  refine⟨i,2,a,b,rfl,hset,hb,by decide,by decide,λg a b g0 g1 hb=> ?_⟩
  try simp? only[wH]
  by_cases h0:g=0
  ·subst h0
   try simp? only[beq_self_eq_true]
   refine⟨i,6,a,b,rfl,hset,hb,by decide,by decide,λe a b e0 e1 hb=> ?_⟩
   try simp? only[wH]
   exact hN _ _ ⟨.num e,a,b,rfl,rfl,hb,⟨e0,by omega⟩,by show 0 < 7;decide⟩
  ·have nf:(g==0)=false:=by simpa using h0
   try simp? only[nf]
   exact hN _ _ ⟨t,a,b,rfl,rfl,hb,tok,vJ⟩
 ·rintro env s0 ⟨t,a,b,rfl,rfl,hb,tok,vJ⟩
  refine z9 ?_
  try simp? only[true_and]
  refine⟨i,5,a,b,rfl,hset,hb,by decide,by decide,λg a b g0 g1 hb=> ?_⟩
  try simp? only[wH]
  by_cases h1:1 < g
  ·have hd:decide (1 < g)=true:=decide_eq_true h1
   try simp? only[hd]
   exact⟨l0 t,q (.lay nm t wd) a b ⟨rfl,λx hx=>(by cases hx;exact⟨tok,vJ⟩),rfl⟩ hb⟩
  ·have hd:decide (1 < g)=false:=decide_eq_false h1
   try simp? only[hd]
   exact⟨l0 t,q (.drop nm t) a b ⟨rfl,λx hx=>(by cases hx;exact⟨tok,vJ⟩),rfl⟩ hb⟩
theorem zng {f:Addr}{fd:FuncData}(M:Mo K mg)(F:zZ K "_law_row" "_law_row" oN f fd):zJ P w K mg base zI 12 f fd ["_law_box_here","_law_uses","_law_things"] (zN K zhv):=by
 obtain⟨w5,w6,yA,yF,yG⟩:=M._law_take;have yE:zJ P w K mg base zI 1 w5 w6 ["_law_box_here","_law_many"] (zN K uF):=t5 M yA;obtain⟨zaI,zaN,nK,iD,g6⟩:=M._law_any_term;have jV:zJ P w K mg base zI 10 zaI zaN ["_law_box_here","_law_leaves_here"] (zN K (zcd Lf.pv)):=zfR M nK;obtain⟨zkp,zk5,zcB,zjf,zmj⟩:=M._law_leaves;have zi4:zJ P w K mg base zI 2 zkp zk5 ["_law_box_here","_law_shelves","_law_things"] (zN K zho):=znd M zcB;obtain⟨zkl,zk1,zc8,zjb,zmf⟩:=M._law_deed;have zi0:zJ P w K mg base zI 11 zkl zk1 ["_law_box_here","_law_shelf","_law_leaves_here","_law_things"] (zN K zhg):=zmZ M zc8;refine xI 0 F mW (λxs st Q h=>by obtain⟨i,sh,ws,a,b,rfl,_⟩:=h;rfl) ⟨_,λcdv A outer s H E hr=>have hr1:zX 1 _:=hr.mono (by decide);have hr2:zX 2 _:=hr.mono (by decide);have hr10:zX 10 _:=hr.mono (by decide);have hr11:zX 11 _:=hr.mono (by decide);(zE (qK (qv 1) (rG (n:=2) rfl (wF (yZ (i:=3) mW.nd rfl (Or.inl rfl)) (wF (yZ (i:=4) mW.nd rfl (Or.inl rfl)) rH))))
   (zE (zY (i:=5) mW.nd rfl (Or.inl rfl) (zL zi4 hr2 (by rfl) zmj zcB.kp zjf (z4 (qv 0) (z4 (qv 4) (z4 (qv 2) z6)))))
   (zE (zY (i:=6) mW.nd rfl (Or.inl rfl) (yO (z4 zM (z4 (zL jV hr10 (by rfl) g6 nK.kp iD (z4 (qv 0) (z4 (qv 5) z6))) z6))))
   (zE (yI (PW.pt (mN (yB qB (xL wG (by rfl) M.len PySem.boot_len (z4 (qv 3) z6)) z7 (zS _)) (mO (yB qB (zL yE hr1 (by rfl) yG yA.kp yF (z4 (qv 0) (z4 z7 z6))) z7 (zS _))))) (zP (zY (i:=6) mW.nd rfl (Or.inl rfl) (zL zi0 hr11 (by rfl) zmf zc8.kp zjb (z4 (qv 0) (z4 (zD (zC hr) (qv 3) (zL yE hr1 (by rfl) yG yA.kp yF (z4 (qv 0) (z4 (xL wG (by rfl) M.len PySem.boot_len (z4 (qv 3) z6)) z6))) (λ_ _=>rfl)) (z4 (qv 5) (z4 (qv 2) z6))))))) yL)
   (zE (yI (yB (yK hr) (zL yE hr1 (by rfl) yG yA.kp yF (z4 (qv 0) (z4 z7 z6))) z7 (zS _)) (zP (y7 (yO (z4 zM (z4 (zL jV hr10 (by rfl) g6 nK.kp iD (z4 (qv 0) (z4 (qv 5) z6))) (z4 (qv 6) z6)))))) yL)
   (zP (y7 (qv 6)))))))),λxs st Q h=> ?_⟩
 obtain⟨i,sh,ws,a,b,rfl,hi,hb,hsh,hse,hsl,hwe,hwl,q⟩:=h;have hset: ∀{a b:Int},(st.set i (zF a b))[i]?=some (zF a b):=λ{a b} =>uV hi;have hs0:0 < sh.length:=List.length_pos_iff.mpr hse;have hk: ∀s∈sh,∃kd,sF s kd:=λs hs=>let⟨kd,r,h,e,_⟩:=hsh s hs;⟨kd,r,e⟩;refine z9 ?_
 try simp? only[true_and]
 refine z9 ?_
 try simp? only[true_and]
 refine⟨i,sh,ws,a,b,rfl,hi,hb,hk,by omega,hwe,hwl,λls a b lll hls hb=> ?_⟩;have tf: ∀{t:Tm Lf},t.ok (λl=>l∈ls)->t.rank < 7->lU sh t:=λh1 h2=>⟨Tm.ok_mono (λl hl=>hls l hl) h1,h2⟩
 try simp? only[true_and]
 refine z9 ?_
 try simp? only[true_and]
 refine⟨i,ls,a,b,rfl,hset,hb,kQ,by omega,λt a b tok vJ hb=> ?_⟩
 try simp? only[wH,l0]
 refine oX (λenv s=> ∃(d:Dd) (a b:Int),env= [some (PV.obj i),some (.tup [.lst (sh.map zW),.lst (sh.map zW)]),some (.lst (ws.map PV.str)),some (.lst (sh.map zW)),some (.lst (sh.map zW)),some (.lst (ls.map Lf.pv)),some d.pv]/\s=st.set i (zF a b)/\yT a b/\jP sh d) (λN hN=> ?_) ?_
 ·have hd0:decide ((0:Int) < (sh.length:Int))=true:=decide_eq_true (by omega)
  try simp? only[List.length_map,hd0]
  refine⟨i,6,a,b,rfl,hset,hb,by decide,by decide,λg a b g0 g1 hb=> ?_⟩
  try simp? only[wH]
  by_cases hg:0 < g
  ·have hd:decide (0 < g)=true:=decide_eq_true hg
   try simp? only[hd,List.length_map]
   refine⟨i,(sh.length:Int),a,b,rfl,hset,hb,by omega,by omega,λe a b e0 e1 hb=> ?_⟩;obtain⟨n,rfl⟩: ∃n:Nat,e=n:=⟨e.toNat,by omega⟩;have hn:sh[n]?=some sh[n]:=List.getElem?_eq_getElem (by omega);obtain⟨kd,r,h,es,hm,eb,hv⟩:=hsh _ (List.mem_iff_getElem?.mpr ⟨n,hn⟩);have er:atI (sh.map zW) (n:Int)=some (.tup [.str sh[n].1,.tup (.str kd::r),h.pv]):=by
    rw[mX hn];unfold zW;rw[es,eb]
   try simp? only[wH,er]
   refine⟨i,sh[n].1,kd,r,h.pv,ls,ws,a,b,rfl,pR h,hset,hb,hwe,hwl,by omega,λd a b hd hb=> ?_⟩
   try simp? only[wH]
   obtain⟨d1,d2,d3⟩:=hd;exact hN _ _ ⟨d,a,b,rfl,rfl,hb,λx hx=>tf (d2 x hx).1 (d2 x hx).2,λs hs=>⟨sh[n],List.mem_iff_getElem?.mpr ⟨n,hn⟩,by rw[d1]at hs;exact Option.some.inj hs,kd,r,es,d3⟩⟩
  ·have hd:decide (0 < g)=false:=decide_eq_false hg
   try simp? only[hd]
   exact hN _ _ ⟨.tell t,a,b,rfl,rfl,hb,λx hx=>(by cases hx;exact tf tok vJ),λs hs=>by cases hs⟩
 ·rintro env s0 ⟨d,a,b,rfl,rfl,hb,hD⟩
  refine z9 ?_
  try simp? only[true_and]
  refine⟨i,4,a,b,rfl,hset,hb,by decide,by decide,λg a b g0 g1 hb=> ?_⟩
  try simp? only[wH]
  by_cases h0:g=0
  ·subst h0
   try simp? only[beq_self_eq_true]
   refine⟨i,ls,a,b,rfl,hset,hb,kQ,by omega,λt a b tok vJ hb=> ?_⟩
   try simp? only[wH,l0]
   exact⟨dH d,q (some t,d) a b ⟨λx hx=>(by cases hx;exact tf tok vJ),hD⟩ hb⟩
  ·have nf:(g==0)=false:=by simpa using h0
   try simp? only[nf]
   exact zkg (dH d) (q (none,d) a b ⟨λx hx=>(by cases hx),hD⟩ hb)
theorem nd6:(["_law_program","_law_house_here","_law_term_here","_law_value_here","_law_shelf"]:List Str).Nodup:=by decide+kernel
theorem znc {f:Addr}{fd:FuncData}(M:Mo K mg)(F:zZ K "_law_leaf" "_law_leaf" qS f fd):zJ P w K mg base zI 1 f fd ["_law_program","_law_house_here","_law_term_here"] (zN K jH):=by
 refine xI 0 F zgU (λxs st Q h=>by obtain⟨sh,zB,hs,l,v,rfl,_⟩:=h;rfl) ⟨_,λcdv A outer s H E hr=>(zE (zY (i:=3) zgU.nd rfl (Or.inl rfl) (zD (zC hr) (qv 1) (wY PySem.F.plainAttrs_list PySem.F.slot_list_index PySem.F.type_list_index (by decide) zbn (uD (own:= ["_law_shelf"]) (vM (fsc:=zK qS) (N:= ["_law_program","_law_house_here","_law_term_here","_law_value_here"]) (N':= ["_law_program","_law_house_here","_law_term_here","_law_value_here"]) rfl rfl (by decide+kernel)) rfl (vI (zD (zC hr) (qv 0) z7 (λ_ _=>rfl))) (λC s H fp pins=>(yZ (i:=4) nd6 rfl (Or.inl rfl))) (λC s H fp pins=>sW) (λC s H fp pins=>(zD (zC hr) (qv 4) z7 (λ_ _=>rfl)))) (z4 (zD (zC hr) (qv 2) z7 (λ_ _=>rfl)) z6)) (λ_ _=>rfl)))
   (zE (yI (yB (yK hr) (zD (zC hr) (qv 2) z7 (λ_ _=>rfl)) zM (zS _)) (zP (y7 (y6 wV (wY PySem.F.plainAttrs_dict PySem.F.slot_dict_get PySem.F.type_dict_get (by decide) (g9 hr) (xT (zfK rfl) (by rfl) M.dict iI (z4 (qv 3) z6)) (z4 (zD (zC hr) (qv 2) z7 (λ_ _=>rfl)) (z4 z7 z6))) z7))) yL)
   (zE (yI (yB (yK hr) (zD (zC hr) (qv 2) z7 (λ_ _=>rfl)) zM (zS _)) (zP (y7 (xL wG (by rfl) M.len PySem.boot_len (z4 (qv 3) z6)))) yL)
   (zP (y7 (qv 3)))))),λxs st Q h=> ?_⟩
 obtain⟨sh,zB,hs,l,v,rfl,hB,hv,q⟩:=h;have e1:(("shelf" :Str)==("many" :Str))=false:=by decide+kernel
 have e2:(("shelf" :Str)==("long" :Str))=false:=by decide+kernel
 have e3:(("long" :Str)==("many" :Str))=false:=by decide+kernel
 have at_: ∀{s:Str} {u:Hv},xZ sh hs s=some u->∃i:Nat,(sh.map (·.1)).findIdx? (λn=>n==s)=some i/\atI (hs.map Hv.pv) (i:Int)=some u.pv/\u∈hs:=λ{s u} h=>by
  unfold xZ at h;obtain⟨i,h1,h2⟩:=Option.bind_eq_some_iff.mp h;exact⟨i,h1,v6 (by rw[List.getElem?_map,h2];rfl),List.mem_of_getElem? h2⟩
 cases l with
 | shelf s=>
  obtain⟨u,hu⟩: ∃u,xZ sh hs s=some (.int u)/\v=u:=by
   have hv':(match xZ sh hs s with | some (.int v)=>some v | _=>none)=some v:=hv
   split at hv' <;> rename_i h
   ·cases hv';exact⟨_,h,rfl⟩
   ·cases hv'
  obtain⟨hu,rfl⟩:=hu;obtain⟨i,hi,ha,_⟩:=at_ hu;unfold Lf.pv;refine z9 ?_
  try simp? only[true_and]
  refine vX sS (λj x e hx he=> ?_) ?_
  ·obtain⟨s',hs',rfl⟩:=wQ hx
   obtain⟨y,rfl⟩:=sQ he;unfold zW
   try simp? only[true_and]
   exact CP.yes (e':= [_]) hx rfl rfl
  rw[pN sh (f:=sS) (h:=λs=>PV.str s.1) λs=>rfl]
  try simp? only[oA,uX]
  refine⟨_,i,rfl,by rw[List.all_map];exact List.all_eq_true.mpr λ_ _=>rfl,rfl,kL hi,?_⟩
  try simp? only[ha]
  refine z9 ?_
  try simp? only[e1]
  refine z9 ?_
  try simp? only[e2]
  unfold Hv.pv
  try simp? only[true_and]
  exact q
 | many s t=>
  obtain⟨u,hu⟩: ∃u,xZ sh hs s=some (.bag u)/\v=y9 u t % 4294967296:=by
   have hv':(match xZ sh hs s with | some (.bag l)=>some (y9 l t % 4294967296) | _=>none)=some v:=hv
   split at hv' <;> rename_i h
   ·cases hv';exact⟨_,h,rfl⟩
   ·cases hv'
  obtain⟨hu,rfl⟩:=hu;obtain⟨i,hi,ha,hm⟩:=at_ hu;unfold Lf.pv;refine z9 ?_
  try simp? only[true_and]
  refine vX sS (λj x e hx he=> ?_) ?_
  ·obtain⟨s',hs',rfl⟩:=wQ hx
   obtain⟨y,rfl⟩:=sQ he;unfold zW
   try simp? only[true_and]
   exact CP.yes (e':= [_]) hx rfl rfl
  rw[pN sh (f:=sS) (h:=λs=>PV.str s.1) λs=>rfl]
  try simp? only[oA,uX]
  refine⟨_,i,rfl,by rw[List.all_map];exact List.all_eq_true.mpr λ_ _=>rfl,rfl,kL hi,?_⟩
  try simp? only[ha]
  refine z9 ?_
  try simp? only[beq_self_eq_true]
  unfold Hv.pv xK
  try simp? only[gL]
  refine⟨_,kD u,?_⟩;rw[kU (hB u hm)]
  try simp? only[lE]
  exact q
 | long s=>
  obtain⟨u,hu⟩: ∃u,xZ sh hs s=some (.row u)/\v=(u.length:Int):=by
   have hv':(match xZ sh hs s with | some (.row ws)=>some (ws.length:Int) | _=>none)=some v:=hv
   split at hv' <;> rename_i h
   ·cases hv';exact⟨_,h,rfl⟩
   ·cases hv'
  obtain⟨hu,rfl⟩:=hu;obtain⟨i,hi,ha,_⟩:=at_ hu;unfold Lf.pv;refine z9 ?_
  try simp? only[true_and]
  refine vX sS (λj x e hx he=> ?_) ?_
  ·obtain⟨s',hs',rfl⟩:=wQ hx
   obtain⟨y,rfl⟩:=sQ he;unfold zW
   try simp? only[true_and]
   exact CP.yes (e':= [_]) hx rfl rfl
  rw[pN sh (f:=sS) (h:=λs=>PV.str s.1) λs=>rfl]
  try simp? only[oA,uX]
  refine⟨_,i,rfl,by rw[List.all_map];exact List.all_eq_true.mpr λ_ _=>rfl,rfl,kL hi,?_⟩
  try simp? only[ha]
  refine z9 ?_
  try simp? only[e3]
  refine z9 ?_
  try simp? only[beq_self_eq_true]
  unfold Hv.pv
  try simp? only[List.length_map]
  exact q
theorem zbs {f:Addr}{fd:FuncData}(M:Mo K mg)(F:zZ K "_law_value" "_law_value" oQ f fd)(uP:yH K fd ["_law_program","_law_house_here","_law_term_here"] [])(uZ:mg "_law_value" =some (.ref f)): ∀d,zJ P w K mg base zI (d+2) f fd ["_law_program","_law_house_here","_law_term_here"] (zN K (jI d))
 | 0=>⟨λvs H Q E h=>(zhz h).elim,λA outer s H args us vs Q E _ _ _ _ h=>(zhz h).elim⟩
 | d+1=>by
  have IH:zJ P w K mg base zI (d+2) f fd ["_law_program","_law_house_here","_law_term_here"] (zN K (jI d)):=zbs M F uP uZ d;obtain⟨zko,zk4,zcA,zje,zmi⟩:=M._law_leaf;have zi3:zJ P w K mg base zI 1 zko zk4 ["_law_program","_law_house_here","_law_term_here"] (zN K jH):=znc M zcA;have tG:=F;refine xI 0 F jC (λxs st Q h=>by obtain⟨sh,zB,hs,t,rfl,_⟩:=h;rfl) ⟨_,λcdv A outer s H E hr=>have hr1:zX 1 _:=hr.mono (by omega);(zE (yI (yB (yK hr) (zD (zC hr) (qv 2) z7 (λ_ _=>rfl)) zM (zS _)) (zP (y7 (zD (zC hr) (qv 2) z7 (λ_ _=>rfl)))) yL)
   (zE (yI (yB (yK hr) (zD (zC hr) (qv 2) z7 (λ_ _=>rfl)) zM (zS _)) (zE (zY (i:=3) jC.nd rfl (Or.inl rfl) (y6 xH z7 (xT sT (by rfl) M.int sJ (z4 (uC (yK hr) (zL IH hr (by rfl) uZ tG.kp uP (z4 (qv 0) (z4 (qv 1) (z4 (zD (zC hr) (qv 2) z7 (λ_ _=>rfl)) z6)))) z7 (zS _)) z6))))
   (zP (y7 (zL IH hr (by rfl) uZ tG.kp uP (z4 (qv 0) (z4 (qv 1) (z4 (zD (zC hr) (qv 2) (qv 3) (λ_ _=>rfl)) z6))))))) yL)
   (zE (yI (yB (o4 hr) (zD (zC hr) (qv 2) z7 (λ_ _=>rfl)) zM (zS _)) (zP (y7 (zL zi3 hr1 (by rfl) zmi zcA.kp zje (z4 (qv 0) (z4 (qv 1) (z4 (qv 2) z6)))))) yL)
   (zE (zY (i:=4) jC.nd rfl (Or.inl rfl) (zL IH hr (by rfl) uZ tG.kp uP (z4 (qv 0) (z4 (qv 1) (z4 (zD (zC hr) (qv 2) z7 (λ_ _=>rfl)) z6)))))
   (zE (zY (i:=5) jC.nd rfl (Or.inl rfl) (zL IH hr (by rfl) uZ tG.kp uP (z4 (qv 0) (z4 (qv 1) (z4 (zD (zC hr) (qv 2) z7 (λ_ _=>rfl)) z6)))))
   (zE (zY (i:=6) jC.nd rfl (Or.inl rfl) (zoJ (j0 zM (y6 xH (qv 4) (qv 5)) (j0 zM (y6 tO (qv 4) (qv 5)) (j0 zM (y6 tN (qv 4) (qv 5)) (j0 zM (xT sT (by rfl) M.int sJ (z4 (uC mK (qv 4) (qv 5) (zS _)) z6)) (j0 zM (xT sT (by rfl) M.int sJ (z4 (uC (yK hr) (qv 4) (qv 5) (zS _)) z6)) zoS))))) rfl rfl (by simp) (by decide)))
   (zP (y7 (y6 wV (zD (zC hr) (qv 6) (zD (zC hr) (qv 2) z7 (λ_ _=>rfl)) (λ_ _=>rfl)) z7))))))))),λxs st Q h=> ?_⟩
  obtain⟨sh,zB,hs,t,rfl,hB,hok,hrk,q⟩:=h;have n_if_num:(("if" :Str)==("num" :Str))=false:=by decide+kernel
  have n_long_if:(("long" :Str)==("if" :Str))=false:=by decide+kernel
  have n_long_num:(("long" :Str)==("num" :Str))=false:=by decide+kernel
  have n_long_op:(("long" :Str)==("op" :Str))=false:=by decide+kernel
  have n_many_if:(("many" :Str)==("if" :Str))=false:=by decide+kernel
  have n_many_num:(("many" :Str)==("num" :Str))=false:=by decide+kernel
  have n_many_op:(("many" :Str)==("op" :Str))=false:=by decide+kernel
  have n_op_if:(("op" :Str)==("if" :Str))=false:=by decide+kernel
  have n_op_num:(("op" :Str)==("num" :Str))=false:=by decide+kernel
  have n_shelf_if:(("shelf" :Str)==("if" :Str))=false:=by decide+kernel
  have n_shelf_num:(("shelf" :Str)==("num" :Str))=false:=by decide+kernel
  have n_shelf_op:(("shelf" :Str)==("op" :Str))=false:=by decide+kernel
  have hin: ∀l,vP sh hs l->In (yJ sh hs l):=λl ⟨v,h1,h2⟩=>by unfold yJ;rw[h1];exact h2
  cases t with
  | num k=>
   unfold Tm.pv;refine z9 ?_
   try simp? only[beq_self_eq_true]
   exact q
  | lf l=>
   obtain⟨v,hv,hi⟩:=hok;have q':Q (.int v) st:=by
    have:(Tm.lf l).val (yJ sh hs)=v:=by show(l.val sh hs).getD 0=v;rw[hv];rfl
    rw[this]at q;exact q
   cases l with
   | shelf s=>
    unfold Tm.pv Lf.pv;refine z9 ?_
    try simp? only[n_shelf_num]
    refine z9 ?_
    try simp? only[n_shelf_if]
    refine z9 ?_
    try simp? only[n_shelf_op]
    exact⟨sh,zB,hs,.shelf s,v,rfl,hB,hv,uS rfl q'⟩
   | many s t=>
    unfold Tm.pv Lf.pv;refine z9 ?_
    try simp? only[n_many_num]
    refine z9 ?_
    try simp? only[n_many_if]
    refine z9 ?_
    try simp? only[n_many_op]
    exact⟨sh,zB,hs,.many s t,v,rfl,hB,hv,uS rfl q'⟩
   | long s=>
    unfold Tm.pv Lf.pv;refine z9 ?_
    try simp? only[n_long_num]
    refine z9 ?_
    try simp? only[n_long_if]
    refine z9 ?_
    try simp? only[n_long_op]
    exact⟨sh,zB,hs,.long s,v,rfl,hB,hv,uS rfl q'⟩
  | ite t1 t2 t3=>
   obtain⟨o1,o2,o3⟩:=hok;have hr:max t1.rank (max t2.rank t3.rank)+1 < d+1:=hrk;have qq:Q (.int (if t1.val (yJ sh hs)=0 then t3.val (yJ sh hs)else t2.val (yJ sh hs))) st:=q;unfold Tm.pv;refine z9 ?_
   try simp? only[n_if_num]
   refine z9 ?_
   try simp? only[beq_self_eq_true]
   refine z9 ?_
   try simp? only[true_and]
   refine⟨sh,zB,hs,t1,rfl,hB,o1,by omega,?_⟩;by_cases hz:t1.val (yJ sh hs)=0
   ·rw[if_pos hz]at qq
    rw[hz]
    try simp? only[beq_self_eq_true]
    exact⟨sh,zB,hs,t3,rfl,hB,o3,by omega,uS rfl qq⟩
   ·rw[if_neg hz]at qq
    have nz:(t1.val (yJ sh hs)==0)=false:=by simpa using hz
    try simp? only[nz]
    exact⟨sh,zB,hs,t2,rfl,hB,o2,by omega,uS rfl qq⟩
  | op s t1 t2=>
   obtain⟨hs',o1,o2⟩:=hok;have hr:max t1.rank t2.rank+1 < d+1:=hrk;have i1:=sB hin o1;have i2:=sB hin o2;unfold Tm.pv;refine z9 ?_
   try simp? only[n_op_num]
   refine z9 ?_
   try simp? only[n_op_if]
   refine z9 ?_
   try simp? only[beq_self_eq_true]
   refine z9 ?_
   try simp? only[true_and]
   refine⟨sh,zB,hs,t1,rfl,hB,o1,by omega,?_⟩;refine z9 ?_
   try simp? only[true_and]
   refine⟨sh,zB,hs,t2,rfl,hB,o2,by omega,?_⟩;have qq:Q (.int (tQ s (t1.val (yJ sh hs)) (t2.val (yJ sh hs)))) st:=q;generalize t1.val (yJ sh hs)=x at *;generalize t2.val (yJ sh hs)=z at *;obtain⟨x0,x1⟩:=i1;obtain⟨z0,z1⟩:=i2;refine z9 ?_
   try simp? only[zhN,fN]
   refine⟨.inl ⟨by omega,by omega⟩,[(.inr "+",.int (x+z)),(.inr "-",.int (x - z)),(.inr "*",.int (x * z)),(.inr "<",.int (if decide (x < z)=true then 1 else 0)),(.inr "=",.int (if(x==z)=true then 1 else 0))],rfl,by simp,rfl,?_⟩;unfold tQ at qq;rcases hs' with rfl | rfl | rfl | rfl | rfl
   ·rw[if_pos rfl]at qq
    try simp? only[znu]
    exact qq
   ·rw[if_neg (by decide+kernel),if_pos rfl]at qq
    try simp? only[znv]
    exact qq
   ·rw[if_neg (by decide+kernel),if_neg (by decide+kernel),if_pos rfl]at qq
    try simp? only[znw]
    exact qq
   ·rw[if_neg (by decide+kernel),if_neg (by decide+kernel),if_neg (by decide+kernel),if_pos rfl]at qq
    try simp? only[znx]
    by_cases hl:x < z
    ·rw[if_pos hl]at qq;rw[if_pos (decide_eq_true hl)];exact qq
    ·rw[if_neg hl]at qq;rw[if_neg (by simpa using hl)];exact qq
   ·rw[if_neg (by decide+kernel),if_neg (by decide+kernel),if_neg (by decide+kernel),if_neg (by decide+kernel)]at qq
    try simp? only[zny]
    by_cases hl:x=z
    ·rw[if_pos hl]at qq;rw[if_pos (by simpa using hl)];exact qq
    ·rw[if_neg hl]at qq;rw[if_neg (by simpa using hl)];exact qq
theorem nd7:(["_law_numbers","_law_word"]:List Str).Nodup:=by decide+kernel
theorem zmX {f:Addr}{fd:FuncData}(M:Mo K mg)(F:zZ K "_law_bag" "_law_bag" qO f fd):zJ P w K mg base zI 1 f fd ["_law_numbers"] (zN K zhl):=by
 refine xI 0 F zpA (λxs st Q h=>by obtain⟨o,d,rfl,_⟩:=h;rfl) ⟨_,λcdv A outer s H E hr=>(zP (y7 (xT (tP rfl) (by rfl) M.tuple uQ (z4 (uD (own:= ["_law_word"]) (vM (fsc:=zK qO) (N:= ["_law_numbers"]) (N':= ["_law_numbers"]) rfl rfl (by decide+kernel)) rfl (vI (zoP rfl (by rfl) M.sorted (by rfl) M.set (qv 0))) (λC s H fp pins=>(yZ (i:=1) nd7 rfl (Or.inl rfl))) (λC s H fp pins=>gI (yB (o4 hr) (zD (zC hr) (qv 0) (qv 1) (λ_ _=>rfl)) z7 (zS _))) (λC s H fp pins=>(yO (z4 (qv 1) (z4 (zD (zC hr) (qv 0) (qv 1) (λ_ _=>rfl)) z6))))) z6)))),λxs st Q h=> ?_⟩;obtain⟨o,d,rfl,ho,hn,hl,q⟩:=h
 try simp? only[zid]
 refine⟨d.map λq=>(q.1,PV.int q.2),?_,?_,by rw[List.length_map];exact hl,λks hp hs=> ?_⟩
 ·rw[ho]
  show some (xE d)=_;unfold xE;rw[List.map_map];rfl
 ·rw[List.map_map];exact hn
 have hp':ks.Perm (d.map (·.1)):=by rw[List.map_map]at hp;exact hp
 obtain⟨hB,hV,hL⟩:=zp_ hn hp' hs;refine vX (kB d) (λj x e hx he=> ?_) ?_
 ·obtain⟨w,hw,rfl⟩:=wQ hx
  obtain⟨y,rfl⟩:=sQ he;have hr:=zik (hp'.mem_iff.mp (List.mem_iff_getElem?.mpr ⟨j,hw⟩))
  try simp? only[ho,hr]
  by_cases h0:y9 d w=0
  ·have hb:(!(y9 d w==0))=false:=by simpa using h0
   try simp? only[hb]
   exact CP.no (e':= [_]) hx (zfq h0) rfl
  ·have hb:(!(y9 d w==0))=true:=by simpa using h0
   try simp? only[hb,ho,hr]
   exact CP.yes (e':= [_]) hx (zfr h0) rfl
 rw[zl8]
 try simp? only[true_and]
 exact q (oR d ks) hB hV hL
theorem zne {f:Addr}{fd:FuncData}(M:Mo K mg)(F:zZ K "_law_made" "_law_made" oJ f fd):zJ P w K mg base zI 10 f fd ["_law_program","_law_house_here","_law_deed_here","_law_at"] (zN K zhn):=by
 obtain⟨zaM,zaR,tG,uP,uZ⟩:=M._law_value;have jX:zJ P w K mg base zI 9 zaM zaR ["_law_program","_law_house_here","_law_term_here"] (zN K (jI 7)):=zbs M tG uP uZ 7;obtain⟨zkj,zkz,zc7,zja,zme⟩:=M._law_bag;have ziz:zJ P w K mg base zI 1 zkj zkz ["_law_numbers"] (zN K zhl):=zmX M zc7;refine xI 0 F mV (λxs st Q h=>by obtain⟨sh,zB,hs,d,i,rfl,_⟩:=h;rfl) ⟨_,λcdv A outer s H E hr=>have hr1:zX 1 _:=hr.mono (by decide);have hr9:zX 9 _:=hr.mono (by decide);(zE (zY (i:=4) mV.nd rfl (Or.inl rfl) (zD (zC hr) (qv 1) (qv 3) (λ_ _=>rfl)))
   (zE (yI (PW.pt (gK (yB (yK hr) (zD (zC hr) (qv 2) z7 (λ_ _=>rfl)) zM (zS _)) (zbA (yB (yK hr) (zD (zC hr) (qv 2) z7 (λ_ _=>rfl)) zM (zS _))))) (zE (zY (i:=5) mV.nd rfl (Or.inl rfl) (xT (zfL rfl) (by rfl) M.dict iI (z4 (qv 4) z6)))
   (zE (qK (y6 xH (wY PySem.F.plainAttrs_dict PySem.F.slot_dict_get PySem.F.type_dict_get (by decide) (g9 hr) (qv 5) (z4 (zD (zC hr) (qv 2) z7 (λ_ _=>rfl)) (z4 z7 z6))) (zD (zC hr) (vR (z4 (zb9 zbo z7) (z4 z7 z6))) (xT sT (by rfl) M.int sJ (z4 (uC (yK hr) (zD (zC hr) (qv 2) z7 (λ_ _=>rfl)) zM (zS _)) z6)) (λ_ _=>rfl))) (mM hr (qv 5) (zD (zC hr) (qv 2) z7 (λ_ _=>rfl))))
   (zP (y7 (zL ziz hr1 (by rfl) zme zc7.kp zja (z4 (qv 5) z6)))))) yL)
   (zE (zY (i:=6) mV.nd rfl (Or.inl rfl) (zL jX hr9 (by rfl) uZ tG.kp uP (z4 (qv 0) (z4 (qv 1) (z4 (zD (zC hr) (qv 2) z7 (λ_ _=>rfl)) z6)))))
   (zE (zY (i:=7) mV.nd rfl (Or.inl rfl) (zD (zC hr) (zD (zC hr) (zD (zC hr) (qv 0) z7 (λ_ _=>rfl)) (qv 3) (λ_ _=>rfl)) z7 (λ_ _=>rfl)))
   (zE (yI (yB (yK hr) (zD (zC hr) (qv 7) z7 (λ_ _=>rfl)) zM (zS _)) (zP (y7 (y6 wV (qv 6) (zD (zC hr) (qv 7) z7 (λ_ _=>rfl))))) yL)
   (zE (yI (yB (yK hr) (zD (zC hr) (qv 2) z7 (λ_ _=>rfl)) zM (zS _)) (zP (y7 (qv 6))) yL)
   (zE (yI (yB (yK hr) (zD (zC hr) (qv 2) z7 (λ_ _=>rfl)) zM (zS _)) (zP (y7 (y6 wV (y6 xH (qv 4) (qv 6)) z7))) yL)
   (zE (zY (i:=8) mV.nd rfl (Or.inl rfl) (xT (zfO rfl) (by rfl) M.list zdn (z4 (qv 4) z6)))
   (zE (yI (yB (yK hr) (zD (zC hr) (qv 2) z7 (λ_ _=>rfl)) zM (zS _)) (zP (rL (wY PySem.F.plainAttrs_list PySem.F.slot_list_insert PySem.F.type_list_insert (by decide) zmK (qv 8) (z4 (xL (zfQ rfl) (by rfl) M.min boot_min (z4 (qv 6) (z4 (xL wG (by rfl) M.len PySem.boot_len (z4 (qv 8) z6)) z6))) (z4 (zD (zC hr) (qv 2) z7 (λ_ _=>rfl)) z6))))) (zP (yI (yB mK (qv 6) (xL wG (by rfl) M.len PySem.boot_len (z4 (qv 8) z6)) (zS _)) (zP (rL (wY PySem.F.plainAttrs_list PySem.F.slot_list_pop PySem.F.type_list_pop (by decide) zmQ (qv 8) (z4 (qv 6) z6)))) yL)))
   (zP (y7 (xT (tP rfl) (by rfl) M.tuple uQ (z4 (qv 8) z6))))))))))))),λxs st Q h=> ?_⟩
 obtain⟨sh,zB,hs,d,i,rfl,hB,htm,hkd,q⟩:=h;have thou: ∀{n:Nat},n<=1000->n<=sizeLine:=λh=>Nat.le_trans h (by decide);have hv: ∀l,vP sh hs l->In (yJ sh hs l):=λl ⟨v,e1,e2⟩=>by unfold yJ;rw[e1];exact e2
 have n_out_in:(("out" :Str)==("in" :Str))=false:=by decide+kernel
 have n_set_in:(("set" :Str)==("in" :Str))=false:=by decide+kernel
 have n_set_out:(("set" :Str)==("out" :Str))=false:=by decide+kernel
 have n_more_in:(("more" :Str)==("in" :Str))=false:=by decide+kernel
 have n_more_out:(("more" :Str)==("out" :Str))=false:=by decide+kernel
 have n_more_set:(("more" :Str)==("set" :Str))=false:=by decide+kernel
 have n_lay_in:(("lay" :Str)==("in" :Str))=false:=by decide+kernel
 have n_lay_out:(("lay" :Str)==("out" :Str))=false:=by decide+kernel
 have n_lay_set:(("lay" :Str)==("set" :Str))=false:=by decide+kernel
 have n_lay_more:(("lay" :Str)==("more" :Str))=false:=by decide+kernel
 have n_drop_in:(("drop" :Str)==("in" :Str))=false:=by decide+kernel
 have n_drop_out:(("drop" :Str)==("out" :Str))=false:=by decide+kernel
 have n_drop_set:(("drop" :Str)==("set" :Str))=false:=by decide+kernel
 have n_drop_more:(("drop" :Str)==("more" :Str))=false:=by decide+kernel
 have n_drop_lay:(("drop" :Str)==("lay" :Str))=false:=by decide+kernel
 cases d with
 | tell x=>exact hkd.elim
 | bag up s t=>
  obtain⟨l,e,nd,lt⟩:=hkd;have ev:atI (hs.map Hv.pv) (i:Int)=some (xK l):=tL e;cases up with
  | true=>
   have ea:wN l [(t,1)]=wE l t (y9 l t+1):=rfl;have hna:((wN l [(t,1)]).map (·.1)).Nodup:=iA nd;have hln:=lX [(t,1)] l;rw[List.length_singleton]at hln;unfold Dd.pv;refine z9 ?_
   try simp? only[ev]
   refine z9 ?_
   try simp? only[beq_self_eq_true]
   refine z9 ?_;unfold xK
   try simp? only[j3]
   refine⟨_,kD l,?_⟩;rw[kU nd]
   try simp? only[true_and]
   refine z9 ?_
   try simp? only[lE,zbb,beq_self_eq_true]
   refine⟨Nat.lt_of_lt_of_le (m:=1000) (by omega) (by decide),st.length,wN l [(t,1)],rfl,by rw[gH nd,ea];exact sR,hna,by omega,λR h1 h2 h3=> ?_⟩;show Q (xK R) ((st++ [_]).take st.length);rw[List.take_append_of_le_length (Nat.le_refl _),List.take_length];exact q (.bag R) ⟨l,R,e,h1,h2,Nat.le_trans h3 hln,rfl⟩
  | false=>
   have ea:wN l [(t,-1)]=wE l t (y9 l t+ -1):=rfl;have hna:((wN l [(t,-1)]).map (·.1)).Nodup:=iA nd;have hln:=lX [(t,-1)] l;rw[List.length_singleton]at hln;unfold Dd.pv;refine z9 ?_
   try simp? only[ev]
   refine z9 ?_
   try simp? only[n_out_in,beq_self_eq_true]
   refine z9 ?_;unfold xK
   try simp? only[j3]
   refine⟨_,kD l,?_⟩;rw[kU nd]
   try simp? only[true_and]
   refine z9 ?_
   try simp? only[lE,zbb,n_out_in,beq_self_eq_true]
   refine⟨Nat.lt_of_lt_of_le (m:=1000) (by omega) (by decide),st.length,wN l [(t,-1)],rfl,by rw[gH nd,ea];exact sR,hna,by omega,λR h1 h2 h3=> ?_⟩;show Q (xK R) ((st++ [_]).take st.length);rw[List.take_append_of_le_length (Nat.le_refl _),List.take_length];exact q (.bag R) ⟨l,R,e,h1,h2,Nat.le_trans h3 hln,rfl⟩
 | set s x=>
  obtain⟨h0,n,kd,r,b,e,es,hm⟩:=hkd;have ev:atI (hs.map Hv.pv) (i:Int)=some h0.pv:=tL e;have ok:=htm x rfl;have es':atI (sh.map zW) (i:Int)=some (.tup [.str n,.tup (.str kd::r),b]):=mX es;unfold Dd.pv;refine z9 ?_
  try simp? only[ev]
  refine z9 ?_
  try simp? only[n_set_in,n_set_out]
  refine z9 ?_
  try simp? only[true_and]
  refine⟨sh,zB,hs,x,rfl,hB,ok.1,ok.2,?_⟩
  try simp? only[true_and]
  refine z9 ?_
  try simp? only[es']
  refine z9 ?_;rcases hm with⟨hk,rfl⟩ | ⟨rfl,n',t',rfl,n2,n6⟩
  ·have hne:(kd==("told" :Str))=false:=by rcases hk with rfl | rfl | rfl | rfl <;> decide+kernel
   try simp? only[hne]
   refine z9 ?_
   try simp? only[beq_self_eq_true]
   exact q (.int _) ⟨n,kd,[],b,es,rfl⟩
  ·try simp? only[beq_self_eq_true]
   exact⟨by omega,q (.int _) ⟨n,"told",_,b,es,rfl⟩⟩
 | more s x=>
  obtain⟨u,n,kd,r,b,e,es,hm⟩:=hkd;have hne:(kd==("told" :Str))=false:=by simpa using hm
  have ev:atI (hs.map Hv.pv) (i:Int)=some (.int u):=tL e;have ok:=htm x rfl;have es':atI (sh.map zW) (i:Int)=some (.tup [.str n,.tup (.str kd::r),b]):=mX es;unfold Dd.pv;refine z9 ?_
  try simp? only[ev]
  refine z9 ?_
  try simp? only[n_more_in,n_more_out]
  refine z9 ?_
  try simp? only[true_and]
  refine⟨sh,zB,hs,x,rfl,hB,ok.1,ok.2,?_⟩
  try simp? only[true_and]
  refine z9 ?_
  try simp? only[es']
  refine z9 ?_
  try simp? only[hne]
  refine z9 ?_
  try simp? only[n_more_set]
  refine z9 ?_
  try simp? only[beq_self_eq_true]
  exact q (.int _) ⟨u,e,rfl⟩
 | lay s x t=>
  obtain⟨ws,n,kd,r,b,e,wl,es,hm⟩:=hkd;have hne:(kd==("told" :Str))=false:=by simpa using hm
  have ev:atI (hs.map Hv.pv) (i:Int)=some (.tup (ws.map PV.str)):=tL e;have ok:=htm x rfl;have es':atI (sh.map zW) (i:Int)=some (.tup [.str n,.tup (.str kd::r),b]):=mX es;unfold Dd.pv;refine z9 ?_
  try simp? only[ev]
  refine z9 ?_
  try simp? only[n_lay_in,n_lay_out]
  refine z9 ?_
  try simp? only[true_and]
  refine⟨sh,zB,hs,x,rfl,hB,ok.1,ok.2,?_⟩
  try simp? only[true_and]
  refine z9 ?_
  try simp? only[es']
  refine z9 ?_
  try simp? only[hne]
  refine z9 ?_
  try simp? only[n_lay_set]
  refine z9 ?_
  try simp? only[n_lay_more]
  refine z9 ?_
  try simp? only[true_and]
  obtain⟨z0,_⟩:=sB hv ok.1;obtain⟨k,hk⟩: ∃k:Nat,x.val (yJ sh hs)=(k:Int):=⟨(x.val (yJ sh hs)).toNat,by omega⟩;have hk2:(tv sh hs x).toNat=k:=by unfold tv;omega
  rw[hk];refine z9 ?_
  try simp? only[beq_self_eq_true,List.length_map]
  obtain⟨m,hm⟩: ∃m:Nat,m=min k ws.length:=⟨_,rfl⟩;have em:(if(ws.length:Int) < (k:Int)then(ws.length:Int)else(k:Int))=(m:Int):=by split <;> omega
  rw[em];refine⟨st.length,m,.str t,ws.map PV.str,rfl,rfl,sR,rfl,by rw[List.length_map];omega,Nat.lt_of_lt_of_le (m:=1000) (by rw[List.length_map];omega) (by decide),?_⟩
  try simp? only[true_and]
  have q1:=q (.row (ws.take k++t::ws.drop k)) ⟨ws,e,by rw[hk2]⟩;have e1:List.take m (ws.map PV.str)++PV.str t::List.drop m (ws.map PV.str)=List.map PV.str (ws.take k++t::ws.drop k):=by
   rcases Nat.le_total k ws.length with hl | hl
   ·have:m=k:=by omega
    subst this;simp
   ·have:m=ws.length:=by omega
    rw[this,<- List.map_take,<- List.map_drop,List.take_length,List.drop_length,List.take_of_length_le hl,List.drop_of_length_le hl];simp
  rw[e1];exact q1
 | drop s x=>
  obtain⟨ws,n,kd,r,b,e,wl,es,hm⟩:=hkd;have hne:(kd==("told" :Str))=false:=by simpa using hm
  have ev:atI (hs.map Hv.pv) (i:Int)=some (.tup (ws.map PV.str)):=tL e;have ok:=htm x rfl;have es':atI (sh.map zW) (i:Int)=some (.tup [.str n,.tup (.str kd::r),b]):=mX es;unfold Dd.pv;refine z9 ?_
  try simp? only[ev]
  refine z9 ?_
  try simp? only[n_drop_in,n_drop_out]
  refine z9 ?_
  try simp? only[true_and]
  refine⟨sh,zB,hs,x,rfl,hB,ok.1,ok.2,?_⟩
  try simp? only[true_and]
  refine z9 ?_
  try simp? only[es']
  refine z9 ?_
  try simp? only[hne]
  refine z9 ?_
  try simp? only[n_drop_set]
  refine z9 ?_
  try simp? only[n_drop_more]
  refine z9 ?_
  try simp? only[true_and]
  obtain⟨z0,_⟩:=sB hv ok.1;obtain⟨k,hk⟩: ∃k:Nat,x.val (yJ sh hs)=(k:Int):=⟨(x.val (yJ sh hs)).toNat,by omega⟩;have hk2:(tv sh hs x).toNat=k:=by unfold tv;omega
  rw[hk];refine z9 ?_
  try simp? only[n_drop_lay,List.length_map]
  have q1:=q (.row (ws.take k++ws.drop (k+1))) ⟨ws,e,by rw[hk2]⟩;by_cases hlt:(k:Int) < (ws.length:Int)
  ·rw[if_pos (decide_eq_true hlt)]
   have hkl:k < ws.length:=by omega
   refine⟨st.length,k,.str ws[k],ws.map PV.str,rfl,rfl,sR,by rw[List.getElem?_map,List.getElem?_eq_getElem hkl];rfl,?_⟩
   try simp? only[true_and]
   have e1:(ws.map PV.str).eraseIdx k=List.map PV.str (ws.take k++ws.drop (k+1)):=by rw[List.eraseIdx_eq_take_drop_succ];simp
   rw[e1];exact q1
  ·rw[if_neg (by simpa using hlt)]
   have e1:ws.take k++ws.drop (k+1)=ws:=by rw[List.take_of_length_le (by omega),List.drop_of_length_le (by omega),List.append_nil]
   rw[e1]at q1;exact q1
theorem nd8:(["_law_program","_law_house_here","_law_row_here","_law_at","_law_values","_law_shelf"]:List Str).Nodup:=by decide+kernel
theorem zna {f:Addr}{fd:FuncData}(M:Mo K mg)(F:zZ K "_law_done" "_law_done" qQ f fd):zJ P w K mg base zI 11 f fd ["_law_program","_law_house_here","_law_row_here"] (zN K zhm):=by
 obtain⟨zaM,zaR,tG,uP,uZ⟩:=M._law_value;have jX:zJ P w K mg base zI 9 zaM zaR ["_law_program","_law_house_here","_law_term_here"] (zN K (jI 7)):=zbs M tG uP uZ 7;obtain⟨zkq,zk6,zcC,zjg,zmk⟩:=M._law_made;have zi5:zJ P w K mg base zI 10 zkq zk6 ["_law_program","_law_house_here","_law_deed_here","_law_at"] (zN K zhn):=zne M zcC;refine xI 0 F gX (λxs st Q h=>by obtain⟨sh,zB,hs,r,rfl,_⟩:=h;rfl) ⟨_,λcdv A outer s H E hr=>have hr9:zX 9 _:=hr.mono (by decide);have hr10:zX 10 _:=hr.mono (by decide);(zE (yI (yB (yK hr) (zD (zC hr) (qv 2) z7 (λ_ _=>rfl)) zM (zS _)) (zE (yI (yB (yK hr) (zL jX hr9 (by rfl) uZ tG.kp uP (z4 (qv 0) (z4 (qv 1) (z4 (zD (zC hr) (qv 2) z7 (λ_ _=>rfl)) z6)))) z7 (zS _)) (zP (y7 (yO (z4 (qv 1) (z4 tX (z4 tX z6)))))) yL)
   (zP (zY (i:=2) gX.nd rfl (Or.inl rfl) (zD (zC hr) (qv 2) z7 (λ_ _=>rfl))))) yL)
   (zE (yI (yB (yK hr) (zD (zC hr) (qv 2) z7 (λ_ _=>rfl)) zM (zS _)) (zP (y7 (yO (z4 (qv 1) (z4 (zL jX hr9 (by rfl) uZ tG.kp uP (z4 (qv 0) (z4 (qv 1) (z4 (zD (zC hr) (qv 2) z7 (λ_ _=>rfl)) z6)))) (z4 tX z6)))))) yL)
   (zE (zY (i:=3) gX.nd rfl (Or.inl rfl) (wY PySem.F.plainAttrs_list PySem.F.slot_list_index PySem.F.type_list_index (by decide) zbn (uD (own:= ["_law_shelf"]) (vM (fsc:=zK qQ) (N:= ["_law_program","_law_house_here","_law_row_here","_law_at","_law_values"]) (N':= ["_law_program","_law_house_here","_law_row_here","_law_at","_law_values"]) rfl rfl (by decide+kernel)) rfl (vI (zD (zC hr) (qv 0) z7 (λ_ _=>rfl))) (λC s H fp pins=>(yZ (i:=5) nd8 rfl (Or.inl rfl))) (λC s H fp pins=>sW) (λC s H fp pins=>(zD (zC hr) (qv 5) z7 (λ_ _=>rfl)))) (z4 (zD (zC hr) (qv 2) z7 (λ_ _=>rfl)) z6)))
   (zE (zY (i:=4) gX.nd rfl (Or.inl rfl) (xT (zfO rfl) (by rfl) M.list zdn (z4 (qv 1) z6)))
   (zE (qK (zL zi5 hr10 (by rfl) zmk zcC.kp zjg (z4 (qv 0) (z4 (qv 1) (z4 (qv 2) (z4 (qv 3) z6))))) (mM hr (qv 4) (qv 3)))
   (zP (y7 (yO (z4 (xT (tP rfl) (by rfl) M.tuple uQ (z4 (qv 4) z6)) (z4 tX (z4 (zD (zC hr) (qv 2) z7 (λ_ _=>rfl)) z6))))))))))),λxs st Q h=> ?_⟩
 obtain⟨sh,zB,hs,r,rfl,hB,hl,hsl,hok,q⟩:=h;have thou: ∀{n:Nat},n<=1000->n<=sizeLine:=λh=>Nat.le_trans h (by decide);have hv: ∀l,vP sh hs l->In (yJ sh hs l):=λl ⟨v,e1,e2⟩=>by unfold yJ;rw[e1];exact e2
 have n_tw:(("tell" :Str)==("when" :Str))=false:=by decide+kernel
 obtain⟨g,dd⟩:=r;refine oX (λenv s=>env= [some (.tup (.tup (sh.map zW)::zB)),some (.tup (hs.map Hv.pv)),some dd.pv,none,none]/\s=st/\∀x,g=some x->tv sh hs x≠0) (λN hN=> ?_) ?_
 ·cases g with
  | none=>
   have em:Rw.pv (none,dd)=dd.pv:=rfl;rw[em];obtain⟨k,more,ep,kw⟩: ∃(k:Str) (more:List PV),dd.pv= .tup (.str k::more)/\(k==("when" :Str))=false:=by
    cases hn:dd.nm with
    | none=>cases dd with
     | tell x=>exact⟨_,_,rfl,n_tw⟩
     | _=>cases hn
    | some s=>obtain⟨k,more,ep,kw,_⟩:=dd.form hn;exact⟨k,_,ep,kw⟩
   rw[ep]
   try simp? only[kw]
   exact hN _ _ ⟨by rw[ep],rfl,λx hx=>by cases hx⟩
  | some x=>
   have ok:=hok.1 x rfl;unfold Rw.pv
   try simp? only[beq_self_eq_true]
   refine⟨sh,zB,hs,x,rfl,hB,ok.1,ok.2,?_⟩;by_cases hz:x.val (yJ sh hs)=0
   ·rw[hz]
    try simp? only[beq_self_eq_true]
    exact q hs none none (.inl ⟨x,rfl,hz,rfl,rfl,rfl⟩)
   ·have hb:(x.val (yJ sh hs)==0)=false:=by simpa using hz
    try simp? only[hb]
    exact hN _ _ ⟨rfl,rfl,λy hy=>by cases hy;exact hz⟩
 ·rintro env s0 ⟨rfl,rfl,hg⟩
  have qd: ∀hs' o nm,Due sh hs dd hs' o nm->Q (wT hs' o nm) s0:=λhs' o nm hD=>q hs' o nm (.inr ⟨hg,hD⟩);refine z9 ?_;cases hn:dd.nm with
  | none=>
   cases dd with
   | tell x=>
    have ok:=hok.2.1 x rfl;unfold Dd.pv
    try simp? only[beq_self_eq_true]
    refine⟨sh,zB,hs,x,rfl,hB,ok.1,ok.2,?_⟩
    try simp? only[true_and]
    exact qd hs (some _) none (.inl ⟨x,rfl,rfl,rfl,rfl⟩)
   | _=>cases hn
  | some s=>
   obtain⟨i,hi,hil,hkd⟩:=hok.2.2 s hn;obtain⟨k,more,ep,kw,kt⟩:=dd.form hn;have e0: ∀{o:PO},(s0++ [o])[s0.length]?=some o:=λ{o} =>sR;rw[ep]
   try simp? only[kt]
   refine z9 ?_
   try simp? only[true_and]
   refine vX sS (λj x e hx he=> ?_) ?_
   ·obtain⟨s',hs',rfl⟩:=wQ hx
    obtain⟨y,rfl⟩:=sQ he;unfold zW
    try simp? only[true_and]
    exact CP.yes (e':= [_]) hx rfl rfl
   rw[pN sh (f:=sS) (h:=λs=>PV.str s.1) λs=>rfl]
   try simp? only[oA,uX]
   refine⟨_,i,rfl,?_,rfl,kL hi,?_⟩
   ·rw[List.all_map];exact List.all_eq_true.mpr λ_ _=>rfl
   try simp? only[true_and]
   refine z9 ?_
   try simp? only[true_and]
   refine z9 ?_
   try simp? only[true_and]
   refine⟨sh,zB,hs,dd,i,by rw[ep],hB,hok.2.1,hkd,λh' hM=> ?_⟩;have hix:wD hs.length (i:Int)=some i:=zfm hil
   try simp? only[e0]
   refine⟨pR h',?_⟩;rw[List.length_map,hix];have q1:=qd (hs.set i h') none (some s) (.inr ⟨i,h',s,hn,hi,hM,rfl,rfl,rfl⟩);unfold wT at q1;rw[List.map_set]at q1;exact q1
theorem nd9:(["_law_value_here","_law_one"]:List Str).Nodup:=by decide+kernel
theorem zfU {f:Addr}{fd:FuncData}(M:Mo K mg)(F:zZ K "_law_plain" "_law_plain" qT f fd)(kC:yH K fd ["_law_value_here"] [])(kS:mg "_law_plain" =some (.ref f)): ∀d,zJ P w K mg base zI (d+1) f fd ["_law_value_here"] (zN K (fD d))
 | 0=>⟨λvs H Q E h=>(zhu h).elim,λA outer s H args us vs Q E _ _ _ _ h=>(zhu h).elim⟩
 | d+1=>by
  have IH:zJ P w K mg base zI (d+1) f fd ["_law_value_here"] (zN K (fD d)):=zfU M F kC kS d;have jS:=F;refine xI 0 F zpB (λxs st Q h=>by obtain⟨x,rfl,_⟩:=h;rfl) ⟨_,λcdv A outer s H E hr=>(zE (yI (zb_ (xL zmM (by rfl) M.isinstance boot_isinstance (z4 (qv 0) (z4 (zg7 (by rfl) M.tuple uQ) z6)))) (zP (y7 (xL (zfJ rfl) (by rfl) M.all boot_all (z4 (uD (own:= ["_law_one"]) (vM (fsc:=zK qT) (N:= ["_law_value_here"]) (N':= ["_law_value_here"]) rfl rfl (by decide+kernel)) rfl (vI (qv 0)) (λC s H fp pins=>(yZ (i:=1) nd9 rfl (Or.inl rfl))) (λC s H fp pins=>sW) (λC s H fp pins=>(zL IH hr (by rfl) kS jS.kp kC (z4 (qv 1) z6)))) z6)))) yL)
   (zP (y7 (zoM (uC zmL (qv 0) tX (zS _)) (zb8 (zg5 (zoK (by rfl) M.isinstance (by rfl) M.int (by rfl) M.str (qv 0)) (zb8 (zoL (xL zfN (by rfl) M.isinstance boot_isinstance (z4 (qv 0) (z4 (zg7 (by rfl) M.bool zjp) z6))))))))))),λxs st Q h=> ?_⟩
  obtain⟨x,rfl,hp,hd,q⟩:=h;cases x with
  | non=>
   refine z9 ?_
   try simp? only[true_and]
   refine .inr ⟨rfl,?_⟩
   try simp? only[true_and]
   exact q
  | int n=>
   refine z9 ?_
   try simp? only[true_and]
   refine .inl ?_
   try simp? only[true_and]
   refine⟨.inl ⟨n,rfl⟩,?_⟩
   try simp? only[true_and]
   exact q
  | str z=>
   refine z9 ?_
   try simp? only[true_and]
   refine .inl ?_
   try simp? only[true_and]
   refine⟨.inr ⟨z,rfl⟩,?_⟩
   try simp? only[true_and]
   exact q
  | tup xs=>
   refine z9 ?_
   try simp? only[true_and]
   refine .inl ?_
   try simp? only[true_and]
   have hp':plainPs xs=true:=by unfold wW at hp;exact hp
   have hd':dpts xs+1 < d+1:=by unfold zH at hd;exact hd
   refine vX (λ_=>some (PV.bl true)) (λj x e hx he=> ?_) ?_
   ·obtain⟨y,rfl⟩:=sQ he
    have:=iP hx
    try simp? only[true_and]
    refine⟨x,rfl,zgu hp' hx,by omega,?_⟩
    try simp? only[true_and]
    exact CP.yes (e':= [_]) hx rfl rfl
   ·have e1:xs.filterMap (λ_=>some (PV.bl true))=(xs.map λ_=>true).map PV.bl:=by
     rw[List.map_map];clear hp hp' hd hd' q IH
     induction xs with
     | nil=>rfl
     | cons x f ih=>simpa using ih
    rw[e1];refine⟨xs.map λ_=>true,rfl,?_⟩;have e2:(xs.map λ_=>true).all id=true:=by simp
    try simp? only[e2]
    exact q
  | _=>cases hp
theorem zf9:(["_law_box_here","_law_program","_law_things","_law_found","_law_ks","_law_manner_here","_law_begin_here","_law_value_here","_law_word","_law_many"]:List Str).Nodup:=by decide+kernel
theorem znb {f:Addr}{fd:FuncData}(M:Mo K mg)(F:zZ K "_law_house" "_law_house" qR f fd):zJ P w K mg base zI 4 f fd ["_law_box_here","_law_program","_law_things"] (zN K zhk):=by
 obtain⟨w5,w6,yA,yF,yG⟩:=M._law_take;have yE:zJ P w K mg base zI 1 w5 w6 ["_law_box_here","_law_many"] (zN K uF):=t5 M yA;obtain⟨zaJ,zaO,lH,eS,zbh⟩:=M._law_begin;have fX:zJ P w K mg base zI 3 zaJ zaO ["_law_box_here","_law_manner_here","_law_things"] (zN K zcf):=zfS M lH;refine xI 0 F oU (λxs st Q h=>by obtain⟨i,sh,zB,ws,a,b,rfl,_⟩:=h;rfl) ⟨_,λcdv A outer s H E hr=>have hr1:zX 1 _:=hr.mono (by decide);have hr3:zX 3 _:=hr.mono (by decide);(zE (zY (i:=3) oU.nd rfl (Or.inl rfl) (o7 z6))
   (zE (o8 PassesOwn.never rfl (vI (zD (zC hr) (qv 1) z7 (λ_ _=>rfl))) (rG (n:=3) rfl (wF (yZ (i:=4) oU.nd rfl (Or.inl rfl)) (wF (yZ (i:=5) oU.nd rfl (Or.inl rfl)) (wF (yZ (i:=6) oU.nd rfl (Or.inl rfl)) rH)))) (zE (zY (i:=7) oU.nd rfl (Or.inl rfl) (zL fX hr3 (by rfl) zbh lH.kp eS (z4 (qv 0) (z4 (qv 5) (z4 (qv 2) z6)))))
   (zE (yI (PW.pt (mN (yB (yK hr) (zD (zC hr) (qv 5) z7 (λ_ _=>rfl)) zM (zS _)) (mO (yB (yK hr) (zL yE hr1 (by rfl) yG yA.kp yF (z4 (qv 0) (z4 z7 z6))) z7 (zS _))))) (zP (zY (i:=7) oU.nd rfl (Or.inl rfl) (xT (tP rfl) (by rfl) M.tuple uQ (z4 (uD (own:= ["_law_word","_law_many"]) (vM (fsc:=zK qR) (N:= ["_law_box_here","_law_program","_law_things","_law_found","_law_ks","_law_manner_here","_law_begin_here","_law_value_here"]) (N':= ["_law_box_here","_law_program","_law_things","_law_found","_law_ks","_law_manner_here","_law_begin_here","_law_value_here"]) rfl rfl (by decide+kernel)) rfl (vI (qv 7)) (λC s H fp pins=>(rG (n:=2) rfl (wF (yZ (i:=8) zf9 rfl (Or.inl rfl)) (wF (yZ (i:=9) zf9 rfl (Or.inl rfl)) rH)))) (λC s H fp pins=>sW) (λC s H fp pins=>(yO (z4 (qv 8) (z4 (zD (zC hr) (vR (z4 z7 (z4 (zb9 zbo z7) z6))) (zL yE hr1 (by rfl) yG yA.kp yF (z4 (qv 0) (z4 z7 z6))) (λ_ _=>rfl)) z6))))) z6)))) yL)
   (zP (rL (wY PySem.F.plainAttrs_list PySem.F.slot_list_append PySem.F.type_list_append (by decide) o0 (qv 3) (z4 (zD (zC hr) (vR (z4 (qv 7) (z4 (qv 6) z6))) (zL yE hr1 (by rfl) yG yA.kp yF (z4 (qv 0) (z4 z7 z6))) (λ_ _=>rfl)) z6)))))))
   (zP (y7 (xT (tP rfl) (by rfl) M.tuple uQ (z4 (qv 3) z6)))))),λxs st Q h=> ?_⟩
 obtain⟨i,sh,zB,ws,a,b,rfl,hi,hb,hsh,hshl,hne,hwl,hnd,q⟩:=h;have hil:=(List.getElem?_eq_some_iff.mp hi).1;have hset: ∀{a b:Int},(st.set i (zF a b))[i]?=some (zF a b):=λ{a b} =>uV hi;have hset2: ∀{a b:Int} {o:PO},(st.set i (zF a b)++ [o])[i]?=some (zF a b):=λ{a b o} =>iZ hset;have hput: ∀{a b c d:Int} {o:PO},(st.set i (zF a b)++ [o]).set i (zF c d)=st.set i (zF c d)++ [o]:=λ{a b c d o} =>by rw[fA (by rw[List.length_set];exact hil),wH]
 have hsl: ∀{o:PO},(st.set i o).length=st.length:=List.length_set;have hat: ∀{a b:Int} {o:PO},(st.set i (zF a b)++ [o])[st.length]?=some o:=λ{a b o} =>by rw[<- hsl (o:=zF a b)];exact sR
 have hst2: ∀{a b:Int} {o o':PO},(st.set i (zF a b)++ [o]).set st.length o'=st.set i (zF a b)++ [o']:=λ{a b o o'} =>by rw[<- hsl (o:=zF a b)];exact jE
 have htk: ∀{a b:Int} {o:PO},(st.set i (zF a b)++ [o]).take st.length=st.set i (zF a b):=λ{a b o} =>by rw[<- hsl (o:=zF a b)];exact jK
 have hst:st=st.set i (zF a b):=by
  obtain⟨h1,h2⟩:=List.getElem?_eq_some_iff.mp hi;rw[<- h2,List.set_getElem_self]
 refine z9 ?_
 try simp? only[true_and]
 refine z9 ?_
 try simp? only[true_and]
 refine pO (λk env s=> ∃(hs:List Hv) (v1 v2 v3 v4:Option PV) (a b:Int),env= [some (PV.obj i),some (.tup (.tup (sh.map zW)::zB)),some (.lst (ws.map PV.str)),some (.obj st.length),v1,v2,v3,v4]/\hs.length=k/\(∀(j:Nat) (s:Sh) (h:Hv),sh[j]?=some s->hs[j]?=some h->∃kd r,s.2.1= .tup (.str kd::r)/\nL kd h)/\yT a b/\s=st.set i (zF a b)++ [.lst (hs.map Hv.pv)])
  ⟨[],none,none,none,none,a,b,rfl,rfl,(λj s h _ z=>by simp at z),hb,by rw[<- hst];rfl⟩ ?_ ?_
 ·rintro k x env s hx ⟨hs,v1,v2,v3,v4,a,b,rfl,hk,hh,hb,rfl⟩
  obtain⟨s0,hs0,rfl⟩:=wQ hx;have hkl:=(List.getElem?_eq_some_iff.mp hs0).1;obtain⟨kd,r,h0,em,hmn,e2,hh0⟩:=hsh s0 (List.mem_of_getElem? hs0);unfold zW;rw[em,e2]
  try simp? only[true_and]
  refine z9 ?_
  try simp? only[true_and]
  refine⟨i,kd,r,ws,a,b,rfl,hset2,hb,hmn,hne,hwl,hnd,λh1 a b hh1 hb=> ?_⟩
  try simp? only[hput]
  refine oX (λenv s=> ∃(h2:Hv) (a b:Int),env= [some (PV.obj i),some (.tup (.tup (sh.map zW)::zB)),some (.lst (ws.map PV.str)),some (.obj st.length),some (.str s0.1),some (.tup (.str kd::r)),some h0.pv,some h2.pv]/\nL kd h2/\yT a b/\s=st.set i (zF a b)++ [.lst (hs.map Hv.pv)]) (λN hN=> ?_) ?_
  ·by_cases hbag:kd= "bag"
   ·subst hbag
    try simp? only[beq_self_eq_true]
    refine⟨i,2,a,b,rfl,hset2,hb,by decide,by decide,λd a b d0 d1 hb=> ?_⟩
    try simp? only[hput]
    by_cases hd:d=0
    ·subst hd
     try simp? only[beq_self_eq_true]
     cases h1 with
     | int v=>exact absurd rfl hh1.1
     | row us=>exact absurd hh1.1 (by decide+kernel)
     | bag l=>
      unfold Hv.pv xK
      try simp? only[true_and]
      refine⟨λk ys env s=> ∃(m:List (Str×Int)) (v w:Option PV) (a b:Int),ys=m.map (λq=>PV.tup [.str q.1,.int q.2])/\m.map (·.1)=(l.take k).map (·.1)/\env= [some (PV.obj i),some (.tup (.tup (sh.map zW)::zB)),some (.lst (ws.map PV.str)),some (.obj st.length),some (.str s0.1),some (.tup (.str "bag" ::r)),some h0.pv,some (xK l),v,w]/\yT a b/\s=st.set i (zF a b)++ [.lst (hs.map Hv.pv)],
       ⟨[],none,none,a,b,rfl,rfl,rfl,hb,rfl⟩,?_,?_⟩
      ·rintro k x ys env s hx ⟨m,v,w,a,b,rfl,hm,rfl,hb,rfl⟩
       obtain⟨y,hy,rfl⟩:=wQ hx
       try simp? only[true_and]
       refine⟨i,2,a,b,rfl,hset2,hb,by decide,by decide,λe a b e0 e1 hb=> ?_⟩;obtain⟨z,ez⟩: ∃z:Int,atI [PV.int 1,.int (-1)] e=some (.int z):=by
        have:e=0∨e=1:=by omega
        rcases this with rfl | rfl
        ·exact⟨1,rfl⟩
        ·exact⟨-1,rfl⟩
       try simp? only[ez,hput]
       exact⟨m++ [(y.1,z)],_,_,a,b,by simp,by rw[nB hy];simp[hm],rfl,hb,rfl⟩
      ·rintro ys env s ⟨m,v,w,a,b,rfl,hm,rfl,hb,rfl⟩
       rw[List.length_map,List.take_of_length_le (Nat.le_refl _)]at hm;have hml:m.length=l.length:=by have:=congrArg List.length hm;simpa using this
       try simp? only[true_and]
       exact hN _ _ ⟨.bag m,a,b,rfl,⟨rfl,by rw[hm];exact hh1.2.1,by rw[hml];exact hh1.2.2⟩,hb,rfl⟩
    ·have n0:(d==0)=false:=by simpa using hd
     try simp? only[n0]
     exact hN _ _ ⟨h1,a,b,rfl,hh1,hb,rfl⟩
   ·have nb:(kd==("bag" :Str))=false:=by simpa using hbag
    try simp? only[nb]
    exact hN _ _ ⟨h1,a,b,rfl,hh1,hb,rfl⟩
  ·rintro env s ⟨h2,a,b,rfl,hh2,hb,rfl⟩
   try simp? only[hat,pR]
   refine⟨i,2,a,b,rfl,hset2,hb,by decide,by decide,λe a b e0 e1 hb=> ?_⟩;obtain⟨h3,hh3,e3⟩: ∃h3:Hv,nL kd h3/\atI [h2.pv,h0.pv] e=some h3.pv:=by
    have:e=0∨e=1:=by omega
    rcases this with rfl | rfl
    ·exact⟨h2,hh2,rfl⟩
    ·exact⟨h0,hh0,rfl⟩
   try simp? only[hput,e3,hat,hst2,pR,List.length_map]
   refine⟨Nat.lt_of_lt_of_le (m:=1000) (by omega) (by decide),hs++ [h3],_,_,_,_,a,b,rfl,by simp[hk],λj s h e4 e5=> ?_,hb,by simp⟩;rcases Nat.lt_or_ge j hs.length with hl | hl
   ·rw[List.getElem?_append_left hl]at e5;exact hh j s h e4 e5
   ·have hj:j=hs.length:=by
     have:=(List.getElem?_eq_some_iff.mp e5).1;simp at this;omega
    subst hj;rw[hk,hs0]at e4;cases e4;rw[List.getElem?_append_right (Nat.le_refl _),Nat.sub_self]at e5;cases e5;exact⟨kd,r,em,hh3⟩
 ·rintro env s ⟨hs,v1,v2,v3,v4,a,b,rfl,hk,hh,hb,rfl⟩
  rw[List.length_map]at hk
  try simp? only[hat,htk]
  exact q hs a b ⟨hk,hh⟩ hb
theorem zf_:(["_law_box_here","_law_program","_law_house_here","_law_things","?4","_law_rows","_law_place","_law_k","_law_shelf"]:List Str).Nodup:=by decide+kernel
theorem zmW {f:Addr}{fd:FuncData}(M:Mo K mg)(F:zZ K "_law_at_the_end" "_law_at_the_end" qN f fd):zJ P w K mg base zI 2 f fd ["_law_box_here","_law_program","_law_house_here","_law_things"] (zN K zhi):=by
 obtain⟨w5,w6,yA,yF,yG⟩:=M._law_take;have yE:zJ P w K mg base zI 1 w5 w6 ["_law_box_here","_law_many"] (zN K uF):=t5 M yA;refine xI 0 F gW (λxs st Q h=>by obtain⟨i,sh,zB,hs,ws,a,b,rfl,_⟩:=h;rfl) ⟨_,λcdv A outer s H E hr=>have hr1:zX 1 _:=hr.mono (by decide);(zE (zoU (i0:=5) (own:= ["_law_k","_law_shelf"]) (vM (fsc:=zK qN) (N:= ["_law_box_here","_law_program","_law_house_here","_law_things","_law_k","_law_rows","_law_place"]) (N':= ["_law_box_here","_law_program","_law_house_here","_law_things","?4","_law_rows","_law_place"]) rfl rfl (by decide+kernel)) gW.nd rfl (Or.inl rfl) rfl (zoQ (by rfl) M.enumerate (z4 (zD (zC hr) (qv 1) z7 (λ_ _=>rfl)) z6)) (λC s H fp pins=>(rG (n:=2) rfl (wF (yZ (i:=7) zf_ rfl (Or.inl rfl)) (wF (yZ (i:=8) zf_ rfl (Or.inl rfl)) rH)))) (λC s H fp pins=>gI (yB (yK hr) (zD (zC hr) (zD (zC hr) (qv 8) z7 (λ_ _=>rfl)) z7 (λ_ _=>rfl)) zM (zS _))) (λC s H fp pins=>(qv 7)))
   (zE (yI (yB (yK hr) (xL wG (by rfl) M.len PySem.boot_len (z4 (qv 5) z6)) z7 (zS _)) (zP (y7 tX)) yL)
   (zE (zY (i:=4) gW.nd rfl (Or.inl rfl) (zD (zC hr) (qv 5) (zL yE hr1 (by rfl) yG yA.kp yF (z4 (qv 0) (z4 (xL wG (by rfl) M.len PySem.boot_len (z4 (qv 5) z6)) z6))) (λ_ _=>rfl)))
   (zE (zY (i:=6) gW.nd rfl (Or.inl rfl) (yO (z4 zM (z4 (xL (zfP rfl) (by rfl) M.max boot_max (z4 z7 (z4 (y6 xH (y6 tO (xL wG (by rfl) M.len PySem.boot_len (z4 (zD (zC hr) (qv 2) (qv 4) (λ_ _=>rfl)) z6)) z7) (zL yE hr1 (by rfl) yG yA.kp yF (z4 (qv 0) (z4 z7 z6)))) z6))) z6))))
   (zE (yI (yB (yK hr) (zL yE hr1 (by rfl) yG yA.kp yF (z4 (qv 0) (z4 z7 z6))) z7 (zS _)) (zP (y7 (yO (z4 zM (z4 (zD (zC hr) (zD (zC hr) (zD (zC hr) (qv 1) z7 (λ_ _=>rfl)) (qv 4) (λ_ _=>rfl)) z7 (λ_ _=>rfl)) (z4 (qv 6) z6)))))) yL)
   (zP (y7 (yO (z4 zM (z4 (zD (zC hr) (zD (zC hr) (zD (zC hr) (qv 1) z7 (λ_ _=>rfl)) (qv 4) (λ_ _=>rfl)) z7 (λ_ _=>rfl)) (z4 (qv 6) (z4 (zD (zC hr) (qv 3) (zL yE hr1 (by rfl) yG yA.kp yF (z4 (qv 0) (z4 (xL wG (by rfl) M.len PySem.boot_len (z4 (qv 3) z6)) z6))) (λ_ _=>rfl)) z6)))))))))))),λxs st Q h=> ?_⟩
 obtain⟨i,sh,zB,hs,ws,a,b,rfl,hi,hb,hsl,hk,hrow,hwe,hwl,q0,q⟩:=h;have hset: ∀{a b:Int},(st.set i (zF a b))[i]?=some (zF a b):=λ{a b} =>uV hi;have hw0:0 < ws.length:=List.length_pos_iff.mpr hwe;refine z9 ?_
 try simp? only[zfa]
 refine⟨_,rfl,?_⟩;refine vX kJ (λj x e hx he=> ?_) ?_
 ·obtain⟨x',hx',rfl⟩:=dL hx
  obtain⟨s,hs',rfl⟩:=wQ hx';obtain⟨kd,r,er⟩:=hk s (List.mem_iff_getElem?.mpr ⟨j,hs'⟩);obtain⟨y,z,rfl⟩:=zfw he;obtain⟨n,mn,bg⟩:=s;cases er;unfold zW at hx⊢
  try simp? only[true_and]
  by_cases hkd:kd= "row"
  ·have hbq:(kd==("row" :Str))=true:=by rw[hkd];exact beq_self_eq_true _
   try simp? only[hbq]
   exact CP.yes (e':= [_,_]) hx (by show(if kd== "row" then _ else _)=_;rw[hbq];rfl) rfl
  ·have hbq:(kd==("row" :Str))=false:=by simpa using hkd
   try simp? only[hbq]
   exact CP.no (e':= [_,_]) hx (by show(if kd== "row" then _ else _)=_;rw[hbq];rfl) rfl
 have hall: ∀y∈(sL (sh.map zW)).filterMap kJ,∃(k:Nat) (s:Sh),y= .int (k:Nat)/\sh[k]?=some s/\sF s "row" :=λy hy=>zkb hk hy;have hlen:((sL (sh.map zW)).filterMap kJ).length<=63:=Nat.le_trans (List.length_filterMap_le _ _) (by rw[iS,List.length_map];exact hsl);generalize (sL (sh.map zW)).filterMap kJ=rows at hall hlen⊢
 try simp? only[true_and]
 refine z9 ?_
 try simp? only[true_and]
 by_cases h0:rows.length=0
 ·have hz:((rows.length:Int)==0)=true:=by rw[h0];rfl
  rw[if_pos hz];exact q0
 rw[if_neg (by simpa using h0)];refine z9 ?_
 try simp? only[true_and]
 refine⟨i,(rows.length:Int),a,b,rfl,hi,hb,by omega,by omega,λd a b d0 d1 hb=> ?_⟩;obtain⟨y,hy,ey⟩:=zcX rows (d:=d) d0 d1;obtain⟨k,s,rfl,hs',hkr⟩:=hall y hy;obtain⟨us,hu,hul⟩:=hrow k s hs' hkr;obtain⟨r,er⟩:=hkr;have eu:atI (hs.map Hv.pv) (k:Int)=some (.tup (us.map PV.str)):=tL hu;have es:atI (sh.map zW) (k:Int)=some (.tup [.str s.1,s.2.1,s.2.2]):=mX hs'
 try simp? only[ey]
 refine z9 ?_
 try simp? only[eu,List.length_map]
 refine⟨i,3,a,b,rfl,hset,hb,by decide,by decide,λg a b g0 g1 hb=> ?_⟩;obtain⟨m,hm⟩: ∃m:Nat,(m:Int)=(if(us.length:Int) - 1+g > 0 then(us.length:Int) - 1+g else 0):=⟨(if(us.length:Int) - 1+g > 0 then(us.length:Int) - 1+g else 0).toNat,by split <;> omega⟩;have hm2:(m:Int)<=100:=by rw[hm];split <;> omega
 have tm:lU sh (.num (m:Int)):=⟨⟨by omega,by omega⟩,by show 0 < 7;decide⟩
 try simp? only[wH,<- hm]
 refine z9 ?_
 try simp? only[true_and]
 refine⟨i,2,a,b,rfl,hset,hb,by decide,by decide,λe a b e0 e1 hb=> ?_⟩;by_cases z0:e=0
 ·subst z0
  try simp? only[beq_self_eq_true,wH,es]
  exact q (.drop s.1 (.num (m:Int))) a b ⟨λx hx=>(by cases hx;exact tm),λn hn=>⟨s,List.mem_iff_getElem?.mpr ⟨k,hs'⟩,Option.some.inj hn,"row",r,er,rfl⟩⟩ hb
 ·have nf:(e==0)=false:=by simpa using z0
  try simp? only[nf,wH,es,List.length_map]
  refine⟨i,(ws.length:Int),a,b,rfl,hset,hb,by omega,by omega,λc a b c0 c1 hb=> ?_⟩;obtain⟨wd,_,ew⟩:=pH PV.str (ns:=ws) c0 c1
  try simp? only[ew,wH]
  exact q (.lay s.1 (.num (m:Int)) wd) a b ⟨λx hx=>(by cases hx;exact tm),λn hn=>⟨s,List.mem_iff_getElem?.mpr ⟨k,hs'⟩,Option.some.inj hn,"row",r,er,rfl⟩⟩ hb
theorem zm7:(["_law_script","_law_box_here","_law_words_here","_law_things","_law_shelves","_law_k","_law_manner_here","_law_program","_law_house_here","_law_asked","_law_row_here","_law_end","_law_due","_law_found","_law_shelf"]:List Str).Nodup:=by decide+kernel
theorem zbl:(["_law_script","_law_box_here","_law_words_here","_law_things","_law_shelves","_law_k","_law_manner_here","_law_program","?8","_law_asked","?10","_law_end","?12","_law_found","_law_house_here","_law_row_here","_law_due"]:List Str).Nodup:=by decide+kernel
theorem znn {T c0 u6:Addr}{u3:FuncData}{f:Addr}{fd:FuncData}(M:Mo K mg)(FC:sZ K "value_of" "value_of" xU u6 u3 c0)(hC:PySem.W.codeHdIn K c0 T=true)(hB:base.BuiltinsAt mg T)(rP:zZ K "value_of" "value_of" xU u6 u3)(rX:yH K u3 ["program","house","term"] [])(qA:mg "value_of" =some (.ref u6))(F:zZ K "law" "law" s9 f fd):zJ P w K mg base zI 16 f fd ["_law_script"] (zN K (jF T)):=by
 obtain⟨zkx,zkC,zcG,zjk,zmr⟩:=M.begins;have zi_:zJ P w K mg base zI 1 zkx zkC ["program"] (zN K zhe):=znl M zcG;obtain⟨zkI,zkD,lJ,nQ,mG⟩:=M.done;have zcP:zJ P w K mg base zI 15 zkI zkD ["program","house","row"] (zN K (fB T 2)):=zfV M FC hC hB rP rX qA lJ nQ mG 2;obtain⟨zkk,zk0,jR,eU,zbi⟩:=M._law_box;have fY:zJ P w K mg base zI 1 zkk zk0 ["_law_script","_law_k"] (zN K zhf):=zmY M jR;obtain⟨w5,w6,yA,yF,yG⟩:=M._law_take;have yE:zJ P w K mg base zI 1 w5 w6 ["_law_box_here","_law_many"] (zN K uF):=t5 M yA;obtain⟨zku,zk_,fU,zcZ,zf3⟩:=M._law_words;have zcN:zJ P w K mg base zI 2 zku zk_ ["_law_box_here","_law_many"] (zN K zh1):=znh M fU;obtain⟨zkr,zk7,zcD,zjh,zml⟩:=M._law_manner;have zi6:zJ P w K mg base zI 10 zkr zk7 ["_law_box_here","_law_kinds","_law_calm"] (zN K zhq):=znf M zcD;obtain⟨zaJ,zaO,lH,eS,zbh⟩:=M._law_begin;have fX:zJ P w K mg base zI 3 zaJ zaO ["_law_box_here","_law_manner_here","_law_things"] (zN K zcf):=zfS M lH;obtain⟨zkt,zk9,zcE,zji,zmm⟩:=M._law_row;have zi8:zJ P w K mg base zI 12 zkt zk9 ["_law_box_here","_law_uses","_law_things"] (zN K zhv):=zng M zcE;obtain⟨zkm,zk2,zc9,zjc,zmg⟩:=M._law_done;have zi1:zJ P w K mg base zI 11 zkm zk2 ["_law_program","_law_house_here","_law_row_here"] (zN K zhm):=zna M zc9;obtain⟨zks,zk8,jS,kC,kS⟩:=M._law_plain;have zi7:zJ P w K mg base zI 7 zks zk8 ["_law_value_here"] (zN K (fD 6)):=zfU M jS kC kS 6;obtain⟨zkn,zk3,zc_,zjd,zmh⟩:=M._law_house;have zi2:zJ P w K mg base zI 4 zkn zk3 ["_law_box_here","_law_program","_law_things"] (zN K zhk):=znb M zc_;obtain⟨zki,zky,zc6,ziZ,zmd⟩:=M._law_at_the_end;have ziy:zJ P w K mg base zI 2 zki zky ["_law_box_here","_law_program","_law_house_here","_law_things"] (zN K zhi):=zmW M zc6;refine xI 0 F wZ (λxs st Q h=>by obtain⟨ns,rfl,_⟩:=h;rfl) ⟨_,λcdv A outer s H E hr=>have hr1:zX 1 _:=hr.mono (by decide);have hr2:zX 2 _:=hr.mono (by decide);have hr3:zX 3 _:=hr.mono (by decide);have hr4:zX 4 _:=hr.mono (by decide);have hr7:zX 7 _:=hr.mono (by decide);have hr10:zX 10 _:=hr.mono (by decide);have hr11:zX 11 _:=hr.mono (by decide);have hr12:zX 12 _:=hr.mono (by decide);have hr15:zX 15 _:=hr.mono (by decide);(zE (zY (i:=1) wZ.nd rfl (Or.inl rfl) (zL fY hr1 (by rfl) zbi jR.kp eU (z4 (qv 0) (z4 z7 z6))))
   (zE (zoT (i:=2) (j:=3) rfl wZ.nd rfl rfl (by decide) rfl rfl (z4 (zL zcN hr2 (by rfl) zf3 fU.kp zcZ (z4 (qv 1) (z4 z7 z6))) (z4 (zL zcN hr2 (by rfl) zf3 fU.kp zcZ (z4 (qv 1) (z4 z7 z6))) z6)) (by rfl))
   (zoV (zY (i:=4) wZ.nd rfl (Or.inl rfl) (o7 z6))
   (o8 PassesOwn.never rfl (gJ (by rfl) M.range (z4 (y6 xH z7 (zL yE hr1 (by rfl) yG yA.kp yF (z4 (qv 1) (z4 z7 z6)))) z6)) (yZ (i:=5) wZ.nd rfl (Or.inl rfl)) (zE (zY (i:=6) wZ.nd rfl (Or.inl rfl) (zL zi6 hr10 (by rfl) zml zcD.kp zjh (z4 (qv 1) (z4 (vR (z4 zM (z4 zM (z4 zM (z4 zM (z4 zM z6)))))) (z4 zb7 z6)))))
   (zP (rL (wY PySem.F.plainAttrs_list PySem.F.slot_list_append PySem.F.type_list_append (by decide) o0 (qv 4) (z4 (yO (z4 (zD (zC hr) (qv 2) (qv 5) (λ_ _=>rfl)) (z4 (qv 6) (z4 (zL fX hr3 (by rfl) zbh lH.kp eS (z4 (qv 1) (z4 (qv 6) (z4 (qv 3) z6)))) z6)))) z6))))))
   (zE (zY (i:=7) wZ.nd rfl (Or.inr rfl) (yO (z4 (xT (tP rfl) (by rfl) M.tuple uQ (z4 (qv 4) z6)) (z4 (yO (z4 (yO (z4 zM (z4 (yO z6) z6))) z6)) z6))))
   (zE (yI (yB (o4 hr) (zL zi_ hr1 (by rfl) zmr zcG.kp zjk (z4 (qv 7) z6)) (xT (tP rfl) (by rfl) M.tuple uQ (z4 (uD (own:= ["_law_shelf"]) (vM (fsc:=zK s9) (N:= ["_law_script","_law_box_here","_law_words_here","_law_things","_law_shelves","_law_k","_law_manner_here","_law_program","_law_house_here","_law_asked","_law_row_here","_law_end","_law_due","_law_found"]) (N':= ["_law_script","_law_box_here","_law_words_here","_law_things","_law_shelves","_law_k","_law_manner_here","_law_program","_law_house_here","_law_asked","_law_row_here","_law_end","_law_due","_law_found"]) rfl rfl (by decide+kernel)) rfl (vI (qv 4)) (λC s H fp pins=>(yZ (i:=14) zm7 rfl (Or.inl rfl))) (λC s H fp pins=>sW) (λC s H fp pins=>(zD (zC hr) (qv 14) z7 (λ_ _=>rfl)))) z6)) (zS _)) (zP (y7 zb7)) yL)
   (zE (zY (i:=8) wZ.nd rfl (Or.inl rfl) (zL zi2 hr4 (by rfl) zmh zc_.kp zjd (z4 (zL fY hr1 (by rfl) zbi jR.kp eU (z4 (qv 0) (z4 z7 z6))) (z4 (qv 7) (z4 (qv 3) z6)))))
   (zE (zY (i:=9) wZ.nd rfl (Or.inl rfl) (o7 z6))
   (zE (o8 PassesOwn.never rfl (zoR (by rfl) M.range (z4 z7 (z4 (xL (zfP rfl) (by rfl) M.max boot_max (z4 z7 (z4 (xL (zfQ rfl) (by rfl) M.min boot_min (z4 (xL wG (by rfl) M.len PySem.boot_len (z4 (qv 0) z6)) (z4 z7 z6))) z6))) z6))) (yZ (i:=5) wZ.nd rfl (Or.inl rfl)) (zE (zY (i:=1) wZ.nd rfl (Or.inl rfl) (zL fY hr1 (by rfl) zbi jR.kp eU (z4 (qv 0) (z4 (qv 5) z6))))
   (zE (zY (i:=10) wZ.nd rfl (Or.inl rfl) (zL zi8 hr12 (by rfl) zmm zcE.kp zji (z4 (qv 1) (z4 (yO (z4 (qv 4) (z4 (qv 4) z6))) (z4 (qv 3) z6)))))
   (zE (zY (i:=11) wZ.nd rfl (Or.inl rfl) (zL ziy hr2 (by rfl) zmd zc6.kp ziZ (z4 (qv 1) (z4 (qv 7) (z4 (qv 8) (z4 (qv 3) z6))))))
   (zE (yI (PW.pt (mN (yB zmO (qv 11) tX (zS _)) (mO (yB (yK hr) (zL yE hr1 (by rfl) yG yA.kp yF (z4 (qv 1) (z4 z7 z6))) z7 (zS _))))) (zP (zY (i:=10) wZ.nd rfl (Or.inl rfl) (qv 11))) yL)
   (zE (zY (i:=12) wZ.nd rfl (Or.inl rfl) (zL zi1 hr11 (by rfl) zmg zc9.kp zjc (z4 (qv 7) (z4 (qv 8) (z4 (qv 10) z6)))))
   (zE (rL (wY PySem.F.plainAttrs_list PySem.F.slot_list_append PySem.F.type_list_append (by decide) o0 (qv 9) (z4 (yO (z4 (qv 8) (z4 (qv 10) (z4 (qv 12) z6)))) z6)))
   (zE (zY (i:=13) wZ.nd rfl (Or.inl rfl) (zL zcP hr15 (by rfl) mG lJ.kp nQ (z4 (qv 7) (z4 (qv 8) (z4 (qv 10) z6)))))
   (zE (yI (PW.pt (gK (zoW (zb_ (zL zi7 hr7 (by rfl) kS jS.kp kC (z4 (qv 13) z6)))) (zbA (yB (o4 hr) (qv 13) (qv 12) (zS _))))) (zP (y7 zb7)) yL)
   (zP (zY (i:=8) wZ.nd rfl (Or.inl rfl) (zD (zC hr) (qv 12) z7 (λ_ _=>rfl)))))))))))))
   (zP (y7 (xL (zfJ rfl) (by rfl) M.all boot_all (z4 (uD (own:= ["_law_house_here","_law_row_here","_law_due"]) (vM (fsc:=zK s9) (N:= ["_law_script","_law_box_here","_law_words_here","_law_things","_law_shelves","_law_k","_law_manner_here","_law_program","_law_house_here","_law_asked","_law_row_here","_law_end","_law_due","_law_found"]) (N':= ["_law_script","_law_box_here","_law_words_here","_law_things","_law_shelves","_law_k","_law_manner_here","_law_program","?8","_law_asked","?10","_law_end","?12","_law_found"]) rfl rfl (by decide+kernel)) rfl (vI (zoN (qv 9) rJ (rK z7))) (λC s H fp pins=>(rG (n:=3) rfl (wF (yZ (i:=14) zbl rfl (Or.inl rfl)) (wF (yZ (i:=15) zbl rfl (Or.inl rfl)) (wF (yZ (i:=16) zbl rfl (Or.inl rfl)) rH))))) (λC s H fp pins=>sW) (λC s H fp pins=>(uC (yK hr) (zL zcP hr15 (by rfl) mG lJ.kp nQ (z4 (qv 7) (z4 (qv 14) (z4 (qv 15) z6)))) (qv 16) (zS _)))) z6)))))))))))),λxs st Q h=> ?_⟩
 obtain⟨ns,rfl,rfl,hl,q⟩:=h;refine z9 ?_
 try simp? only[true_and]
 refine⟨ns,0,rfl,hl,by decide,λa b hb=> ?_⟩
 try simp? only[true_and]
 refine z9 ?_
 try simp? only[true_and]
 refine⟨1,6,a,b,rfl,rfl,hb,by decide,by decide,λus a b hul hun hb=> ?_⟩
 try simp? only[true_and]
 refine⟨1,6,a,b,rfl,rfl,hb,by decide,by decide,λws a b hwl hwn hb=> ?_⟩;have hwe:ws≠ []:=λz=>by rw[z]at hwl;cases hwl
 try simp? only[true_and]
 refine z9 ?_;unfold zhQ;refine z9 ?_
 try simp? only[true_and]
 refine⟨1,6,a,b,rfl,rfl,hb,by decide,by decide,λn a b n0 n1 hb=> ?_⟩
 try simp? only[true_and]
 refine⟨⟨by omega,by omega⟩,pO (λk env s=> ∃(sh:List Sh) (v w:Option PV) (a b:Int),env= [some (.lst (ns.map PV.int)),some (.obj 1),some (.lst (us.map PV.str)),some (.lst (ws.map PV.str)),some (.obj 2),v,w,none,none,none,none,none,none,none]/\sh.length=k/\(∀s∈sh,pD s)/\sh.map (·.1)=us.take k/\yT a b/\s= [.tbl T u8 wU,zF a b,.lst (sh.map zW)])
  ⟨[],none,none,a,b,rfl,rfl,by simp,rfl,hb,rfl⟩ ?_ ?_⟩
 ·rintro k x env s hx ⟨sh,v,w,a,b,rfl,hk,hsh,hnm,hb,rfl⟩
  obtain⟨hk2,rfl⟩:=mS hx;have hku:k < us.length:=by omega
  have eu:atI (us.map PV.str) (0+(k:Int))=some (.str us[k]):=by rw[Int.zero_add];exact v6 (by rw[List.getElem?_map,List.getElem?_eq_getElem hku];rfl)
  try simp? only[true_and]
  refine z9 ?_
  try simp? only[true_and]
  refine⟨1,a,b,rfl,rfl,hb,λkd r a b hmn hb=> ?_⟩
  try simp? only[eu]
  refine⟨1,kd,r,ws,a,b,rfl,rfl,hb,hmn,hwe,by omega,hwn,λh a b hh hb=> ?_⟩
  try simp? only[pR,List.length_map]
  refine⟨Nat.lt_of_lt_of_le (m:=1000) (by omega) (by decide),sh++ [(us[k],.tup (.str kd::r),h.pv)],_,_,a,b,rfl,by simp[hk],λs hs=> ?_,?_,hb,by simp[zW]⟩
  ·rcases List.mem_append.mp hs with hs | hs
   ·exact hsh s hs
   ·rw[List.mem_singleton.mp hs];exact⟨kd,r,h,rfl,hmn,rfl,hh⟩
  ·rw[nB (List.getElem?_eq_getElem hku),List.map_append,hnm];rfl
 rintro env s ⟨sh,v,w,a,b,rfl,hk,hsh,hnm,hb,rfl⟩;rw[qM]at hk;have hshn:(sh.map (·.1)).Nodup:=by rw[hnm];exact hun.sublist (List.take_sublist _ _)
 have hsl:1<=sh.length/\sh.length<=6:=by omega
 refine⟨[.tbl T u8 wU,zF a b],sh.map zW,rfl,by simp,?_⟩;change p7 _ _ _ [some (.lst (ns.map PV.int)),some (.obj 1),some (.lst (us.map PV.str)),some (.lst (ws.map PV.str)),some (.lst (sh.map zW)),pP 2 (.lst (sh.map zW)) v,pP 2 (.lst (sh.map zW)) w,none,none,none,none,none,none,none] [.tbl T u8 wU,zF a b];generalize pP 2 (.lst (sh.map zW)) v=v;generalize pP 2 (.lst (sh.map zW)) w=w;have hno: ∀s∈sh,yQ s.2.2=true:=λs hs=>by
  obtain⟨kd,r,h,_,_,e,_⟩:=hsh s hs;rw[e];exact pR h
 have hbd: ∀s∈sh,zH s.2.2<=2:=λs hs=>by
  obtain⟨kd,r,h,_,_,e,_⟩:=hsh s hs;rw[e];exact iO h
 have hbd2:=pM (f:=λs:Sh=>s.2.2) (m:=2) sh hbd;refine z9 ?_
 try simp? only[true_and]
 refine z9 ?_
 try simp? only[true_and]
 refine⟨sh,_,rfl,by omega,hno,?_⟩
 try simp? only[true_and]
 refine vX iF (λj x e hx he=> ?_) ?_
 ·obtain⟨⟨n',a',b'⟩,hs',rfl⟩:=wQ hx
  obtain⟨y,rfl⟩:=sQ he;unfold zW
  try simp? only[true_and]
  exact⟨hno _ (List.mem_iff_getElem?.mpr ⟨j,hs'⟩),CP.yes (e':= [_]) hx rfl rfl⟩
 rw[pN sh (f:=iF) (g:=zW) (h:=λs=>s.2.2) λs=>rfl];have heq:eqPs (sh.map λs=>s.2.2) (sh.map λs=>s.2.2)=true:=by
  have:=nX (.tup (sh.map λs=>s.2.2)) (by unfold zH;omega);unfold yD at this;exact this
 try simp? only[true_and]
 refine⟨⟨by omega,by omega⟩,?_⟩;rw[if_neg (by rw[heq];decide)];refine z9 ?_
 try simp? only[true_and]
 refine⟨ns,1,rfl,hl,by decide,λa1 b1 hb1=> ?_⟩
 try simp? only[true_and]
 refine⟨2,sh,_,ws,a1,b1,rfl,rfl,hb1,hsh,by omega,hwe,by omega,hwn,λhs a1 b1 hok hb1=> ?_⟩
 try simp? only[true_and]
 refine z9 ?_
 try simp? only[true_and]
 refine z9 ?_
 try simp? only[List.length_map]
 obtain⟨Mx,hM,hM1⟩: ∃M:Int,(if(if(14:Int) < (ns.length:Int)then(14:Int)else(ns.length:Int)) > 6 then(if(14:Int) < (ns.length:Int)then(14:Int)else(ns.length:Int))else 6)=M/\(6<=M/\M<=14):=⟨_,rfl,by split <;> (try split) <;> omega⟩;rw[hM];refine⟨⟨by omega,by omega⟩,?_⟩;have hse:sh≠ []:=λz=>by rw[z]at hsl;simp at hsl
 have hkd: ∀s∈sh,∃kd,sF s kd:=λs hs=>let⟨kd,r,h,e,_⟩:=hsh s hs;⟨kd,r,e⟩;refine pO (λk env s=> ∃(hs:List Hv) (as:List As) (v1 v5 v10 v11 v12 v13:Option PV) (zB:z8),env= [some (.lst (ns.map PV.int)),v1,some (.lst (us.map PV.str)),some (.lst (ws.map PV.str)),some (.lst (sh.map zW)),v5,w,some (prP sh),some (.tup (hs.map Hv.pv)),some (.obj 3),v10,v11,v12,v13]/\tH (40+k) sh hs/\(∀x∈as,zio sh x)/\as.length=k/\s=PO.tbl T u8 wU::zF a b::zF a1 b1:: .lst (as.map nP)::zB) ⟨hs,[],_,_,none,none,none,none,[],rfl,hok,by simp,rfl,rfl⟩ ?_ ?_
 ·rintro k x env s hx ⟨hs,as,v1,v5,v10,v11,v12,v13,zB,rfl,hN,hAs,hal,rfl⟩
  obtain⟨hk2,rfl⟩:=mS hx;have n60:40+k < 60:=by omega
  try simp? only[true_and]
  refine z9 ?_
  try simp? only[true_and]
  refine⟨ns,_,rfl,hl,by omega,λa2 b2 hb2=> ?_⟩
  try simp? only[true_and]
  refine z9 ?_
  try simp? only[true_and]
  refine⟨zB.length+1+1+1+1,sh,ws,a2,b2,rfl,by simp,hb2,hsh,hse,by omega,hwe,by omega,λr a2 b2 hr hb2=> ?_⟩
  try simp? only[true_and]
  refine oX (λenv s=> ∃(e:Option Dd) (a2 b2:Int),env= [some (.lst (ns.map PV.int)),some (.obj (zB.length+1+1+1+1)),some (.lst (us.map PV.str)),some (.lst (ws.map PV.str)),some (.lst (sh.map zW)),some (.int (2+(k:Int))),w,some (prP sh),some (.tup (hs.map Hv.pv)),some (.obj 3),some r.pv,some (iQ e),v12,v13]/\(∀d,e=some d->jP sh d)/\yT a2 b2/\s=PO.tbl T u8 wU::zF a b::zF a1 b1:: .lst (as.map nP)::(zB++ [zF a2 b2])) (λN hN'=> ?_) ?_
  ·try simp? only[true_and]
   refine⟨zB.length+1+1+1+1,sh,_,hs,ws,a2,b2,rfl,by simp,hb2,by omega,hkd,zp2 n60 hN,hwe,by omega,?_,λd a2 b2 hd hb2=> ?_⟩
   ·try simp? only[true_and]
    exact hN' _ _ ⟨none,a2,b2,rfl,λ_ z=>(by cases z),hb2,rfl⟩
   ·try simp? only[true_and]
    exact hN' _ _ ⟨some d,a2,b2,rfl,λ_ z=>(by cases z;exact hd),hb2,by simp⟩
  rintro env s0 ⟨e,a2,b2,rfl,he,hb2,rfl⟩;refine oX (λenv s=> ∃(r:Rw) (a2 b2:Int),env= [some (.lst (ns.map PV.int)),some (.obj (zB.length+1+1+1+1)),some (.lst (us.map PV.str)),some (.lst (ws.map PV.str)),some (.lst (sh.map zW)),some (.int (2+(k:Int))),w,some (prP sh),some (.tup (hs.map Hv.pv)),some (.obj 3),some r.pv,some (iQ e),v12,v13]/\lS sh r/\yT a2 b2/\s=PO.tbl T u8 wU::zF a b::zF a1 b1:: .lst (as.map nP)::(zB++ [zF a2 b2])) (λN hN'=> ?_) ?_
  ·cases e with
   | none=>
    unfold iQ
    try simp? only[true_and]
    exact hN' _ _ ⟨r,a2,b2,rfl,hr,hb2,rfl⟩
   | some d=>
    obtain⟨xs,ex⟩:=zjP d;have ee:iQ (some d)= .tup xs:=ex;rw[ee]
    try simp? only[true_and]
    refine⟨zB.length+1+1+1+1,4,a2,b2,rfl,by simp,hb2,by decide,by decide,λg a2 b2 g0 g1 hb2=> ?_⟩
    try simp? only[true_and]
    by_cases h0:g=0
    ·subst h0
     try simp? only[beq_self_eq_true]
     exact hN' _ _ ⟨(none,d),a2,b2,by rw[<- ex];rfl,⟨λ_ z=>(by cases z),he d rfl⟩,hb2,by simp⟩
    ·have nf:(g==0)=false:=by simpa using h0
     try simp? only[nf]
     exact hN' _ _ ⟨r,a2,b2,by rw[ee],hr,hb2,by simp⟩
  clear hr;rintro env s0 ⟨r,a2,b2,rfl,hr,hb2,rfl⟩;have hrok:=zgS n60 hsh hshn hN hr;have hlen:hs.length<=63:=by rw[hN.1];omega
  refine z9 ?_
  try simp? only[true_and]
  refine⟨sh,_,hs,r,rfl,zaV hN,hlen,by omega,hrok,λh1 o1 n1 hD1=> ?_⟩
  try simp? only[true_and]
  refine z9 ?_
  try simp? only[zp7]
  have hpd:=zgF h1 o1 n1;have heq2:yD (wT h1 o1 n1) (wT h1 o1 n1)=true:=nX _ (by omega);refine⟨rfl,Nat.lt_of_lt_of_le (m:=1000) (by rw[List.length_map];omega) (by decide),?_⟩;refine z9 ?_
  try simp? only[true_and]
  refine⟨sh,_,hs,r,0,rfl,rfl,⟨zaV hN,zgx hsh,zeX hs⟩,hlen,hrok,zd7 r,λh2 o2 n2 hD2=> ?_⟩;rw[zdF hD2 hD1]
  try simp? only[true_and]
  refine z9 ?_
  try simp? only[true_and]
  refine⟨wT h1 o1 n1,rfl,zpx _ _ _,hpd,?_⟩
  try simp? only[heq2]
  refine⟨⟨by omega,by omega⟩,?_⟩;have hH:=zjY n60 hsh hshn hN hr hD1;unfold wT
  try simp? only[true_and]
  refine⟨h1,as++ [(hs,r,h1,o1,n1)],_,_,_,_,_,_,zB++ [zF a2 b2],rfl,hH,λx hx=> ?_,by simp[hal],by simp[nP,wT]⟩;rcases List.mem_append.mp hx with hx | hx
  ·exact hAs x hx
  ·rw[List.mem_singleton.mp hx];exact⟨40+k,n60,hN,hr,hD1⟩
 ·rintro env s ⟨hs,as,v1,v5,v10,v11,v12,v13,zB,rfl,hN,hAs,hal,rfl⟩
  try simp? only[zib,zbN]
  refine⟨3,_,rfl,rfl,?_⟩;rw[show((3:Int))=((3:Nat):Int)from rfl,iM,<- List.map_take];refine vX (λ_=>some (PV.bl true)) (λj x e hx he=> ?_) ?_
  ·obtain⟨y,hy,rfl⟩:=wQ hx
   obtain⟨y1,y2,y3,rfl⟩: ∃y1 y2 y3,e= [y1,y2,y3]:=by
    match e,he with
    | [p,q',r'],_=>exact⟨p,q',r',rfl⟩
   obtain⟨n',n60,hN',hr,hD⟩:=hAs y (List.mem_of_mem_take (List.mem_iff_getElem?.mpr ⟨j,hy⟩));obtain⟨h,r,h1,o1,n1⟩:=y;have hpd:=zgF h1 o1 n1;have heq2:yD (wT h1 o1 n1) (wT h1 o1 n1)=true:=nX _ (by omega);unfold nP at hx⊢
   try simp? only[true_and]
   refine⟨sh,_,h,r,0,rfl,rfl,⟨zaV hN',zgx hsh,zeX h⟩,by rw[hN'.1];omega,zgS n60 hsh hshn hN' hr,zd7 r,λh2 o2 n2 hD2=> ?_⟩;rw[zdF hD2 hD]
   try simp? only[heq2]
   exact⟨⟨by omega,by omega⟩,CP.yes (e':= [_,_,_]) hx rfl rfl⟩
  ·generalize (as.take 3).map nP=zs
   have e1:zs.filterMap (λ_=>some (PV.bl true))=(zs.map λ_=>true).map PV.bl:=by
    rw[List.map_map]
    induction zs with
    | nil=>rfl
    | cons x f ih=>simpa using ih
   rw[e1];refine⟨zs.map λ_=>true,rfl,?_⟩;have e2:(zs.map λ_=>true).all id=true:=by simp
   try simp? only[e2]
   exact q _
end
theorem iG {us:List Value}(h:us.length=1): ∃x0,us= [x0]:=by
 rcases us with _ | ⟨x0,_ | ⟨y,us⟩⟩ <;> first | exact⟨x0,rfl⟩ | (simp at h;done)
theorem tJ {us:List Value}(h:us.length=2): ∃x0 x1,us= [x0,x1]:=by
 rcases us with _ | ⟨x0,_ | ⟨x1,_ | ⟨y,us⟩⟩⟩ <;> first | exact⟨x0,x1,rfl⟩ | (simp at h;done)
theorem vL {us:List Value}(h:us.length=3): ∃x0 x1 x2,us= [x0,x1,x2]:=by
 rcases us with _ | ⟨x0,_ | ⟨x1,_ | ⟨x2,_ | ⟨y,us⟩⟩⟩⟩ <;> first | exact⟨x0,x1,x2,rfl⟩ | (simp at h;done)
theorem iH {us:List Value}(h:us.length=4): ∃x0 x1 x2 x3,us= [x0,x1,x2,x3]:=by
 rcases us with _ | ⟨x0,_ | ⟨x1,_ | ⟨x2,_ | ⟨x3,_ | ⟨y,us⟩⟩⟩⟩⟩ <;> first | exact⟨x0,x1,x2,x3,rfl⟩ | (simp at h;done)
theorem all_mk {l:PySem.W.OpenLaw}{w:World}{K:Frag}{h:Heap}{mg:Str->Option Value}{tW:Tok}{fa c0 T f1 f2 f3 f4 f5 f6 f7 f8 f9 f10 f11 f12 f13 f14 f15 f16 f17 f18 f19 f20 f21 f22 f23 f24 f25 f26 f27 f28 f29 f30 f31 f32 f33 f34:Addr}(X:K.In h)(G:h.Ns mainGlobals mg)(hfa:mg "law" =some (.ref fa))
  {od1 an1 od2 an2 od3 an3 od4 an4 od5 an5 od6 an6 od7 an7 od8 an8 od9 an9 od10 an10 od11 an11 od12 an12 od13 an13 od14 an14 od15 an15 od16 an16 od17 an17 od18 an18 od19 an19 od20 an20 od21 an21 od22 an22 od23 an23 od24 an24 od25 an25 od26 an26 od27 an27 od28 an28 od29 an29 od30 an30 od31 an31 od32 an32 od33 an33 od34 an34:Option Addr} {sl1 sl2 sl3 sl4 sl5 sl6 sl7 sl8 sl9 sl10 sl11 sl12 sl13 sl14 sl15 sl16 sl17 sl18 sl19 sl20 sl21 sl22 sl23 sl24 sl25 sl26 sl27 sl28 sl29 sl30 sl31 sl32 sl33 sl34:Array (Option Value)} {oc1 kV1 dc1 pm1 cd1 ct1 oc2 kV2 dc2 pm2 cd2 ct2 oc3 kV3 dc3 pm3 cd3 ct3 oc4 kV4 dc4 pm4 cd4 ct4 oc5 kV5 dc5 pm5 cd5 ct5 oc6 kV6 dc6 pm6 cd6 ct6 oc7 kV7 dc7 pm7 cd7 ct7 oc8 kV8 dc8 pm8 cd8 ct8 oc9 kV9 dc9 pm9 ct9 oc10 kV10 dc10 pm10 cd10 ct10 oc11 kV11 dc11 pm11 cd11 ct11 oc12 kV12 dc12 pm12 cd12 ct12 oc13 kV13 dc13 pm13 cd13 ct13 oc14 kV14 dc14 pm14 cd14 ct14 oc15 kV15 dc15 pm15 cd15 ct15 oc16 kV16 dc16 pm16 cd16 ct16 oc17 kV17 dc17 pm17 cd17 ct17 oc18 kV18 dc18 pm18 cd18 ct18 oc19 kV19 dc19 pm19 cd19 ct19 oc20 kV20 dc20 pm20 cd20 ct20 oc21 kV21 dc21 pm21 cd21 ct21 oc22 kV22 dc22 pm22 cd22 ct22 oc23 kV23 dc23 pm23 cd23 ct23 oc24 kV24 dc24 pm24 cd24 ct24 oc25 kV25 dc25 pm25 cd25 ct25 oc26 kV26 dc26 pm26 cd26 ct26 oc27 kV27 dc27 pm27 cd27 ct27 oc28 kV28 dc28 pm28 cd28 ct28 oc29 kV29 dc29 pm29 cd29 ct29 oc30 kV30 dc30 pm30 cd30 ct30 oc31 kV31 dc31 pm31 cd31 ct31 oc32 kV32 dc32 pm32 cd32 ct32 oc33 kV33 dc33 pm33 cd33 ct33 oc34 kV34 dc34 pm34 cd34 ct34:Value}
  {odc:Option Addr} {slc:Array (Option Value)} {vsc:Array Value} {t18 t7 t10:Tok} {x18:Str} {x7 x10:Int} {x9:Bool}
  (a1:nsIn K mainGlobals "many_of" =some (some (.ref f1))) (l1:K.lookup f1=some ⟨oc1,od1,.func (fnOf "many_of" "many_of" (yR oZ) (yM oZ) (zK oZ) .none kV1 dc1 pm1 an1 cd1 ct1),sl1⟩) (c1:codeIn K cd1 "many_of" =true) (k1:keepIn K (.ref f1)=true)
  (a2:nsIn K mainGlobals "bag_with" =some (some (.ref f2))) (l2:K.lookup f2=some ⟨oc2,od2,.func (fnOf "bag_with" "bag_with" (yR oS) (yM oS) (zK oS) .none kV2 dc2 pm2 an2 cd2 ct2),sl2⟩) (c2:codeIn K cd2 "bag_with" =true) (k2:keepIn K (.ref f2)=true)
  (a3:nsIn K mainGlobals "bags_added" =some (some (.ref f3))) (l3:K.lookup f3=some ⟨oc3,od3,.func (fnOf "bags_added" "bags_added" (yR qV) (yM qV) (zK qV) .none kV3 dc3 pm3 an3 cd3 ct3),sl3⟩) (c3:codeIn K cd3 "bags_added" =true) (k3:keepIn K (.ref f3)=true)
  (a4:nsIn K mainGlobals "first_called" =some (some (.ref f4))) (l4:K.lookup f4=some ⟨oc4,od4,.func (fnOf "first_called" "first_called" (yR qX) (yM qX) (zK qX) .none kV4 dc4 pm4 an4 cd4 ct4),sl4⟩) (c4:codeIn K cd4 "first_called" =true) (k4:keepIn K (.ref f4)=true)
  (a5:nsIn K mainGlobals "shelf_named" =some (some (.ref f5))) (l5:K.lookup f5=some ⟨oc5,od5,.func (fnOf "shelf_named" "shelf_named" (yR n5) (yM n5) (zK n5) .none kV5 dc5 pm5 an5 cd5 ct5),sl5⟩) (c5:codeIn K cd5 "shelf_named" =true) (k5:keepIn K (.ref f5)=true)
  (a6:nsIn K mainGlobals "shelf_place" =some (some (.ref f6))) (l6:K.lookup f6=some ⟨oc6,od6,.func (fnOf "shelf_place" "shelf_place" (yR qZ) (yM qZ) (zK qZ) .none kV6 dc6 pm6 an6 cd6 ct6),sl6⟩) (c6:codeIn K cd6 "shelf_place" =true) (k6:keepIn K (.ref f6)=true)
  (a7:nsIn K mainGlobals "value_by" =some (some (.ref f7))) (l7:K.lookup f7=some ⟨oc7,od7,.func (fnOf "value_by" "value_by" (yR n9) (yM n9) (zK n9) .none kV7 dc7 pm7 an7 cd7 ct7),sl7⟩) (c7:codeIn K cd7 "value_by" =true) (k7:keepIn K (.ref f7)=true)
  (a8:nsIn K mainGlobals "value_of_op" =some (some (.ref f8))) (l8:K.lookup f8=some ⟨oc8,od8,.func (fnOf "value_of_op" "value_of_op" (yR nA) (yM nA) (zK nA) .none kV8 dc8 pm8 an8 cd8 ct8),sl8⟩) (c8:codeIn K cd8 "value_of_op" =true) (k8:keepIn K (.ref f8)=true)
  (a9:nsIn K mainGlobals "value_of" =some (some (.ref f9))) (l9:K.lookup f9=some ⟨oc9,od9,.func (fnOf "value_of" "value_of" (yR xU) (yM xU) (zK xU) .none kV9 dc9 pm9 an9 (.ref c0) ct9),sl9⟩) (c9:codeIn K (.ref c0) "value_of" =true) (k9:keepIn K (.ref f9)=true)
  (a10:nsIn K mainGlobals "value_asked" =some (some (.ref f10))) (l10:K.lookup f10=some ⟨oc10,od10,.func (fnOf "value_asked" "value_asked" (yR n8) (yM n8) (zK n8) .none kV10 dc10 pm10 an10 cd10 ct10),sl10⟩) (c10:codeIn K cd10 "value_asked" =true) (k10:keepIn K (.ref f10)=true)
  (a11:nsIn K mainGlobals "begins" =some (some (.ref f11))) (l11:K.lookup f11=some ⟨oc11,od11,.func (fnOf "begins" "begins" (yR qW) (yM qW) (zK qW) .none kV11 dc11 pm11 an11 cd11 ct11),sl11⟩) (c11:codeIn K cd11 "begins" =true) (k11:keepIn K (.ref f11)=true)
  (a12:nsIn K mainGlobals "done" =some (some (.ref f12))) (l12:K.lookup f12=some ⟨oc12,od12,.func (fnOf "done" "done" (yR oW) (yM oW) (zK oW) .none kV12 dc12 pm12 an12 cd12 ct12),sl12⟩) (c12:codeIn K cd12 "done" =true) (k12:keepIn K (.ref f12)=true)
  (a13:nsIn K mainGlobals "made_by" =some (some (.ref f13))) (l13:K.lookup f13=some ⟨oc13,od13,.func (fnOf "made_by" "made_by" (yR oY) (yM oY) (zK oY) .none kV13 dc13 pm13 an13 cd13 ct13),sl13⟩) (c13:codeIn K cd13 "made_by" =true) (k13:keepIn K (.ref f13)=true)
  (a14:nsIn K mainGlobals "number_set" =some (some (.ref f14))) (l14:K.lookup f14=some ⟨oc14,od14,.func (fnOf "number_set" "number_set" (yR n4) (yM n4) (zK n4) .none kV14 dc14 pm14 an14 cd14 ct14),sl14⟩) (c14:codeIn K cd14 "number_set" =true) (k14:keepIn K (.ref f14)=true)
  (a15:nsIn K mainGlobals "_law_box" =some (some (.ref f15))) (l15:K.lookup f15=some ⟨oc15,od15,.func (fnOf "_law_box" "_law_box" (yR oF) (yM oF) (zK oF) .none kV15 dc15 pm15 an15 cd15 ct15),sl15⟩) (c15:codeIn K cd15 "_law_box" =true) (k15:keepIn K (.ref f15)=true)
  (a16:nsIn K mainGlobals "_law_take" =some (some (.ref f16))) (l16:K.lookup f16=some ⟨oc16,od16,.func (fnOf "_law_take" "_law_take" (yR oO) (yM oO) (zK oO) .none kV16 dc16 pm16 an16 cd16 ct16),sl16⟩) (c16:codeIn K cd16 "_law_take" =true) (k16:keepIn K (.ref f16)=true)
  (a17:nsIn K mainGlobals "_law_words" =some (some (.ref f17))) (l17:K.lookup f17=some ⟨oc17,od17,.func (fnOf "_law_words" "_law_words" (yR qU) (yM qU) (zK qU) .none kV17 dc17 pm17 an17 cd17 ct17),sl17⟩) (c17:codeIn K cd17 "_law_words" =true) (k17:keepIn K (.ref f17)=true)
  (a18:nsIn K mainGlobals "_law_number" =some (some (.ref f18))) (l18:K.lookup f18=some ⟨oc18,od18,.func (fnOf "_law_number" "_law_number" (yR oM) (yM oM) (zK oM) .none kV18 dc18 pm18 an18 cd18 ct18),sl18⟩) (c18:codeIn K cd18 "_law_number" =true) (k18:keepIn K (.ref f18)=true)
  (a19:nsIn K mainGlobals "_law_term" =some (some (.ref f19))) (l19:K.lookup f19=some ⟨oc19,od19,.func (fnOf "_law_term" "_law_term" (yR oP) (yM oP) (zK oP) .none kV19 dc19 pm19 an19 cd19 ct19),sl19⟩) (c19:codeIn K cd19 "_law_term" =true) (k19:keepIn K (.ref f19)=true)
  (a20:nsIn K mainGlobals "_law_any_term" =some (some (.ref f20))) (l20:K.lookup f20=some ⟨oc20,od20,.func (fnOf "_law_any_term" "_law_any_term" (yR oE) (yM oE) (zK oE) .none kV20 dc20 pm20 an20 cd20 ct20),sl20⟩) (c20:codeIn K cd20 "_law_any_term" =true) (k20:keepIn K (.ref f20)=true)
  (a21:nsIn K mainGlobals "_law_manner" =some (some (.ref f21))) (l21:K.lookup f21=some ⟨oc21,od21,.func (fnOf "_law_manner" "_law_manner" (yR oK) (yM oK) (zK oK) .none kV21 dc21 pm21 an21 cd21 ct21),sl21⟩) (c21:codeIn K cd21 "_law_manner" =true) (k21:keepIn K (.ref f21)=true)
  (a22:nsIn K mainGlobals "_law_begin" =some (some (.ref f22))) (l22:K.lookup f22=some ⟨oc22,od22,.func (fnOf "_law_begin" "_law_begin" (yR qP) (yM qP) (zK qP) .none kV22 dc22 pm22 an22 cd22 ct22),sl22⟩) (c22:codeIn K cd22 "_law_begin" =true) (k22:keepIn K (.ref f22)=true)
  (a23:nsIn K mainGlobals "_law_leaves" =some (some (.ref f23))) (l23:K.lookup f23=some ⟨oc23,od23,.func (fnOf "_law_leaves" "_law_leaves" (yR oH) (yM oH) (zK oH) .none kV23 dc23 pm23 an23 cd23 ct23),sl23⟩) (c23:codeIn K cd23 "_law_leaves" =true) (k23:keepIn K (.ref f23)=true)
  (a24:nsIn K mainGlobals "_law_deed" =some (some (.ref f24))) (l24:K.lookup f24=some ⟨oc24,od24,.func (fnOf "_law_deed" "_law_deed" (yR oG) (yM oG) (zK oG) .none kV24 dc24 pm24 an24 cd24 ct24),sl24⟩) (c24:codeIn K cd24 "_law_deed" =true) (k24:keepIn K (.ref f24)=true)
  (a25:nsIn K mainGlobals "_law_row" =some (some (.ref f25))) (l25:K.lookup f25=some ⟨oc25,od25,.func (fnOf "_law_row" "_law_row" (yR oN) (yM oN) (zK oN) .none kV25 dc25 pm25 an25 cd25 ct25),sl25⟩) (c25:codeIn K cd25 "_law_row" =true) (k25:keepIn K (.ref f25)=true)
  (a26:nsIn K mainGlobals "_law_leaf" =some (some (.ref f26))) (l26:K.lookup f26=some ⟨oc26,od26,.func (fnOf "_law_leaf" "_law_leaf" (yR qS) (yM qS) (zK qS) .none kV26 dc26 pm26 an26 cd26 ct26),sl26⟩) (c26:codeIn K cd26 "_law_leaf" =true) (k26:keepIn K (.ref f26)=true)
  (a27:nsIn K mainGlobals "_law_value" =some (some (.ref f27))) (l27:K.lookup f27=some ⟨oc27,od27,.func (fnOf "_law_value" "_law_value" (yR oQ) (yM oQ) (zK oQ) .none kV27 dc27 pm27 an27 cd27 ct27),sl27⟩) (c27:codeIn K cd27 "_law_value" =true) (k27:keepIn K (.ref f27)=true)
  (a28:nsIn K mainGlobals "_law_bag" =some (some (.ref f28))) (l28:K.lookup f28=some ⟨oc28,od28,.func (fnOf "_law_bag" "_law_bag" (yR qO) (yM qO) (zK qO) .none kV28 dc28 pm28 an28 cd28 ct28),sl28⟩) (c28:codeIn K cd28 "_law_bag" =true) (k28:keepIn K (.ref f28)=true)
  (a29:nsIn K mainGlobals "_law_made" =some (some (.ref f29))) (l29:K.lookup f29=some ⟨oc29,od29,.func (fnOf "_law_made" "_law_made" (yR oJ) (yM oJ) (zK oJ) .none kV29 dc29 pm29 an29 cd29 ct29),sl29⟩) (c29:codeIn K cd29 "_law_made" =true) (k29:keepIn K (.ref f29)=true)
  (a30:nsIn K mainGlobals "_law_done" =some (some (.ref f30))) (l30:K.lookup f30=some ⟨oc30,od30,.func (fnOf "_law_done" "_law_done" (yR qQ) (yM qQ) (zK qQ) .none kV30 dc30 pm30 an30 cd30 ct30),sl30⟩) (c30:codeIn K cd30 "_law_done" =true) (k30:keepIn K (.ref f30)=true)
  (a31:nsIn K mainGlobals "_law_plain" =some (some (.ref f31))) (l31:K.lookup f31=some ⟨oc31,od31,.func (fnOf "_law_plain" "_law_plain" (yR qT) (yM qT) (zK qT) .none kV31 dc31 pm31 an31 cd31 ct31),sl31⟩) (c31:codeIn K cd31 "_law_plain" =true) (k31:keepIn K (.ref f31)=true)
  (a32:nsIn K mainGlobals "_law_house" =some (some (.ref f32))) (l32:K.lookup f32=some ⟨oc32,od32,.func (fnOf "_law_house" "_law_house" (yR qR) (yM qR) (zK qR) .none kV32 dc32 pm32 an32 cd32 ct32),sl32⟩) (c32:codeIn K cd32 "_law_house" =true) (k32:keepIn K (.ref f32)=true)
  (a33:nsIn K mainGlobals "_law_at_the_end" =some (some (.ref f33))) (l33:K.lookup f33=some ⟨oc33,od33,.func (fnOf "_law_at_the_end" "_law_at_the_end" (yR qN) (yM qN) (zK qN) .none kV33 dc33 pm33 an33 cd33 ct33),sl33⟩) (c33:codeIn K cd33 "_law_at_the_end" =true) (k33:keepIn K (.ref f33)=true)
  (a34:nsIn K mainGlobals "law" =some (some (.ref f34))) (l34:K.lookup f34=some ⟨oc34,od34,.func (fnOf "law" "law" (yR s9) (yM s9) (zK s9) .none kV34 dc34 pm34 an34 cd34 ct34),sl34⟩) (c34:codeIn K cd34 "law" =true) (k34:keepIn K (.ref f34)=true)
  (zn0:nsIn K mainGlobals "len" =some none)
  (zn1:nsIn K mainGlobals "int" =some none)
  (zn2:nsIn K mainGlobals "range" =some none)
  (zn3:nsIn K mainGlobals "tuple" =some none)
  (zn4:nsIn K mainGlobals "isinstance" =some none)
  (zn5:nsIn K mainGlobals "bool" =some none)
  (zn6:nsIn K mainGlobals "str" =some none)
  (zn7:nsIn K mainGlobals "dict" =some none)
  (zn8:nsIn K mainGlobals "list" =some none)
  (zn9:nsIn K mainGlobals "sorted" =some none)
  (zn10:nsIn K mainGlobals "min" =some none)
  (zn11:nsIn K mainGlobals "max" =some none)
  (zn12:nsIn K mainGlobals "all" =some none)
  (zn13:nsIn K mainGlobals "set" =some none)
  (zn14:nsIn K mainGlobals "enumerate" =some none)
  (zc0:nsIn K mainGlobals "WIDE" =some (some (.int 4294967296 tW)))
  (lc:K.lookup c0=some ⟨.type "code",odc,.fields vsc,slc⟩) (v11:vsc[11]?=some (.ref T)) (v18:vsc.getD 18 .none= .str x18 t18) (v7:vsc.getD 7 .none= .int x7 t7) (v9:vsc.getD 9 .none= .bool x9) (v10:vsc.getD 10 .none= .int x10 t10) (ncT:(c0 !=T)=true) (lT:K.lookup T=none):
  ∃(fd:FuncData) (c0 T:Addr),PySem.W.tabIn K "value_of" =some (c0,T)/\K.lookup T=none/\(∀(s:Shared) (v:Value),BindsTo s fd ⟨[v],[]⟩ [("_law_script",v)])/\∀base:Heap,K.In base->base.Ns mainGlobals mg->base.BuiltinsAt mg T->zJ l.prog w K mg base zI 16 fa fd ["_law_script"] (zN K (jF T)):=by
 have e:=hfa.symm.trans (mg_of X G a34);cases e;have F1:=x6 (st:=oZ) l1 c1 k1;have F2:=x6 (st:=oS) l2 c2 k2;have F3:=x6 (st:=qV) l3 c3 k3;have F4:=x6 (st:=qX) l4 c4 k4;have F5:=x6 (st:=n5) l5 c5 k5;have F6:=x6 (st:=qZ) l6 c6 k6;have F7:=x6 (st:=n9) l7 c7 k7;have F8:=x6 (st:=nA) l8 c8 k8;have F9:=x6 (st:=xU) l9 c9 k9;have F10:=x6 (st:=n8) l10 c10 k10;have F11:=x6 (st:=qW) l11 c11 k11;have F12:=x6 (st:=oW) l12 c12 k12;have F13:=x6 (st:=oY) l13 c13 k13;have F14:=x6 (st:=n4) l14 c14 k14;have F15:=x6 (st:=oF) l15 c15 k15;have F16:=x6 (st:=oO) l16 c16 k16;have F17:=x6 (st:=qU) l17 c17 k17;have F18:=x6 (st:=oM) l18 c18 k18;have F19:=x6 (st:=oP) l19 c19 k19;have F20:=x6 (st:=oE) l20 c20 k20;have F21:=x6 (st:=oK) l21 c21 k21;have F22:=x6 (st:=qP) l22 c22 k22;have F23:=x6 (st:=oH) l23 c23 k23;have F24:=x6 (st:=oG) l24 c24 k24;have F25:=x6 (st:=oN) l25 c25 k25;have F26:=x6 (st:=qS) l26 c26 k26;have F27:=x6 (st:=oQ) l27 c27 k27;have F28:=x6 (st:=qO) l28 c28 k28;have F29:=x6 (st:=oJ) l29 c29 k29;have F30:=x6 (st:=qQ) l30 c30 k30;have F31:=x6 (st:=qT) l31 c31 k31;have F32:=x6 (st:=qR) l32 c32 k32;have F33:=x6 (st:=qN) l33 c33 k33;have F34:=x6 (st:=s9) l34 c34 k34;have b1:=F1.binds (ps:= ["bag","word"]) λ_ _ _ _ _ _ us hl=>by obtain⟨x0,x1,rfl⟩:=tJ hl;rfl
 have m1:=mg_of X G a1;have b2:=F2.binds (ps:= ["bag","word","many"]) λ_ _ _ _ _ _ us hl=>by obtain⟨x0,x1,x2,rfl⟩:=vL hl;rfl
 have m2:=mg_of X G a2;have b3:=F3.binds (ps:= ["one","other"]) λ_ _ _ _ _ _ us hl=>by obtain⟨x0,x1,rfl⟩:=tJ hl;rfl
 have m3:=mg_of X G a3;have b4:=F4.binds (ps:= ["tuples","word"]) λ_ _ _ _ _ _ us hl=>by obtain⟨x0,x1,rfl⟩:=tJ hl;rfl
 have m4:=mg_of X G a4;have b5:=F5.binds (ps:= ["program","S"]) λ_ _ _ _ _ _ us hl=>by obtain⟨x0,x1,rfl⟩:=tJ hl;rfl
 have m5:=mg_of X G a5;have b6:=F6.binds (ps:= ["program","S"]) λ_ _ _ _ _ _ us hl=>by obtain⟨x0,x1,rfl⟩:=tJ hl;rfl
 have m6:=mg_of X G a6;have b7:=F7.binds (ps:= ["term","asked"]) λ_ _ _ _ _ _ us hl=>by obtain⟨x0,x1,rfl⟩:=tJ hl;rfl
 have m7:=mg_of X G a7;have b8:=F8.binds (ps:= ["sign","one","other"]) λ_ _ _ _ _ _ us hl=>by obtain⟨x0,x1,x2,rfl⟩:=vL hl;rfl
 have m8:=mg_of X G a8;have b9:=F9.binds (ps:= ["program","house","term"]) λ_ _ _ _ _ _ us hl=>by obtain⟨x0,x1,x2,rfl⟩:=vL hl;rfl
 have m9:=mg_of X G a9;have b10:=F10.binds (ps:= ["program","house","leaf"]) λ_ _ _ _ _ _ us hl=>by obtain⟨x0,x1,x2,rfl⟩:=vL hl;rfl
 have m10:=mg_of X G a10;have b11:=F11.binds (ps:= ["program"]) λ_ _ _ _ _ _ us hl=>by obtain⟨x0,rfl⟩:=iG hl;rfl
 have m11:=mg_of X G a11;have b12:=F12.binds (ps:= ["program","house","row"]) λ_ _ _ _ _ _ us hl=>by obtain⟨x0,x1,x2,rfl⟩:=vL hl;rfl
 have m12:=mg_of X G a12;have b13:=F13.binds (ps:= ["program","house","deed"]) λ_ _ _ _ _ _ us hl=>by obtain⟨x0,x1,x2,rfl⟩:=vL hl;rfl
 have m13:=mg_of X G a13;have b14:=F14.binds (ps:= ["manner","number"]) λ_ _ _ _ _ _ us hl=>by obtain⟨x0,x1,rfl⟩:=tJ hl;rfl
 have m14:=mg_of X G a14;have b15:=F15.binds (ps:= ["_law_script","_law_k"]) λ_ _ _ _ _ _ us hl=>by obtain⟨x0,x1,rfl⟩:=tJ hl;rfl
 have m15:=mg_of X G a15;have b16:=F16.binds (ps:= ["_law_box_here","_law_many"]) λ_ _ _ _ _ _ us hl=>by obtain⟨x0,x1,rfl⟩:=tJ hl;rfl
 have m16:=mg_of X G a16;have b17:=F17.binds (ps:= ["_law_box_here","_law_many"]) λ_ _ _ _ _ _ us hl=>by obtain⟨x0,x1,rfl⟩:=tJ hl;rfl
 have m17:=mg_of X G a17;have b18:=F18.binds (ps:= ["_law_box_here"]) λ_ _ _ _ _ _ us hl=>by obtain⟨x0,rfl⟩:=iG hl;rfl
 have m18:=mg_of X G a18;have b19:=F19.binds (ps:= ["_law_box_here","_law_leaves_here","_law_room","_law_deep"]) λ_ _ _ _ _ _ us hl=>by obtain⟨x0,x1,x2,x3,rfl⟩:=iH hl;rfl
 have m19:=mg_of X G a19;have b20:=F20.binds (ps:= ["_law_box_here","_law_leaves_here"]) λ_ _ _ _ _ _ us hl=>by obtain⟨x0,x1,rfl⟩:=tJ hl;rfl
 have m20:=mg_of X G a20;have b21:=F21.binds (ps:= ["_law_box_here","_law_kinds","_law_calm"]) λ_ _ _ _ _ _ us hl=>by obtain⟨x0,x1,x2,rfl⟩:=vL hl;rfl
 have m21:=mg_of X G a21;have b22:=F22.binds (ps:= ["_law_box_here","_law_manner_here","_law_things"]) λ_ _ _ _ _ _ us hl=>by obtain⟨x0,x1,x2,rfl⟩:=vL hl;rfl
 have m22:=mg_of X G a22;have b23:=F23.binds (ps:= ["_law_box_here","_law_shelves","_law_things"]) λ_ _ _ _ _ _ us hl=>by obtain⟨x0,x1,x2,rfl⟩:=vL hl;rfl
 have m23:=mg_of X G a23;have b24:=F24.binds (ps:= ["_law_box_here","_law_shelf","_law_leaves_here","_law_things"]) λ_ _ _ _ _ _ us hl=>by obtain⟨x0,x1,x2,x3,rfl⟩:=iH hl;rfl
 have m24:=mg_of X G a24;have b25:=F25.binds (ps:= ["_law_box_here","_law_uses","_law_things"]) λ_ _ _ _ _ _ us hl=>by obtain⟨x0,x1,x2,rfl⟩:=vL hl;rfl
 have m25:=mg_of X G a25;have b26:=F26.binds (ps:= ["_law_program","_law_house_here","_law_term_here"]) λ_ _ _ _ _ _ us hl=>by obtain⟨x0,x1,x2,rfl⟩:=vL hl;rfl
 have m26:=mg_of X G a26;have b27:=F27.binds (ps:= ["_law_program","_law_house_here","_law_term_here"]) λ_ _ _ _ _ _ us hl=>by obtain⟨x0,x1,x2,rfl⟩:=vL hl;rfl
 have m27:=mg_of X G a27;have b28:=F28.binds (ps:= ["_law_numbers"]) λ_ _ _ _ _ _ us hl=>by obtain⟨x0,rfl⟩:=iG hl;rfl
 have m28:=mg_of X G a28;have b29:=F29.binds (ps:= ["_law_program","_law_house_here","_law_deed_here","_law_at"]) λ_ _ _ _ _ _ us hl=>by obtain⟨x0,x1,x2,x3,rfl⟩:=iH hl;rfl
 have m29:=mg_of X G a29;have b30:=F30.binds (ps:= ["_law_program","_law_house_here","_law_row_here"]) λ_ _ _ _ _ _ us hl=>by obtain⟨x0,x1,x2,rfl⟩:=vL hl;rfl
 have m30:=mg_of X G a30;have b31:=F31.binds (ps:= ["_law_value_here"]) λ_ _ _ _ _ _ us hl=>by obtain⟨x0,rfl⟩:=iG hl;rfl
 have m31:=mg_of X G a31;have b32:=F32.binds (ps:= ["_law_box_here","_law_program","_law_things"]) λ_ _ _ _ _ _ us hl=>by obtain⟨x0,x1,x2,rfl⟩:=vL hl;rfl
 have m32:=mg_of X G a32;have b33:=F33.binds (ps:= ["_law_box_here","_law_program","_law_house_here","_law_things"]) λ_ _ _ _ _ _ us hl=>by obtain⟨x0,x1,x2,x3,rfl⟩:=iH hl;rfl
 have m33:=mg_of X G a33;have M:Mo K mg:=⟨mg_none_of X G zn0,mg_none_of X G zn1,mg_none_of X G zn2,mg_none_of X G zn3,mg_none_of X G zn4,mg_none_of X G zn5,mg_none_of X G zn6,mg_none_of X G zn7,mg_none_of X G zn8,mg_none_of X G zn9,mg_none_of X G zn10,mg_none_of X G zn11,mg_none_of X G zn12,mg_none_of X G zn13,mg_none_of X G zn14,⟨_,_,F1,b1,m1⟩,⟨_,_,F2,b2,m2⟩,⟨_,_,F3,b3,m3⟩,⟨_,_,F4,b4,m4⟩,⟨_,_,F5,b5,m5⟩,⟨_,_,F6,b6,m6⟩,⟨_,_,F7,b7,m7⟩,⟨_,_,F8,b8,m8⟩,⟨_,_,F9,b9,m9⟩,⟨_,_,F10,b10,m10⟩,⟨_,_,F11,b11,m11⟩,⟨_,_,F12,b12,m12⟩,⟨_,_,F13,b13,m13⟩,⟨_,_,F14,b14,m14⟩,⟨_,_,F15,b15,m15⟩,⟨_,_,F16,b16,m16⟩,⟨_,_,F17,b17,m17⟩,⟨_,_,F18,b18,m18⟩,⟨_,_,F19,b19,m19⟩,⟨_,_,F20,b20,m20⟩,⟨_,_,F21,b21,m21⟩,⟨_,_,F22,b22,m22⟩,⟨_,_,F23,b23,m23⟩,⟨_,_,F24,b24,m24⟩,⟨_,_,F25,b25,m25⟩,⟨_,_,F26,b26,m26⟩,⟨_,_,F27,b27,m27⟩,⟨_,_,F28,b28,m28⟩,⟨_,_,F29,b29,m29⟩,⟨_,_,F30,b30,m30⟩,⟨_,_,F31,b31,m31⟩,⟨_,_,F32,b32,m32⟩,⟨_,_,F33,b33,m33⟩,⟨_,mg_of X G zc0⟩⟩;have FC:sZ K "value_of" "value_of" xU f9 (fnOf "value_of" "value_of" (yR xU) (yM xU) (zK xU) .none kV9 dc9 pm9 an9 (.ref c0) ct9) c0:=⟨⟨_,_,_,_,_,_,_,_,rfl,l9,c9⟩,k9⟩;have hC:PySem.W.codeHdIn K c0 T=true:=by
  unfold PySem.W.codeHdIn;rw[lc];show((match(vsc[11]?:Option Value)with | some (.ref P')=>P'==T | _=>false)&&(match vsc.getD 18 .none with | .str _ _=>true | _=>false)&&(match vsc.getD 7 .none with | .int _ _=>true | _=>false)&&(match vsc.getD 9 .none with | .bool _=>true | _=>false)&&(match vsc.getD 10 .none with | .int _ _=>true | _=>false)&&c0 !=T)=true;rw[v11,v18,v7,v9,v10,ncT];simp
 have hT:PySem.W.tabIn K "value_of" =some (c0,T):=by
  unfold PySem.W.tabIn;rw[a9];show(match K.lookup f9 with | some ⟨_,_,.func fd,_⟩=>(match fd.code with | .ref c=>(match K.lookup c with | some ⟨_,_,.fields vs,_⟩=>(match(vs[11]?:Option Value)with | some (.ref P)=>some (c,P) | _=>none) | _=>none) | _=>none) | _=>none)=_;rw[l9];show(match K.lookup c0 with | some ⟨_,_,.fields vs,_⟩=>(match(vs[11]?:Option Value)with | some (.ref P)=>some (c0,P) | _=>none) | _=>none)=_;rw[lc];show(match(vsc[11]?:Option Value)with | some (.ref P)=>some (c0,P) | _=>none)=_;rw[v11]
 exact⟨fnOf "law" "law" (yR s9) (yM s9) (zK s9) .none kV34 dc34 pm34 an34 cd34 ct34,c0,T,hT,lT,λs v=> .of_eq rfl,λbase _ _ hB=>znn M FC hC hB F9 b9 m9 F34⟩
theorem zlP {K:Frag}{H:Hp}{T a:Addr}{ns:List Int}(hl:ns.length<=63)(hO:i6 T H)(hS:x5 K H a (ns.map V.int)){E:XK} :zN K (jF T) [.ref a] H (λv _=>v= .bl true) E:=by
 refine⟨[T],[.tbl T u8 wU],[.lst (ns.map PV.int)],λr _=>r= .bl true,⟨by simp,rfl,λi a o h1 h2=> ?_⟩,.cons (.val (.lst (hS.imp (λh=>⟨h,λz=> ?_⟩) id) ?_ (zff ns))) .nil,⟨ns,rfl,rfl,hl,λ_=>rfl⟩,λA' H' st' r v g s e q=> ?_⟩
 ·cases i with
  | zero=>cases h1;cases h2;exact⟨rfl,#[],hO.1,.inl rfl⟩
  | succ i=>cases h1
 ·cases List.mem_singleton.mp z
  rcases h with h | ⟨o,h⟩
  ·rw[hO.1]at h;cases h
  ·rw[hO.1]at h;cases h
 ·rw[List.length_map];exact Nat.le_trans hl (by decide)
 ·subst q;exact zdl e
theorem walk {l:PySem.W.OpenLaw}{q:Program}{loose:List Str}{XP:(Str->Option Value)->Heap->Prop}{YP:World->Heap->Prop}{d:DefRec}{K:Params->Frag}(hn:l.most=some 63)(hdf:d.params.defaults= [])(hrec: ∃e,(PyProof.Rows.recsOf q).find? (λe=>e.name==("value_of" :Str))=some e)
  (hY: ∀(w:World) (h:Heap),YP w h->(K w.params).In h)
  (F: ∀(w:World) (mg:Str->Option Value) (fa:Addr) (h:Heap),(K w.params).In h->h.Ns mainGlobals mg->mg d.name=some (.ref fa)->
   ∃(fd:FuncData) (c0 T:Addr),PySem.W.tabIn (K w.params) "value_of" =some (c0,T)/\(K w.params).lookup T=none/\(∀(s:Shared) (u:Value),BindsTo s fd ⟨[u],[]⟩ [("_law_script",u)])/\∀base:Heap,(K w.params).In base->base.Ns mainGlobals mg->base.BuiltinsAt mg T->zJ l.prog w (K w.params) mg base zI 16 fa fd ["_law_script"] (zN (K w.params) (jF T))):
  PySem.W.WalkO q loose XP YP l.row.toRowW d [] (λf vs=>PySem.call f vs):=
 L2.walk_ofT (n:=63) (k:=16) (x:= "_law_script") (tn:= "value_of") (sp:=λT w=>zN (K w.params) (jF T)) hn (by decide) hdf ⟨rfl,by decide,by decide⟩ hrec hY F (λ_ _ _ a ns hl hO hS=>zlP hl hO hS)
end N32
set_option maxHeartbeats 0
namespace Hd
noncomputable section
open PySem PySem.W L2
abbrev pg:Program:=PySem.Challenge.pw_copiedhouse_k32_deeds
def tp (i:Nat):Stmt:=pg.main.body.getD i (.Pass ⟨0,0,0,0⟩)
def en (P:Params)(x:Str)(t:Nat)(v:Value):DictEntry:=⟨PyData.keyHash P x,.str x t,v⟩
def tu (l:List Value):Obj:=⟨.type "tuple",none,.seq l.toArray 0,#[]⟩
def fl (l:List Value):Obj:=⟨.none,none,.fields l.toArray,#[]⟩
def co (l:List Value):Obj:=⟨.type "code",none,.fields l.toArray,#[]⟩
def fn (n q:Str)(s:Stmt)(g:Nat)(cl:List (Str×Addr))(d k dc pm:Value)(an:Option Addr)(cd ct:Value)(b:Nat):FuncData:= {name:=n,qualname:=q,params:=yR s,body:= .stmts (yM s),scope:=zK s,globals:=g,closure:=cl,defaults:=d,kwdefaults:=k,doc:=dc,pyModule:=pm,annotations:=an,code:=cd,closureTuple:=ct,builtins:=b}
def fu (f:FuncData):Obj:=⟨.type "function",none,.func f,#[]⟩
def fp (f:FuncData):Obj:=⟨.none,none,.func f,#[]⟩
def li:Life:= {}
abbrev an:Option Value:=some (.ref 6)
def ev:Env:= {scope:=pg.main.scope,locals:=mainNs,globals:=mainNs,cells:= [],code:= .ref 13,frame:=some 14}
abbrev cE:Code:= .body (behindTheImports pg) ev
abbrev B:List Frame:= [topFrame ⟨0,0,0,0⟩]
abbrev gs:Array GenState:=Array.mk []
def f3 (P:Params):Obj:=⟨.type "dict",none,.dict #[en P "__name__" 165 (.str "law_copiedhouse_k32_deeds" 317),en P "__doc__" 166 (.none),en P "__package__" 167 (.none),en P "__loader__" 168 (.builtin "__main__.__loader__#opaque"),en P "__spec__" 169 (.none),en P "__annotations__" 170 (.ref 6),en P "__builtins__" 171 (.ref 4),en P "__file__" 173 (.str "/claim/cut.py" 172),en P "__cached__" 174 (.none),en P "many_of" 196 (.ref 21),en P "bag_with" 205 (.ref 28),en P "bags_added" 211 (.ref 33),en P "first_called" 219 (.ref 38),en P "shelf_named" 227 (.ref 45),en P "shelf_place" 233 (.ref 50),en P "WIDE" 235 (.int 4294967296 234),en P "value_by" 246 (.ref 57),en P "value_of_op" 255 (.ref 64),en P "value_of" 268 (.ref 71),en P "value_asked" 278 (.ref 78),en P "begins" 286 (.ref 83),en P "done" 297 (.ref 90),en P "made_by" 308 (.ref 97),en P "number_set" 316 (.ref 104),en P "_law_box" 328 (.ref 111),en P "_law_take" 338 (.ref 118),en P "_law_words" 344 (.ref 123),en P "_law_number" 352 (.ref 130),en P "_law_term" 367 (.ref 137),en P "_law_any_term" 376 (.ref 144),en P "_law_manner" 388 (.ref 151),en P "_law_begin" 394 (.ref 156),en P "_law_leaves" 407 (.ref 163),en P "_law_deed" 422 (.ref 170),en P "_law_row" 435 (.ref 177),en P "_law_leaf" 441 (.ref 182),en P "_law_value" 454 (.ref 189),en P "_law_bag" 460 (.ref 194),en P "_law_made" 475 (.ref 201),en P "_law_done" 481 (.ref 206),en P "_law_plain" 487 (.ref 211),en P "_law_house" 493 (.ref 216),en P "_law_at_the_end" 499 (.ref 221),en P "law" 505 (.ref 226)] 44,#[]⟩
def f11 (P:Params):Obj:=tu []
def f12 (P:Params):Obj:=fl [.int 2 0,.int 0 0,.ref 20,.int 4 0,.int 0 0,.ref 27,.int 6 0,.int 0 0,.ref 32,.int 12 0,.int 0 0,.ref 37,.int 14 0,.int 0 0,.ref 44,.int 16 0,.int 0 0,.ref 49,.int 20 0,.int 0 0,.ref 56,.int 29 0,.int 0 0,.ref 63,.int 40 0,.int 0 0,.ref 70,.int 42 0,.int 0 0,.ref 77,.int 50 0,.int 0 0,.ref 82,.int 52 0,.int 0 0,.ref 89,.int 62 0,.int 0 0,.ref 96,.int 76 0,.int 0 0,.ref 103,.int 81 0,.int 0 0,.ref 110,.int 89 0,.int 0 0,.ref 117,.int 97 0,.int 0 0,.ref 122,.int 114 0,.int 0 0,.ref 129,.int 121 0,.int 0 0,.ref 136,.int 135 0,.int 0 0,.ref 143,.int 138 0,.int 0 0,.ref 150,.int 147 0,.int 0 0,.ref 155,.int 161 0,.int 0 0,.ref 162,.int 169 0,.int 0 0,.ref 169,.int 184 0,.int 0 0,.ref 176,.int 193 0,.int 0 0,.ref 181,.int 200 0,.int 0 0,.ref 188,.int 212 0,.int 0 0,.ref 193,.int 214 0,.int 0 0,.ref 200,.int 234 0,.int 0 0,.ref 205,.int 245 0,.int 0 0,.ref 210,.int 249 0,.int 0 0,.ref 215,.int 257 0,.int 0 0,.ref 220,.int 266 0,.int 0 0,.ref 225]
def f13 (P:Params):Obj:=co [.str "<module>" 182,.str "<module>" 183,.str "/claim/cut.py" 184,.int 1 0,.int 0 0,.int 0 0,.int 0 0,.int 0 0,.ref 11,.bool false,.int 181 0,.ref 12,.none,.none,.none,.none,.int 185 0,.int 1 0,.str "/claim/cut.py" 186]
def f14 (P:Params):Obj:=⟨.type "frame",none,.plain,#[some (.ref 13),some (.ref 3),some (.ref 3),none,some (.str "__main__" 164),none,some (.ref 0)]⟩
def f15 (P:Params):Obj:=tu []
def f16 (P:Params):Obj:=fl []
def f17 (P:Params):Obj:=tu [.str "bag" 192,.str "word" 193]
def f18 (P:Params):Obj:=tu []
def f19 (P:Params):Obj:=fp (fn "many_of" "many_of" (tp 1) 0 [] (.none) (.none) (.none) (.none) (none) (.none) (.none) 0)
def f20 (P:Params):Obj:=co [.str "many_of" 189,.str "many_of" 190,.str "/claim/cut.py" 191,.int 2 0,.int 2 0,.int 0 0,.int 0 0,.int 3 0,.ref 15,.bool true,.int 181 0,.ref 16,.none,.ref 17,.ref 18,.ref 19,.int 194 0,.int 2 0,.str "/claim/cut.py" 195]
def f21 (P:Params):Obj:=fu (fn "many_of" "many_of" (tp 1) 3 [] (.none) (.none) (.none) (.str "copiedhouse.bags" 187) (none) (.ref 20) (.none) 0)
def f22 (P:Params):Obj:=tu []
def f23 (P:Params):Obj:=fl []
def f24 (P:Params):Obj:=tu [.str "bag" 200,.str "word" 201,.str "many" 202]
def f25 (P:Params):Obj:=tu []
def f26 (P:Params):Obj:=fp (fn "bag_with" "bag_with" (tp 2) 0 [] (.none) (.none) (.none) (.none) (none) (.none) (.none) 0)
def f27 (P:Params):Obj:=co [.str "bag_with" 197,.str "bag_with" 198,.str "/claim/cut.py" 199,.int 4 0,.int 3 0,.int 0 0,.int 0 0,.int 3 0,.ref 22,.bool true,.int 181 0,.ref 23,.none,.ref 24,.ref 25,.ref 26,.int 203 0,.int 4 0,.str "/claim/cut.py" 204]
def f28 (P:Params):Obj:=fu (fn "bag_with" "bag_with" (tp 2) 3 [] (.none) (.none) (.none) (.str "copiedhouse.bags" 187) (none) (.ref 27) (.none) 0)
def f29 (P:Params):Obj:=tu []
def f30 (P:Params):Obj:=fl []
def f31 (P:Params):Obj:=fp (fn "bags_added" "bags_added" (tp 3) 0 [] (.none) (.none) (.none) (.none) (none) (.none) (.none) 0)
def f32 (P:Params):Obj:=co [.str "bags_added" 206,.str "bags_added" 207,.str "/claim/cut.py" 208,.int 6 0,.int 2 0,.int 0 0,.int 0 0,.int 3 0,.ref 29,.bool true,.int 181 0,.ref 30,.none,.none,.none,.ref 31,.int 209 0,.int 6 0,.str "/claim/cut.py" 210]
def f33 (P:Params):Obj:=fu (fn "bags_added" "bags_added" (tp 3) 3 [] (.none) (.none) (.none) (.str "copiedhouse.bags" 187) (none) (.ref 32) (.none) 0)
def f34 (P:Params):Obj:=tu []
def f35 (P:Params):Obj:=fl []
def f36 (P:Params):Obj:=fp (fn "first_called" "first_called" (tp 5) 0 [] (.none) (.none) (.none) (.none) (none) (.none) (.none) 0)
def f37 (P:Params):Obj:=co [.str "first_called" 214,.str "first_called" 215,.str "/claim/cut.py" 216,.int 12 0,.int 2 0,.int 0 0,.int 0 0,.int 3 0,.ref 34,.bool true,.int 181 0,.ref 35,.none,.none,.none,.ref 36,.int 217 0,.int 12 0,.str "/claim/cut.py" 218]
def f38 (P:Params):Obj:=fu (fn "first_called" "first_called" (tp 5) 3 [] (.none) (.none) (.none) (.str "copiedhouse.lists" 212) (none) (.ref 37) (.none) 0)
def f39 (P:Params):Obj:=tu []
def f40 (P:Params):Obj:=fl []
def f41 (P:Params):Obj:=tu [.str "program" 223,.str "S" 224]
def f42 (P:Params):Obj:=tu []
def f43 (P:Params):Obj:=fp (fn "shelf_named" "shelf_named" (tp 6) 0 [] (.none) (.none) (.none) (.none) (none) (.none) (.none) 0)
def f44 (P:Params):Obj:=co [.str "shelf_named" 220,.str "shelf_named" 221,.str "/claim/cut.py" 222,.int 14 0,.int 2 0,.int 0 0,.int 0 0,.int 3 0,.ref 39,.bool true,.int 181 0,.ref 40,.none,.ref 41,.ref 42,.ref 43,.int 225 0,.int 14 0,.str "/claim/cut.py" 226]
def f45 (P:Params):Obj:=fu (fn "shelf_named" "shelf_named" (tp 6) 3 [] (.none) (.none) (.none) (.str "copiedhouse.lists" 212) (none) (.ref 44) (.none) 0)
def f46 (P:Params):Obj:=tu []
def f47 (P:Params):Obj:=fl []
def f48 (P:Params):Obj:=fp (fn "shelf_place" "shelf_place" (tp 7) 0 [] (.none) (.none) (.none) (.none) (none) (.none) (.none) 0)
def f49 (P:Params):Obj:=co [.str "shelf_place" 228,.str "shelf_place" 229,.str "/claim/cut.py" 230,.int 16 0,.int 2 0,.int 0 0,.int 0 0,.int 3 0,.ref 46,.bool true,.int 181 0,.ref 47,.none,.none,.none,.ref 48,.int 231 0,.int 16 0,.str "/claim/cut.py" 232]
def f50 (P:Params):Obj:=fu (fn "shelf_place" "shelf_place" (tp 7) 3 [] (.none) (.none) (.none) (.str "copiedhouse.lists" 212) (none) (.ref 49) (.none) 0)
def f51 (P:Params):Obj:=tu []
def f52 (P:Params):Obj:=fl []
def f53 (P:Params):Obj:=tu [.str "term" 241,.str "asked" 242,.str "guard" 243]
def f54 (P:Params):Obj:=tu []
def f55 (P:Params):Obj:=fp (fn "value_by" "value_by" (tp 10) 0 [] (.none) (.none) (.none) (.none) (none) (.none) (.none) 0)
def f56 (P:Params):Obj:=co [.str "value_by" 238,.str "value_by" 239,.str "/claim/cut.py" 240,.int 20 0,.int 2 0,.int 0 0,.int 0 0,.int 3 0,.ref 51,.bool true,.int 181 0,.ref 52,.none,.ref 53,.ref 54,.ref 55,.int 244 0,.int 20 0,.str "/claim/cut.py" 245]
def f57 (P:Params):Obj:=fu (fn "value_by" "value_by" (tp 10) 3 [] (.none) (.none) (.none) (.str "copiedhouse.told" 236) (none) (.ref 56) (.none) 0)
def f58 (P:Params):Obj:=tu []
def f59 (P:Params):Obj:=fl []
def f60 (P:Params):Obj:=tu [.str "sign" 250,.str "one" 251,.str "other" 252]
def f61 (P:Params):Obj:=tu []
def f62 (P:Params):Obj:=fp (fn "value_of_op" "value_of_op" (tp 11) 0 [] (.none) (.none) (.none) (.none) (none) (.none) (.none) 0)
def f63 (P:Params):Obj:=co [.str "value_of_op" 247,.str "value_of_op" 248,.str "/claim/cut.py" 249,.int 29 0,.int 3 0,.int 0 0,.int 0 0,.int 3 0,.ref 58,.bool true,.int 181 0,.ref 59,.none,.ref 60,.ref 61,.ref 62,.int 253 0,.int 29 0,.str "/claim/cut.py" 254]
def f64 (P:Params):Obj:=fu (fn "value_of_op" "value_of_op" (tp 11) 3 [] (.none) (.none) (.none) (.str "copiedhouse.told" 236) (none) (.ref 63) (.none) 0)
def f65 (P:Params):Obj:=tu []
def f66 (P:Params):Obj:=fl []
def f67 (P:Params):Obj:=tu [.str "program" 261,.str "house" 262,.str "term" 263]
def f68 (P:Params):Obj:=tu [.str "program" 264,.str "house" 265]
def f69 (P:Params):Obj:=fp (fn "value_of" "value_of" (tp 13) 0 [] (.none) (.none) (.none) (.none) (none) (.none) (.none) 0)
def f70 (P:Params):Obj:=co [.str "value_of" 258,.str "value_of" 259,.str "/claim/cut.py" 260,.int 40 0,.int 3 0,.int 0 0,.int 0 0,.int 3 0,.ref 65,.bool true,.int 181 0,.ref 66,.none,.ref 67,.ref 68,.ref 69,.int 266 0,.int 40 0,.str "/claim/cut.py" 267]
def f71 (P:Params):Obj:=fu (fn "value_of" "value_of" (tp 13) 3 [] (.none) (.none) (.none) (.str "copiedhouse.terms" 256) (none) (.ref 70) (.none) 0)
def f72 (P:Params):Obj:=tu []
def f73 (P:Params):Obj:=fl []
def f74 (P:Params):Obj:=tu [.str "program" 272,.str "house" 273,.str "leaf" 274,.str "value" 275]
def f75 (P:Params):Obj:=tu []
def f76 (P:Params):Obj:=fp (fn "value_asked" "value_asked" (tp 14) 0 [] (.none) (.none) (.none) (.none) (none) (.none) (.none) 0)
def f77 (P:Params):Obj:=co [.str "value_asked" 269,.str "value_asked" 270,.str "/claim/cut.py" 271,.int 42 0,.int 3 0,.int 0 0,.int 0 0,.int 3 0,.ref 72,.bool true,.int 181 0,.ref 73,.none,.ref 74,.ref 75,.ref 76,.int 276 0,.int 42 0,.str "/claim/cut.py" 277]
def f78 (P:Params):Obj:=fu (fn "value_asked" "value_asked" (tp 14) 3 [] (.none) (.none) (.none) (.str "copiedhouse.terms" 256) (none) (.ref 77) (.none) 0)
def f79 (P:Params):Obj:=tu []
def f80 (P:Params):Obj:=fl []
def f81 (P:Params):Obj:=fp (fn "begins" "begins" (tp 16) 0 [] (.none) (.none) (.none) (.none) (none) (.none) (.none) 0)
def f82 (P:Params):Obj:=co [.str "begins" 281,.str "begins" 282,.str "/claim/cut.py" 283,.int 50 0,.int 1 0,.int 0 0,.int 0 0,.int 3 0,.ref 79,.bool true,.int 181 0,.ref 80,.none,.none,.none,.ref 81,.int 284 0,.int 50 0,.str "/claim/cut.py" 285]
def f83 (P:Params):Obj:=fu (fn "begins" "begins" (tp 16) 3 [] (.none) (.none) (.none) (.str "copiedhouse.deeds" 279) (none) (.ref 82) (.none) 0)
def f84 (P:Params):Obj:=tu []
def f85 (P:Params):Obj:=fl []
def f86 (P:Params):Obj:=tu [.str "program" 290,.str "house" 291,.str "row" 292,.str "place" 293,.str "made" 294]
def f87 (P:Params):Obj:=tu []
def f88 (P:Params):Obj:=fp (fn "done" "done" (tp 17) 0 [] (.none) (.none) (.none) (.none) (none) (.none) (.none) 0)
def f89 (P:Params):Obj:=co [.str "done" 287,.str "done" 288,.str "/claim/cut.py" 289,.int 52 0,.int 3 0,.int 0 0,.int 0 0,.int 3 0,.ref 84,.bool true,.int 181 0,.ref 85,.none,.ref 86,.ref 87,.ref 88,.int 295 0,.int 52 0,.str "/claim/cut.py" 296]
def f90 (P:Params):Obj:=fu (fn "done" "done" (tp 17) 3 [] (.none) (.none) (.none) (.str "copiedhouse.deeds" 279) (none) (.ref 89) (.none) 0)
def f91 (P:Params):Obj:=tu []
def f92 (P:Params):Obj:=fl []
def f93 (P:Params):Obj:=tu [.str "program" 301,.str "house" 302,.str "deed" 303,.str "value" 304,.str "number" 305]
def f94 (P:Params):Obj:=tu []
def f95 (P:Params):Obj:=fp (fn "made_by" "made_by" (tp 18) 0 [] (.none) (.none) (.none) (.none) (none) (.none) (.none) 0)
def f96 (P:Params):Obj:=co [.str "made_by" 298,.str "made_by" 299,.str "/claim/cut.py" 300,.int 62 0,.int 3 0,.int 0 0,.int 0 0,.int 3 0,.ref 91,.bool true,.int 181 0,.ref 92,.none,.ref 93,.ref 94,.ref 95,.int 306 0,.int 62 0,.str "/claim/cut.py" 307]
def f97 (P:Params):Obj:=fu (fn "made_by" "made_by" (tp 18) 3 [] (.none) (.none) (.none) (.str "copiedhouse.deeds" 279) (none) (.ref 96) (.none) 0)
def f98 (P:Params):Obj:=tu []
def f99 (P:Params):Obj:=fl []
def dO (P:Params):Obj:=tu [.str "manner" 312,.str "number" 313]
def dP (P:Params):Obj:=tu []
def zdR (P:Params):Obj:=fp (fn "number_set" "number_set" (tp 19) 0 [] (.none) (.none) (.none) (.none) (none) (.none) (.none) 0)
def dQ (P:Params):Obj:=co [.str "number_set" 309,.str "number_set" 310,.str "/claim/cut.py" 311,.int 76 0,.int 2 0,.int 0 0,.int 0 0,.int 3 0,.ref 98,.bool true,.int 181 0,.ref 99,.none,.ref 100,.ref 101,.ref 102,.int 314 0,.int 76 0,.str "/claim/cut.py" 315]
def dR (P:Params):Obj:=fu (fn "number_set" "number_set" (tp 19) 3 [] (.none) (.none) (.none) (.str "copiedhouse.deeds" 279) (none) (.ref 103) (.none) 0)
def dS (P:Params):Obj:=tu []
def zdS (P:Params):Obj:=fl []
def dU (P:Params):Obj:=tu [.str "_law_script" 322,.str "_law_k" 323,.str "_law_cell" 324,.str "_law_seed" 325]
def dW (P:Params):Obj:=tu []
def zdT (P:Params):Obj:=fp (fn "_law_box" "_law_box" (tp 21) 0 [] (.none) (.none) (.none) (.none) (none) (.none) (.none) 0)
def dX (P:Params):Obj:=co [.str "_law_box" 319,.str "_law_box" 320,.str "/claim/cut.py" 321,.int 81 0,.int 2 0,.int 0 0,.int 0 0,.int 3 0,.ref 105,.bool true,.int 181 0,.ref 106,.none,.ref 107,.ref 108,.ref 109,.int 326 0,.int 81 0,.str "/claim/cut.py" 327]
def dY (P:Params):Obj:=fu (fn "_law_box" "_law_box" (tp 21) 3 [] (.none) (.none) (.none) (.str "law_copiedhouse_k32_deeds" 317) (none) (.ref 110) (.none) 0)
def dZ (P:Params):Obj:=tu []
def zdU (P:Params):Obj:=fl []
def cA (P:Params):Obj:=tu [.str "_law_box_here" 332,.str "_law_many" 333,.str "_law_digit" 334,.str "_law_one" 335]
def cC (P:Params):Obj:=tu []
def zdV (P:Params):Obj:=fp (fn "_law_take" "_law_take" (tp 22) 0 [] (.none) (.none) (.none) (.none) (none) (.none) (.none) 0)
def cF (P:Params):Obj:=co [.str "_law_take" 329,.str "_law_take" 330,.str "/claim/cut.py" 331,.int 89 0,.int 2 0,.int 0 0,.int 0 0,.int 3 0,.ref 112,.bool true,.int 181 0,.ref 113,.none,.ref 114,.ref 115,.ref 116,.int 336 0,.int 89 0,.str "/claim/cut.py" 337]
def cG (P:Params):Obj:=fu (fn "_law_take" "_law_take" (tp 22) 3 [] (.none) (.none) (.none) (.str "law_copiedhouse_k32_deeds" 317) (none) (.ref 117) (.none) 0)
def cH (P:Params):Obj:=tu []
def zdW (P:Params):Obj:=fl []
def zdX (P:Params):Obj:=fp (fn "_law_words" "_law_words" (tp 23) 0 [] (.none) (.none) (.none) (.none) (none) (.none) (.none) 0)
def cI (P:Params):Obj:=co [.str "_law_words" 339,.str "_law_words" 340,.str "/claim/cut.py" 341,.int 97 0,.int 2 0,.int 0 0,.int 0 0,.int 3 0,.ref 119,.bool true,.int 181 0,.ref 120,.none,.none,.none,.ref 121,.int 342 0,.int 97 0,.str "/claim/cut.py" 343]
def cJ (P:Params):Obj:=fu (fn "_law_words" "_law_words" (tp 23) 3 [] (.none) (.none) (.none) (.str "law_copiedhouse_k32_deeds" 317) (none) (.ref 122) (.none) 0)
def cK (P:Params):Obj:=tu []
def zdY (P:Params):Obj:=fl []
def cL (P:Params):Obj:=tu [.str "_law_box_here" 348,.str "_law_form" 349]
def cM (P:Params):Obj:=tu []
def zdZ (P:Params):Obj:=fp (fn "_law_number" "_law_number" (tp 24) 0 [] (.none) (.none) (.none) (.none) (none) (.none) (.none) 0)
def cN (P:Params):Obj:=co [.str "_law_number" 345,.str "_law_number" 346,.str "/claim/cut.py" 347,.int 114 0,.int 1 0,.int 0 0,.int 0 0,.int 3 0,.ref 124,.bool true,.int 181 0,.ref 125,.none,.ref 126,.ref 127,.ref 128,.int 350 0,.int 114 0,.str "/claim/cut.py" 351]
def cO (P:Params):Obj:=fu (fn "_law_number" "_law_number" (tp 24) 3 [] (.none) (.none) (.none) (.str "law_copiedhouse_k32_deeds" 317) (none) (.ref 129) (.none) 0)
def cP (P:Params):Obj:=tu []
def zea (P:Params):Obj:=fl []
def cQ (P:Params):Obj:=tu [.str "_law_box_here" 356,.str "_law_leaves_here" 357,.str "_law_room" 358,.str "_law_deep" 359,.str "_law_form" 360,.str "_law_third" 361,.str "_law_one" 362,.str "_law_other" 363,.str "_law_half" 364]
def cR (P:Params):Obj:=tu []
def zeb (P:Params):Obj:=fp (fn "_law_term" "_law_term" (tp 25) 0 [] (.none) (.none) (.none) (.none) (none) (.none) (.none) 0)
def cS (P:Params):Obj:=co [.str "_law_term" 353,.str "_law_term" 354,.str "/claim/cut.py" 355,.int 121 0,.int 4 0,.int 0 0,.int 0 0,.int 3 0,.ref 131,.bool true,.int 181 0,.ref 132,.none,.ref 133,.ref 134,.ref 135,.int 365 0,.int 121 0,.str "/claim/cut.py" 366]
def cT (P:Params):Obj:=fu (fn "_law_term" "_law_term" (tp 25) 3 [] (.none) (.none) (.none) (.str "law_copiedhouse_k32_deeds" 317) (none) (.ref 136) (.none) 0)
def cU (P:Params):Obj:=tu []
def zec (P:Params):Obj:=fl []
def cV (P:Params):Obj:=tu [.str "_law_box_here" 371,.str "_law_leaves_here" 372,.str "_law_room" 373]
def cW (P:Params):Obj:=tu []
def zed (P:Params):Obj:=fp (fn "_law_any_term" "_law_any_term" (tp 26) 0 [] (.none) (.none) (.none) (.none) (none) (.none) (.none) 0)
def cX (P:Params):Obj:=co [.str "_law_any_term" 368,.str "_law_any_term" 369,.str "/claim/cut.py" 370,.int 135 0,.int 2 0,.int 0 0,.int 0 0,.int 3 0,.ref 138,.bool true,.int 181 0,.ref 139,.none,.ref 140,.ref 141,.ref 142,.int 374 0,.int 135 0,.str "/claim/cut.py" 375]
def cY (P:Params):Obj:=fu (fn "_law_any_term" "_law_any_term" (tp 26) 3 [] (.none) (.none) (.none) (.str "law_copiedhouse_k32_deeds" 317) (none) (.ref 143) (.none) 0)
def cZ (P:Params):Obj:=tu []
def zee (P:Params):Obj:=fl []
def bA (P:Params):Obj:=tu [.str "_law_box_here" 380,.str "_law_kinds" 381,.str "_law_calm" 382,.str "_law_word" 383,.str "_law_three" 384,.str "_law_term_here" 385]
def bB (P:Params):Obj:=tu []
def zef (P:Params):Obj:=fp (fn "_law_manner" "_law_manner" (tp 27) 0 [] (.none) (.none) (.none) (.none) (none) (.none) (.none) 0)
def bC (P:Params):Obj:=co [.str "_law_manner" 377,.str "_law_manner" 378,.str "/claim/cut.py" 379,.int 138 0,.int 3 0,.int 0 0,.int 0 0,.int 3 0,.ref 145,.bool true,.int 181 0,.ref 146,.none,.ref 147,.ref 148,.ref 149,.int 386 0,.int 138 0,.str "/claim/cut.py" 387]
def bD (P:Params):Obj:=fu (fn "_law_manner" "_law_manner" (tp 27) 3 [] (.none) (.none) (.none) (.str "law_copiedhouse_k32_deeds" 317) (none) (.ref 150) (.none) 0)
def bE (P:Params):Obj:=tu []
def zeg (P:Params):Obj:=fl []
def zeh (P:Params):Obj:=fp (fn "_law_begin" "_law_begin" (tp 28) 0 [] (.none) (.none) (.none) (.none) (none) (.none) (.none) 0)
def bF (P:Params):Obj:=co [.str "_law_begin" 389,.str "_law_begin" 390,.str "/claim/cut.py" 391,.int 147 0,.int 3 0,.int 0 0,.int 0 0,.int 3 0,.ref 152,.bool true,.int 181 0,.ref 153,.none,.none,.none,.ref 154,.int 392 0,.int 147 0,.str "/claim/cut.py" 393]
def bG (P:Params):Obj:=fu (fn "_law_begin" "_law_begin" (tp 28) 3 [] (.none) (.none) (.none) (.str "law_copiedhouse_k32_deeds" 317) (none) (.ref 155) (.none) 0)
def bH (P:Params):Obj:=tu []
def zei (P:Params):Obj:=fl []
def bI (P:Params):Obj:=tu [.str "_law_box_here" 398,.str "_law_shelves" 399,.str "_law_things" 400,.str "_law_found" 401,.str "_law_ks" 402,.str "_law_manner_here" 403,.str "_law_begin_here" 404]
def bJ (P:Params):Obj:=tu []
def zej (P:Params):Obj:=fp (fn "_law_leaves" "_law_leaves" (tp 29) 0 [] (.none) (.none) (.none) (.none) (none) (.none) (.none) 0)
def bK (P:Params):Obj:=co [.str "_law_leaves" 395,.str "_law_leaves" 396,.str "/claim/cut.py" 397,.int 161 0,.int 3 0,.int 0 0,.int 0 0,.int 3 0,.ref 157,.bool true,.int 181 0,.ref 158,.none,.ref 159,.ref 160,.ref 161,.int 405 0,.int 161 0,.str "/claim/cut.py" 406]
def bL (P:Params):Obj:=fu (fn "_law_leaves" "_law_leaves" (tp 29) 3 [] (.none) (.none) (.none) (.str "law_copiedhouse_k32_deeds" 317) (none) (.ref 162) (.none) 0)
def bM (P:Params):Obj:=tu []
def zek (P:Params):Obj:=fl []
def bN (P:Params):Obj:=tu [.str "_law_box_here" 411,.str "_law_shelf" 412,.str "_law_leaves_here" 413,.str "_law_things" 414,.str "_law_ks" 415,.str "_law_manner_here" 416,.str "_law_begin_here" 417,.str "_law_word" 418,.str "_law_term_here" 419]
def bO (P:Params):Obj:=tu []
def zel (P:Params):Obj:=fp (fn "_law_deed" "_law_deed" (tp 30) 0 [] (.none) (.none) (.none) (.none) (none) (.none) (.none) 0)
def bP (P:Params):Obj:=co [.str "_law_deed" 408,.str "_law_deed" 409,.str "/claim/cut.py" 410,.int 169 0,.int 4 0,.int 0 0,.int 0 0,.int 3 0,.ref 164,.bool true,.int 181 0,.ref 165,.none,.ref 166,.ref 167,.ref 168,.int 420 0,.int 169 0,.str "/claim/cut.py" 421]
def bQ (P:Params):Obj:=fu (fn "_law_deed" "_law_deed" (tp 30) 3 [] (.none) (.none) (.none) (.str "law_copiedhouse_k32_deeds" 317) (none) (.ref 169) (.none) 0)
def bR (P:Params):Obj:=tu []
def zem (P:Params):Obj:=fl []
def bS (P:Params):Obj:=tu [.str "_law_box_here" 426,.str "_law_uses" 427,.str "_law_things" 428,.str "_law_own" 429,.str "_law_asked" 430,.str "_law_leaves_here" 431,.str "_law_row_here" 432]
def bT (P:Params):Obj:=tu []
def zen (P:Params):Obj:=fp (fn "_law_row" "_law_row" (tp 31) 0 [] (.none) (.none) (.none) (.none) (none) (.none) (.none) 0)
def bU (P:Params):Obj:=co [.str "_law_row" 423,.str "_law_row" 424,.str "/claim/cut.py" 425,.int 184 0,.int 3 0,.int 0 0,.int 0 0,.int 3 0,.ref 171,.bool true,.int 181 0,.ref 172,.none,.ref 173,.ref 174,.ref 175,.int 433 0,.int 184 0,.str "/claim/cut.py" 434]
def bV (P:Params):Obj:=fu (fn "_law_row" "_law_row" (tp 31) 3 [] (.none) (.none) (.none) (.str "law_copiedhouse_k32_deeds" 317) (none) (.ref 176) (.none) 0)
def bW (P:Params):Obj:=tu []
def zeo (P:Params):Obj:=fl []
def zep (P:Params):Obj:=fp (fn "_law_leaf" "_law_leaf" (tp 32) 0 [] (.none) (.none) (.none) (.none) (none) (.none) (.none) 0)
def bX (P:Params):Obj:=co [.str "_law_leaf" 436,.str "_law_leaf" 437,.str "/claim/cut.py" 438,.int 193 0,.int 3 0,.int 0 0,.int 0 0,.int 3 0,.ref 178,.bool true,.int 181 0,.ref 179,.none,.none,.none,.ref 180,.int 439 0,.int 193 0,.str "/claim/cut.py" 440]
def bY (P:Params):Obj:=fu (fn "_law_leaf" "_law_leaf" (tp 32) 3 [] (.none) (.none) (.none) (.str "law_copiedhouse_k32_deeds" 317) (none) (.ref 181) (.none) 0)
def bZ (P:Params):Obj:=tu []
def zeq (P:Params):Obj:=fl []
def aA (P:Params):Obj:=tu [.str "_law_program" 445,.str "_law_house_here" 446,.str "_law_term_here" 447,.str "_law_side" 448,.str "_law_one" 449,.str "_law_other" 450,.str "_law_some" 451]
def aB (P:Params):Obj:=tu []
def zer (P:Params):Obj:=fp (fn "_law_value" "_law_value" (tp 33) 0 [] (.none) (.none) (.none) (.none) (none) (.none) (.none) 0)
def aC (P:Params):Obj:=co [.str "_law_value" 442,.str "_law_value" 443,.str "/claim/cut.py" 444,.int 200 0,.int 3 0,.int 0 0,.int 0 0,.int 3 0,.ref 183,.bool true,.int 181 0,.ref 184,.none,.ref 185,.ref 186,.ref 187,.int 452 0,.int 200 0,.str "/claim/cut.py" 453]
def aD (P:Params):Obj:=fu (fn "_law_value" "_law_value" (tp 33) 3 [] (.none) (.none) (.none) (.str "law_copiedhouse_k32_deeds" 317) (none) (.ref 188) (.none) 0)
def aE (P:Params):Obj:=tu []
def zes (P:Params):Obj:=fl []
def zet (P:Params):Obj:=fp (fn "_law_bag" "_law_bag" (tp 34) 0 [] (.none) (.none) (.none) (.none) (none) (.none) (.none) 0)
def aF (P:Params):Obj:=co [.str "_law_bag" 455,.str "_law_bag" 456,.str "/claim/cut.py" 457,.int 212 0,.int 1 0,.int 0 0,.int 0 0,.int 3 0,.ref 190,.bool true,.int 181 0,.ref 191,.none,.none,.none,.ref 192,.int 458 0,.int 212 0,.str "/claim/cut.py" 459]
def aG (P:Params):Obj:=fu (fn "_law_bag" "_law_bag" (tp 34) 3 [] (.none) (.none) (.none) (.str "law_copiedhouse_k32_deeds" 317) (none) (.ref 193) (.none) 0)
def aH (P:Params):Obj:=tu []
def zeu (P:Params):Obj:=fl []
def aI (P:Params):Obj:=tu [.str "_law_program" 464,.str "_law_house_here" 465,.str "_law_deed_here" 466,.str "_law_at" 467,.str "_law_value_here" 468,.str "_law_numbers" 469,.str "_law_number_here" 470,.str "_law_manner_here" 471,.str "_law_words_here" 472]
def aJ (P:Params):Obj:=tu []
def zev (P:Params):Obj:=fp (fn "_law_made" "_law_made" (tp 35) 0 [] (.none) (.none) (.none) (.none) (none) (.none) (.none) 0)
def aK (P:Params):Obj:=co [.str "_law_made" 461,.str "_law_made" 462,.str "/claim/cut.py" 463,.int 214 0,.int 4 0,.int 0 0,.int 0 0,.int 3 0,.ref 195,.bool true,.int 181 0,.ref 196,.none,.ref 197,.ref 198,.ref 199,.int 473 0,.int 214 0,.str "/claim/cut.py" 474]
def aL (P:Params):Obj:=fu (fn "_law_made" "_law_made" (tp 35) 3 [] (.none) (.none) (.none) (.str "law_copiedhouse_k32_deeds" 317) (none) (.ref 200) (.none) 0)
def aM (P:Params):Obj:=tu []
def zew (P:Params):Obj:=fl []
def zex (P:Params):Obj:=fp (fn "_law_done" "_law_done" (tp 36) 0 [] (.none) (.none) (.none) (.none) (none) (.none) (.none) 0)
def aN (P:Params):Obj:=co [.str "_law_done" 476,.str "_law_done" 477,.str "/claim/cut.py" 478,.int 234 0,.int 3 0,.int 0 0,.int 0 0,.int 3 0,.ref 202,.bool true,.int 181 0,.ref 203,.none,.none,.none,.ref 204,.int 479 0,.int 234 0,.str "/claim/cut.py" 480]
def aO (P:Params):Obj:=fu (fn "_law_done" "_law_done" (tp 36) 3 [] (.none) (.none) (.none) (.str "law_copiedhouse_k32_deeds" 317) (none) (.ref 205) (.none) 0)
def aP (P:Params):Obj:=tu []
def zey (P:Params):Obj:=fl []
def zez (P:Params):Obj:=fp (fn "_law_plain" "_law_plain" (tp 37) 0 [] (.none) (.none) (.none) (.none) (none) (.none) (.none) 0)
def aQ (P:Params):Obj:=co [.str "_law_plain" 482,.str "_law_plain" 483,.str "/claim/cut.py" 484,.int 245 0,.int 1 0,.int 0 0,.int 0 0,.int 3 0,.ref 207,.bool true,.int 181 0,.ref 208,.none,.none,.none,.ref 209,.int 485 0,.int 245 0,.str "/claim/cut.py" 486]
def aR (P:Params):Obj:=fu (fn "_law_plain" "_law_plain" (tp 37) 3 [] (.none) (.none) (.none) (.str "law_copiedhouse_k32_deeds" 317) (none) (.ref 210) (.none) 0)
def aS (P:Params):Obj:=tu []
def ze0 (P:Params):Obj:=fl []
def ze1 (P:Params):Obj:=fp (fn "_law_house" "_law_house" (tp 38) 0 [] (.none) (.none) (.none) (.none) (none) (.none) (.none) 0)
def aT (P:Params):Obj:=co [.str "_law_house" 488,.str "_law_house" 489,.str "/claim/cut.py" 490,.int 249 0,.int 3 0,.int 0 0,.int 0 0,.int 3 0,.ref 212,.bool true,.int 181 0,.ref 213,.none,.none,.none,.ref 214,.int 491 0,.int 249 0,.str "/claim/cut.py" 492]
def aU (P:Params):Obj:=fu (fn "_law_house" "_law_house" (tp 38) 3 [] (.none) (.none) (.none) (.str "law_copiedhouse_k32_deeds" 317) (none) (.ref 215) (.none) 0)
def aV (P:Params):Obj:=tu []
def ze2 (P:Params):Obj:=fl []
def ze3 (P:Params):Obj:=fp (fn "_law_at_the_end" "_law_at_the_end" (tp 39) 0 [] (.none) (.none) (.none) (.none) (none) (.none) (.none) 0)
def aW (P:Params):Obj:=co [.str "_law_at_the_end" 494,.str "_law_at_the_end" 495,.str "/claim/cut.py" 496,.int 257 0,.int 4 0,.int 0 0,.int 0 0,.int 3 0,.ref 217,.bool true,.int 181 0,.ref 218,.none,.none,.none,.ref 219,.int 497 0,.int 257 0,.str "/claim/cut.py" 498]
def aX (P:Params):Obj:=fu (fn "_law_at_the_end" "_law_at_the_end" (tp 39) 3 [] (.none) (.none) (.none) (.str "law_copiedhouse_k32_deeds" 317) (none) (.ref 220) (.none) 0)
def aY (P:Params):Obj:=tu []
def ze4 (P:Params):Obj:=fl []
def ze5 (P:Params):Obj:=fp (fn "law" "law" (tp 40) 0 [] (.none) (.none) (.none) (.none) (none) (.none) (.none) 0)
def aZ (P:Params):Obj:=co [.str "law" 500,.str "law" 501,.str "/claim/cut.py" 502,.int 266 0,.int 1 0,.int 0 0,.int 0 0,.int 3 0,.ref 222,.bool true,.int 181 0,.ref 223,.none,.none,.none,.ref 224,.int 503 0,.int 266 0,.str "/claim/cut.py" 504]
def zaa (P:Params):Obj:=fu (fn "law" "law" (tp 40) 3 [] (.none) (.none) (.none) (.str "law_copiedhouse_k32_deeds" 317) (none) (.ref 225) (.none) 0)
def a12 (P:Params):Obj:=fl []
def Ta (P:Params):BT:=(.node (boot_o_0 P) (.node (boot_o_1 P) (.node (boot_o_3 P) (.node (boot_o_7 P) .nil .nil) (.node (f11 P) .nil .nil)) (.node (boot_o_5 P) (.node (boot_o_9 P) .nil .nil) (.node (f13 P) .nil .nil))) (.node (boot_o_2 P) (.node (boot_o_4 P) (.node (boot_o_8 P) .nil .nil) (.node (a12 P) .nil .nil)) (.node (boot_o_6 P) (.node (boot_o_10 P) .nil .nil) (.node (f14 P) .nil .nil))))
def Tz (P:Params):BT:=(.node (boot_o_0 P) (.node (boot_o_1 P) (.node (f3 P) (.node (boot_o_7 P) (.node (f15 P) (.node (f31 P) (.node (f63 P) (.node (cM P) .nil .nil) (.node (zes P) .nil .nil)) (.node (f95 P) (.node (bI P) .nil .nil) (.node (ze4 P) .nil .nil))) (.node (f47 P) (.node (f79 P) (.node (cX P) .nil .nil) (.node (aP P) .nil .nil)) (.node (dY P) (.node (zen P) .nil .nil) .nil))) (.node (f23 P) (.node (f39 P) (.node (f71 P) (.node (zeb P) .nil .nil) (.node (zev P) .nil .nil)) (.node (dQ P) (.node (bO P) .nil .nil) .nil)) (.node (f55 P) (.node (f87 P) (.node (bD P) .nil .nil) (.node (aT P) .nil .nil)) (.node (cH P) (.node (bZ P) .nil .nil) .nil)))) (.node (f11 P) (.node (f19 P) (.node (f35 P) (.node (f67 P) (.node (cP P) .nil .nil) (.node (aH P) .nil .nil)) (.node (f99 P) (.node (bL P) .nil .nil) .nil)) (.node (f51 P) (.node (f83 P) (.node (bA P) .nil .nil) (.node (aR P) .nil .nil)) (.node (cC P) (.node (zeo P) .nil .nil) .nil))) (.node (f27 P) (.node (f43 P) (.node (f75 P) (.node (zec P) .nil .nil) (.node (zew P) .nil .nil)) (.node (dU P) (.node (bR P) .nil .nil) .nil)) (.node (f59 P) (.node (f91 P) (.node (bF P) .nil .nil) (.node (ze3 P) .nil .nil)) (.node (cJ P) (.node (zer P) .nil .nil) .nil))))) (.node (boot_o_5 P) (.node (boot_o_9 P) (.node (f17 P) (.node (f33 P) (.node (f65 P) (.node (cN P) .nil .nil) (.node (aF P) .nil .nil)) (.node (f97 P) (.node (zej P) .nil .nil) (.node (aZ P) .nil .nil))) (.node (f49 P) (.node (f81 P) (.node (cZ P) .nil .nil) (.node (zez P) .nil .nil)) (.node (zdU P) (.node (bV P) .nil .nil) .nil))) (.node (f25 P) (.node (f41 P) (.node (f73 P) (.node (cT P) .nil .nil) (.node (aL P) .nil .nil)) (.node (dS P) (.node (bP P) .nil .nil) .nil)) (.node (f57 P) (.node (f89 P) (.node (zeg P) .nil .nil) (.node (aV P) .nil .nil)) (.node (zdX P) (.node (aA P) .nil .nil) .nil)))) (.node (f13 P) (.node (f21 P) (.node (f37 P) (.node (f69 P) (.node (cQ P) .nil .nil) (.node (aI P) .nil .nil)) (.node (dP P) (.node (zek P) .nil .nil) .nil)) (.node (f53 P) (.node (f85 P) (.node (zef P) .nil .nil) (.node (ze0 P) .nil .nil)) (.node (cF P) (.node (bX P) .nil .nil) .nil))) (.node (f29 P) (.node (f45 P) (.node (f77 P) (.node (cW P) .nil .nil) (.node (aN P) .nil .nil)) (.node (zdT P) (.node (bS P) .nil .nil) .nil)) (.node (f61 P) (.node (f93 P) (.node (bH P) .nil .nil) (.node (aX P) .nil .nil)) (.node (zdY P) (.node (aD P) .nil .nil) .nil)))))) (.node (boot_o_2 P) (.node (boot_o_4 P) (.node (boot_o_8 P) (.node (f16 P) (.node (f32 P) (.node (f64 P) (.node (zdZ P) .nil .nil) (.node (zet P) .nil .nil)) (.node (f96 P) (.node (bJ P) .nil .nil) (.node (ze5 P) .nil .nil))) (.node (f48 P) (.node (f80 P) (.node (cY P) .nil .nil) (.node (zey P) .nil .nil)) (.node (dZ P) (.node (bU P) .nil .nil) .nil))) (.node (f24 P) (.node (f40 P) (.node (f72 P) (.node (cS P) .nil .nil) (.node (aK P) .nil .nil)) (.node (dR P) (.node (zel P) .nil .nil) .nil)) (.node (f56 P) (.node (f88 P) (.node (bE P) .nil .nil) (.node (aU P) .nil .nil)) (.node (zdW P) (.node (zeq P) .nil .nil) .nil)))) (.node (f12 P) (.node (f20 P) (.node (f36 P) (.node (f68 P) (.node (zea P) .nil .nil) (.node (zeu P) .nil .nil)) (.node (dO P) (.node (bM P) .nil .nil) .nil)) (.node (f52 P) (.node (f84 P) (.node (bB P) .nil .nil) (.node (aS P) .nil .nil)) (.node (zdV P) (.node (zep P) .nil .nil) .nil))) (.node (f28 P) (.node (f44 P) (.node (f76 P) (.node (cV P) .nil .nil) (.node (zex P) .nil .nil)) (.node (dW P) (.node (zem P) .nil .nil) .nil)) (.node (f60 P) (.node (f92 P) (.node (bG P) .nil .nil) (.node (aW P) .nil .nil)) (.node (cK P) (.node (aC P) .nil .nil) .nil))))) (.node (boot_o_6 P) (.node (boot_o_10 P) (.node (f18 P) (.node (f34 P) (.node (f66 P) (.node (cO P) .nil .nil) (.node (aG P) .nil .nil)) (.node (f98 P) (.node (bK P) .nil .nil) (.node (zaa P) .nil .nil))) (.node (f50 P) (.node (f82 P) (.node (zee P) .nil .nil) (.node (aQ P) .nil .nil)) (.node (cA P) (.node (bW P) .nil .nil) .nil))) (.node (f26 P) (.node (f42 P) (.node (f74 P) (.node (cU P) .nil .nil) (.node (aM P) .nil .nil)) (.node (zdS P) (.node (bQ P) .nil .nil) .nil)) (.node (f58 P) (.node (f90 P) (.node (zeh P) .nil .nil) (.node (ze2 P) .nil .nil)) (.node (cI P) (.node (aB P) .nil .nil) .nil)))) (.node (f14 P) (.node (f22 P) (.node (f38 P) (.node (f70 P) (.node (cR P) .nil .nil) (.node (aJ P) .nil .nil)) (.node (zdR P) (.node (bN P) .nil .nil) .nil)) (.node (f54 P) (.node (f86 P) (.node (bC P) .nil .nil) (.node (ze1 P) .nil .nil)) (.node (cG P) (.node (bY P) .nil .nil) .nil))) (.node (f30 P) (.node (f46 P) (.node (f78 P) (.node (zed P) .nil .nil) (.node (aO P) .nil .nil)) (.node (dX P) (.node (bT P) .nil .nil) .nil)) (.node (f62 P) (.node (f94 P) (.node (zei P) .nil .nil) (.node (aY P) .nil .nil)) (.node (cL P) (.node (aE P) .nil .nil) .nil)))))))
def Ha (P:Params):Heap:=⟨⟨[boot_o_0 P,boot_o_1 P,boot_o_2 P,boot_o_3 P,boot_o_4 P,boot_o_5 P,boot_o_6 P,boot_o_7 P,boot_o_8 P,boot_o_9 P,boot_o_10 P,f11 P,a12 P,f13 P,f14 P]⟩,li⟩
def Hf (P:Params):Heap:=⟨⟨[boot_o_0 P,boot_o_1 P,boot_o_2 P,f3 P,boot_o_4 P,boot_o_5 P,boot_o_6 P,boot_o_7 P,boot_o_8 P,boot_o_9 P,boot_o_10 P,f11 P,f12 P,f13 P,f14 P,f15 P,f16 P,f17 P,f18 P,f19 P,f20 P,f21 P,f22 P,f23 P,f24 P,f25 P,f26 P,f27 P,f28 P,f29 P,f30 P,f31 P,f32 P,f33 P,f34 P,f35 P,f36 P,f37 P,f38 P,f39 P,f40 P,f41 P,f42 P,f43 P,f44 P,f45 P,f46 P,f47 P,f48 P,f49 P,f50 P,f51 P,f52 P,f53 P,f54 P,f55 P,f56 P,f57 P,f58 P,f59 P,f60 P,f61 P,f62 P,f63 P,f64 P,f65 P,f66 P,f67 P,f68 P,f69 P,f70 P,f71 P,f72 P,f73 P,f74 P,f75 P,f76 P,f77 P,f78 P,f79 P,f80 P,f81 P,f82 P,f83 P,f84 P,f85 P,f86 P,f87 P,f88 P,f89 P,f90 P,f91 P,f92 P,f93 P,f94 P,f95 P,f96 P,f97 P,f98 P,f99 P,dO P,dP P,zdR P,dQ P,dR P,dS P,zdS P,dU P,dW P,zdT P,dX P,dY P,dZ P,zdU P,cA P,cC P,zdV P,cF P,cG P,cH P,zdW P,zdX P,cI P,cJ P,cK P,zdY P,cL P,cM P,zdZ P,cN P,cO P,cP P,zea P,cQ P,cR P,zeb P,cS P,cT P,cU P,zec P,cV P,cW P,zed P,cX P,cY P,cZ P,zee P,bA P,bB P,zef P,bC P,bD P,bE P,zeg P,zeh P,bF P,bG P,bH P,zei P,bI P,bJ P,zej P,bK P,bL P,bM P,zek P,bN P,bO P,zel P,bP P,bQ P,bR P,zem P,bS P,bT P,zen P,bU P,bV P,bW P,zeo P,zep P,bX P,bY P,bZ P,zeq P,aA P,aB P,zer P,aC P,aD P,aE P,zes P,zet P,aF P,aG P,aH P,zeu P,aI P,aJ P,zev P,aK P,aL P,aM P,zew P,zex P,aN P,aO P,aP P,zey P,zez P,aQ P,aR P,aS P,ze0 P,ze1 P,aT P,aU P,aV P,ze2 P,ze3 P,aW P,aX P,aY P,ze4 P,ze5 P,aZ P,zaa P]⟩,li⟩
theorem pre (w:World)(os:OsState):topGo treeTable pg w 11 an 12 ⟨boot_heap w.params,gs,boot_drawn,boot_toks,os⟩ (topStub pg)=some (⟨Ha w.params,gs,boot_drawn,187,os⟩,⟨denote treeTable cE,cE,⟨0,0,0,0⟩,B⟩):=by
 rw[PySem.W.Fast.te15667345088766844465,PySem.W.Fast.te14364793385576792824,PySem.W.Fast.te11892475500146522536];kernel_rfl
theorem block (w:World)(os:OsState):segRun treeTable pg w 11 an 1 1 ⟨Ha w.params,gs,boot_drawn,187,os⟩ (blockOf (behindTheImports pg) ev cE ⟨0,0,0,0⟩ B)=some (.next,(SharedT.abs ⟨Ta w.params,15,li,gs,boot_drawn,187,os⟩),cE,⟨0,0,0,0⟩):=by
 rw[PySem.W.Fast.te14374325043358763698,PySem.W.Fast.te14364793385576792824];kernel_rfl
def zh6:List Stmt:= [tp 0,tp 1,tp 2,tp 3,tp 4,tp 5,tp 6,tp 7,tp 8,tp 9,tp 10,tp 11,tp 12,tp 13,tp 14,tp 15,tp 16,tp 17,tp 18,tp 19,tp 20,tp 21,tp 22,tp 23,tp 24,tp 25,tp 26,tp 27,tp 28,tp 29,tp 30,tp 31,tp 32,tp 33,tp 34,tp 35,tp 36,tp 37,tp 38,tp 39,tp 40]
theorem znP (w:World)(os:OsState):segRunT treeTable pg w 11 an 1 1091 ⟨Ta w.params,15,li,gs,boot_drawn,187,os⟩ (piecesOf zh6 ev cE ⟨0,0,0,0⟩ B)=some (.next,⟨Tz w.params,227,li,gs,boot_drawn,506,os⟩,cE,⟨266,0,290,143⟩):=by
 rw[PySem.W.Fast.te10110043849684766642,PySem.W.Fast.te14364793385576792824];kernel_rfl
theorem fin (w:World)(os:OsState):topRun treeTable pg w 11 an 2 (SharedT.abs ⟨Tz w.params,227,li,gs,boot_drawn,506,os⟩) ⟨doneF .next,cE,⟨266,0,290,143⟩,B⟩=some ⟨Hf w.params,gs,boot_drawn,506,os⟩:=by
 rw[PySem.W.Fast.te14082659384304107361,PySem.W.Fast.te14364793385576792824];kernel_rfl
theorem run (w:World)(os:OsState):topRun treeTable pg w 11 an (12+(1+(1091+(2)))) ⟨boot_heap w.params,gs,boot_drawn,boot_toks,os⟩ (topStub pg)=some ⟨Hf w.params,gs,boot_drawn,506,os⟩:=
 go_top (pre w os) (piece_block (env:=ev) (b:=behindTheImports pg) (block w os) (piece_app (env:=ev) (l:=zh6) (segRun_of (znP w os)) (piece_nil (env:=ev) (fin w os))))
def K (P:Params):Frag:=(nat_lit 2,boot_o_2 P)::(nat_lit 3,f3 P)::(nat_lit 15,f15 P)::(nat_lit 17,f17 P)::(nat_lit 18,f18 P)::(nat_lit 20,f20 P)::(nat_lit 21,f21 P)::(nat_lit 22,f22 P)::(nat_lit 24,f24 P)::(nat_lit 25,f25 P)::(nat_lit 27,f27 P)::(nat_lit 28,f28 P)::(nat_lit 29,f29 P)::(nat_lit 32,f32 P)::(nat_lit 33,f33 P)::(nat_lit 34,f34 P)::(nat_lit 37,f37 P)::(nat_lit 38,f38 P)::(nat_lit 39,f39 P)::(nat_lit 41,f41 P)::(nat_lit 42,f42 P)::(nat_lit 44,f44 P)::(nat_lit 45,f45 P)::(nat_lit 46,f46 P)::(nat_lit 49,f49 P)::(nat_lit 50,f50 P)::(nat_lit 51,f51 P)::(nat_lit 53,f53 P)::(nat_lit 54,f54 P)::(nat_lit 56,f56 P)::(nat_lit 57,f57 P)::(nat_lit 58,f58 P)::(nat_lit 60,f60 P)::(nat_lit 61,f61 P)::(nat_lit 63,f63 P)::(nat_lit 64,f64 P)::(nat_lit 65,f65 P)::(nat_lit 67,f67 P)::(nat_lit 68,f68 P)::(nat_lit 70,f70 P)::(nat_lit 71,f71 P)::(nat_lit 72,f72 P)::(nat_lit 74,f74 P)::(nat_lit 75,f75 P)::(nat_lit 77,f77 P)::(nat_lit 78,f78 P)::(nat_lit 79,f79 P)::(nat_lit 82,f82 P)::(nat_lit 83,f83 P)::(nat_lit 84,f84 P)::(nat_lit 86,f86 P)::(nat_lit 87,f87 P)::(nat_lit 89,f89 P)::(nat_lit 90,f90 P)::(nat_lit 91,f91 P)::(nat_lit 93,f93 P)::(nat_lit 94,f94 P)::(nat_lit 96,f96 P)::(nat_lit 97,f97 P)::(nat_lit 98,f98 P)::(nat_lit 100,dO P)::(nat_lit 101,dP P)::(nat_lit 103,dQ P)::(nat_lit 104,dR P)::(nat_lit 105,dS P)::(nat_lit 107,dU P)::(nat_lit 108,dW P)::(nat_lit 110,dX P)::(nat_lit 111,dY P)::(nat_lit 112,dZ P)::(nat_lit 114,cA P)::(nat_lit 115,cC P)::(nat_lit 117,cF P)::(nat_lit 118,cG P)::(nat_lit 119,cH P)::(nat_lit 122,cI P)::(nat_lit 123,cJ P)::(nat_lit 124,cK P)::(nat_lit 126,cL P)::(nat_lit 127,cM P)::(nat_lit 129,cN P)::(nat_lit 130,cO P)::(nat_lit 131,cP P)::(nat_lit 133,cQ P)::(nat_lit 134,cR P)::(nat_lit 136,cS P)::(nat_lit 137,cT P)::(nat_lit 138,cU P)::(nat_lit 140,cV P)::(nat_lit 141,cW P)::(nat_lit 143,cX P)::(nat_lit 144,cY P)::(nat_lit 145,cZ P)::(nat_lit 147,bA P)::(nat_lit 148,bB P)::(nat_lit 150,bC P)::(nat_lit 151,bD P)::(nat_lit 152,bE P)::(nat_lit 155,bF P)::(nat_lit 156,bG P)::(nat_lit 157,bH P)::(nat_lit 159,bI P)::(nat_lit 160,bJ P)::(nat_lit 162,bK P)::(nat_lit 163,bL P)::(nat_lit 164,bM P)::(nat_lit 166,bN P)::(nat_lit 167,bO P)::(nat_lit 169,bP P)::(nat_lit 170,bQ P)::(nat_lit 171,bR P)::(nat_lit 173,bS P)::(nat_lit 174,bT P)::(nat_lit 176,bU P)::(nat_lit 177,bV P)::(nat_lit 178,bW P)::(nat_lit 181,bX P)::(nat_lit 182,bY P)::(nat_lit 183,bZ P)::(nat_lit 185,aA P)::(nat_lit 186,aB P)::(nat_lit 188,aC P)::(nat_lit 189,aD P)::(nat_lit 190,aE P)::(nat_lit 193,aF P)::(nat_lit 194,aG P)::(nat_lit 195,aH P)::(nat_lit 197,aI P)::(nat_lit 198,aJ P)::(nat_lit 200,aK P)::(nat_lit 201,aL P)::(nat_lit 202,aM P)::(nat_lit 205,aN P)::(nat_lit 206,aO P)::(nat_lit 207,aP P)::(nat_lit 210,aQ P)::(nat_lit 211,aR P)::(nat_lit 212,aS P)::(nat_lit 215,aT P)::(nat_lit 216,aU P)::(nat_lit 217,aV P)::(nat_lit 220,aW P)::(nat_lit 221,aX P)::(nat_lit 222,aY P)::(nat_lit 225,aZ P)::(nat_lit 226,zaa P):: []
abbrev hk:Hook:=kmHook K [2,3,15,17,18,20,21,22,24,25,27,28,29,32,33,34,37,38,39,41,42,44,45,46,49,50,51,53,54,56,57,58,60,61,63,64,65,67,68,70,71,72,74,75,77,78,79,82,83,84,86,87,89,90,91,93,94,96,97,98,100,101,103,104,105,107,108,110,111,112,114,115,117,118,119,122,123,124,126,127,129,130,131,133,134,136,137,138,140,141,143,144,145,147,148,150,151,152,155,156,157,159,160,162,163,164,166,167,169,170,171,173,174,176,177,178,181,182,183,185,186,188,189,190,193,194,195,197,198,200,201,202,205,206,207,210,211,212,215,216,217,220,221,222,225,226] (λ_=>by kernel_rfl) [66]
def q:Program:= {pg with main:= {pg.main with body:= [tp 1,tp 2,tp 3,tp 5,tp 6,tp 7,tp 8,tp 10,tp 11,tp 13,tp 14,tp 16,tp 17,tp 18,tp 19,tp 21,tp 22,tp 23,tp 24,tp 25,tp 26,tp 27,tp 28,tp 29,tp 30,tp 31,tp 32,tp 33,tp 34,tp 35,tp 36,tp 37,tp 38,tp 39,tp 40]}}
abbrev Xt (s:Shared):Bool:=xlAt q [] s&&recOk (RowW.records (OpenRow.toRowW (PySem.Challenge.rw_copiedhouse_k32_deeds).row)) s
theorem sz (w:World):((boot_heap w.params).isNs mainGlobals&&gs.size==0,(boot_heap w.params).objs.size,(boot_heap w.params).nsMap mainGlobals "__annotations__")=(true,11,an):=by
 rw[PySem.W.Fast.te8920871248978507458];kernel_rfl
theorem lk1 (w:World)(os:OsState):(staticsOk (importedModules pg.main.body) (boot_heap w.params) (Hf w.params)&&namesBound pg (Hf w.params)&&gensDone ⟨Hf w.params,gs,boot_drawn,506,os⟩&&laidKept (boot_heap w.params) (Hf w.params))=true:=by
 rw[PySem.W.Fast.te5923862056798008813];kernel_rfl
theorem lk2 (w:World)(os:OsState):openSeen q [] (importedModules pg.main.body) Xt true ⟨Hf w.params,gs,boot_drawn,506,os⟩=openGood q []:=by
 rw[PySem.W.Fast.te4187177175401517315,PySem.W.Fast.te5923862056798008813];kernel_rfl
theorem lk3 (w:World)(os:OsState):Hook.obs hk ⟨Hf w.params,gs,boot_drawn,506,os⟩=Hook.val hk w:=by kernel_rfl
theorem left:LeftO pg q [] Xt (Hook.obs hk) (Hook.val hk) 2306:=LeftO.of_pieces (H₀:=boot_heap) (H₁:=Hf) (M:=12+(1+(1091+(2)))) (boot_open rfl rfl λ_=>rfl) sz run (by decide) λw=>funext λos=>looks_pair (lk1 w os) (looks_pair (lk2 w os) (lk3 w os))
theorem ws:(PySem.Challenge.rw_copiedhouse_k32_deeds).wellSaid=true:=by kernel_rfl
end
end Hd
open PySem PySem.W PyProof.Rows
set_option maxRecDepth 100000 in
set_option maxHeartbeats 0 in
theorem PySem.Challenge.cw_copiedhouse_k32_deeds_holds : PySem.Challenge.rw_copiedhouse_k32_deeds.Holds := by
 w_on
 refine holds_law Hd.ws λsaid=> ?_;refine holds_open (q:=Hd.q) (loose:= []) (Xt:=Hd.Xt) (XP:=XL Hd.q []) (Yf:=Hook.obs Hd.hk) (Ya:=Hook.val Hd.hk) (YP:=Hook.says Hd.hk) (N:=2306) Hd.left (Hook.of Hd.hk) (Hook.keeps Hd.hk) (λs e=>xl_of s (Bool.and_eq_true_iff.mp e).1) XL.keeps (by rfl) (by rfl) (by rfl) (λs e=>recFacts_of (Bool.and_eq_true_iff.mp e).2) (by rfl) said (by decide+kernel) ⟨rfl,rfl,rfl,rfl,rfl,by decide+kernel⟩ ?hw ?hc
 (case hw=>w_witness2)
 unfold Hd.hk
 k_fill
 refine N32.walk (l:=PySem.Challenge.rw_copiedhouse_k32_deeds) rfl rfl ⟨_,rfl⟩ (λw h Y=>PySem.W.km_in_of Y) ?F
 case F=>
  intro w mg fa h KX G hmg
  refine' N32.all_mk KX G hmg ?a1_ ?l1_ ?c1_ ?k1_ ?a2_ ?l2_ ?c2_ ?k2_ ?a3_ ?l3_ ?c3_ ?k3_ ?a4_ ?l4_ ?c4_ ?k4_ ?a5_ ?l5_ ?c5_ ?k5_ ?a6_ ?l6_ ?c6_ ?k6_ ?a7_ ?l7_ ?c7_ ?k7_ ?a8_ ?l8_ ?c8_ ?k8_ ?a9_ ?l9_ ?c9_ ?k9_ ?a10_ ?l10_ ?c10_ ?k10_ ?a11_ ?l11_ ?c11_ ?k11_ ?a12_ ?l12_ ?c12_ ?k12_ ?a13_ ?l13_ ?c13_ ?k13_ ?a14_ ?l14_ ?c14_ ?k14_ ?a15_ ?l15_ ?c15_ ?k15_ ?a16_ ?l16_ ?c16_ ?k16_ ?a17_ ?l17_ ?c17_ ?k17_ ?a18_ ?l18_ ?c18_ ?k18_ ?a19_ ?l19_ ?c19_ ?k19_ ?a20_ ?l20_ ?c20_ ?k20_ ?a21_ ?l21_ ?c21_ ?k21_ ?a22_ ?l22_ ?c22_ ?k22_ ?a23_ ?l23_ ?c23_ ?k23_ ?a24_ ?l24_ ?c24_ ?k24_ ?a25_ ?l25_ ?c25_ ?k25_ ?a26_ ?l26_ ?c26_ ?k26_ ?a27_ ?l27_ ?c27_ ?k27_ ?a28_ ?l28_ ?c28_ ?k28_ ?a29_ ?l29_ ?c29_ ?k29_ ?a30_ ?l30_ ?c30_ ?k30_ ?a31_ ?l31_ ?c31_ ?k31_ ?a32_ ?l32_ ?c32_ ?k32_ ?a33_ ?l33_ ?c33_ ?k33_ ?a34_ ?l34_ ?c34_ ?k34_ ?zn0_ ?zn1_ ?zn2_ ?zn3_ ?zn4_ ?zn5_ ?zn6_ ?zn7_ ?zn8_ ?zn9_ ?zn10_ ?zn11_ ?zn12_ ?zn13_ ?zn14_ ?zc0_ ?lc_ ?v11_ ?v18_ ?v7_ ?v9_ ?v10_ ?ncT_ ?lT_
  (case a1_=>k_is)
  (case l1_=>k_is)
  (case c1_=>k_is)
  (case k1_=>k_is)
  (case a2_=>k_is)
  (case l2_=>k_is)
  (case c2_=>k_is)
  (case k2_=>k_is)
  (case a3_=>k_is)
  (case l3_=>k_is)
  (case c3_=>k_is)
  (case k3_=>k_is)
  (case a4_=>k_is)
  (case l4_=>k_is)
  (case c4_=>k_is)
  (case k4_=>k_is)
  (case a5_=>k_is)
  (case l5_=>k_is)
  (case c5_=>k_is)
  (case k5_=>k_is)
  (case a6_=>k_is)
  (case l6_=>k_is)
  (case c6_=>k_is)
  (case k6_=>k_is)
  (case a7_=>k_is)
  (case l7_=>k_is)
  (case c7_=>k_is)
  (case k7_=>k_is)
  (case a8_=>k_is)
  (case l8_=>k_is)
  (case c8_=>k_is)
  (case k8_=>k_is)
  (case a9_=>k_is)
  (case l9_=>k_is)
  (case c9_=>k_is)
  (case k9_=>k_is)
  (case a10_=>k_is)
  (case l10_=>k_is)
  (case c10_=>k_is)
  (case k10_=>k_is)
  (case a11_=>k_is)
  (case l11_=>k_is)
  (case c11_=>k_is)
  (case k11_=>k_is)
  (case a12_=>k_is)
  (case l12_=>k_is)
  (case c12_=>k_is)
  (case k12_=>k_is)
  (case a13_=>k_is)
  (case l13_=>k_is)
  (case c13_=>k_is)
  (case k13_=>k_is)
  (case a14_=>k_is)
  (case l14_=>k_is)
  (case c14_=>k_is)
  (case k14_=>k_is)
  (case a15_=>k_is)
  (case l15_=>k_is)
  (case c15_=>k_is)
  (case k15_=>k_is)
  (case a16_=>k_is)
  (case l16_=>k_is)
  (case c16_=>k_is)
  (case k16_=>k_is)
  (case a17_=>k_is)
  (case l17_=>k_is)
  (case c17_=>k_is)
  (case k17_=>k_is)
  (case a18_=>k_is)
  (case l18_=>k_is)
  (case c18_=>k_is)
  (case k18_=>k_is)
  (case a19_=>k_is)
  (case l19_=>k_is)
  (case c19_=>k_is)
  (case k19_=>k_is)
  (case a20_=>k_is)
  (case l20_=>k_is)
  (case c20_=>k_is)
  (case k20_=>k_is)
  (case a21_=>k_is)
  (case l21_=>k_is)
  (case c21_=>k_is)
  (case k21_=>k_is)
  (case a22_=>k_is)
  (case l22_=>k_is)
  (case c22_=>k_is)
  (case k22_=>k_is)
  (case a23_=>k_is)
  (case l23_=>k_is)
  (case c23_=>k_is)
  (case k23_=>k_is)
  (case a24_=>k_is)
  (case l24_=>k_is)
  (case c24_=>k_is)
  (case k24_=>k_is)
  (case a25_=>k_is)
  (case l25_=>k_is)
  (case c25_=>k_is)
  (case k25_=>k_is)
  (case a26_=>k_is)
  (case l26_=>k_is)
  (case c26_=>k_is)
  (case k26_=>k_is)
  (case a27_=>k_is)
  (case l27_=>k_is)
  (case c27_=>k_is)
  (case k27_=>k_is)
  (case a28_=>k_is)
  (case l28_=>k_is)
  (case c28_=>k_is)
  (case k28_=>k_is)
  (case a29_=>k_is)
  (case l29_=>k_is)
  (case c29_=>k_is)
  (case k29_=>k_is)
  (case a30_=>k_is)
  (case l30_=>k_is)
  (case c30_=>k_is)
  (case k30_=>k_is)
  (case a31_=>k_is)
  (case l31_=>k_is)
  (case c31_=>k_is)
  (case k31_=>k_is)
  (case a32_=>k_is)
  (case l32_=>k_is)
  (case c32_=>k_is)
  (case k32_=>k_is)
  (case a33_=>k_is)
  (case l33_=>k_is)
  (case c33_=>k_is)
  (case k33_=>k_is)
  (case a34_=>k_is)
  (case l34_=>k_is)
  (case c34_=>k_is)
  (case k34_=>k_is)
  (case zn0_=>k_is)
  (case zn1_=>k_is)
  (case zn2_=>k_is)
  (case zn3_=>k_is)
  (case zn4_=>k_is)
  (case zn5_=>k_is)
  (case zn6_=>k_is)
  (case zn7_=>k_is)
  (case zn8_=>k_is)
  (case zn9_=>k_is)
  (case zn10_=>k_is)
  (case zn11_=>k_is)
  (case zn12_=>k_is)
  (case zn13_=>k_is)
  (case zn14_=>k_is)
  (case zc0_=>k_is)
  (case lc_=>k_is)
  (case v11_=>rfl)
  (case v18_=>rfl)
  (case v7_=>rfl)
  (case v9_=>rfl)
  (case v10_=>rfl)
  (case ncT_=>first | rfl | decide | k_is)
  (case lT_=>first | k_is | rfl)
