import PyProof.Rows.All
import Wide.All
import OpenK.AllK
import Wide.FinOn
import Lean
import PyProof.EqAt
import PyProof.EqKinds
import PyProof.TupleCall
import KE.KSortTup
import KE.KItemsList
import KE.KDictList
import PyProof.AttrMissHeap
import KE.KDictOf
import PyProof.NeKinds
import PyProof.IsiHeapPairs
import PyProof.IsiSeqPairs
import PyProof.SetKind
import PyProof.Rows.SetFrom
import PyProof.DictIter
import PyProof.CollectWalk
import PyProof.DictWalks
import PyProof.FactsAll.subtypes_5
import PyProof.IsiTupleOf
import PyProof.IsiPairs
import PyProof.Draws
import PyProof.EnumMake
import PyProof.WalksMore
import KE.KRevIter
import PyProof.ListRange
import PyProof.StrWalks
import PyProof.DictUpdate
import PyProof.NsDelKeeps
import PyProof.ToksMono
import PyProof.StrCalls6
import KE.KIntText
import PyProof.StrLawsReplace
import PySem.Challenge.RW_copiedhouse_k09_terms_texts
open PySem.W (Frag InitBack InstAt bind_fn callWith_K cellsFrom_some check_slot clsIn codeIn codeRec_of emptyDict findCls findIn findObj fnOf handedIn hasDictIn instObj isFn keepIn kitOne lookIn looks_clsIn looks_find looks_findIn looks_mroIn makesIn methodObj mg_of mroIn nsIn plainGet plainGet_of plainOver readsIn set_plain specialIn takerIn takesIn typeIn)
open PyProof.Rows (boot_abs boot_all boot_isinstance boot_max boot_min callWith_type1)
set_option Elab.async false
set_option linter.all false
set_option maxRecDepth 100000
namespace L2
open PySem PySem.Spec PyProof.Rows
abbrev zC:=Sum Int Str
def oM:zC->Value->Bool
 | .inl k,v=>Value.isInt k v
 | .inr x,v=>Value.isStrOf x v
def zlf (w:World):zC->Int
 | .inl k=>hashInt k
 | .inr x=>hashStr w x
theorem tO: ∀{k:zC} {v:Value},oM k v=true->(∃i t,k=Sum.inl i/\v=Value.int i t)∨(∃x t,k=Sum.inr x/\v=Value.str x t)
 | .inl i,v,h=>by
  obtain⟨t,e⟩:=Value.isInt_shape (k:=i) (v:=v) h;exact .inl ⟨i,t,rfl,e⟩
 | .inr x,v,h=>by
  obtain⟨t,e⟩:=Value.isStrOf_shape (x:=x) (v:=v) h;exact .inr ⟨x,t,rfl,e⟩
theorem zlg (i:Int)(t:Tok):oM (.inl i) (.int i t)=true:=by simp[oM,Value.isInt]
theorem zlh (x:Str)(t:Tok):oM (.inr x) (.str x t)=true:=by simp[oM,Value.isStrOf]
theorem zlj (a b:Int):decide ((Sum.inl a:zC)=Sum.inl b)=(a==b):=by
 by_cases e:a=b
 ·subst e;simp
 ·have h: ¬ (Sum.inl a:zC)=Sum.inl b:=λq=>e (Sum.inl.inj q)
  rw[decide_eq_false h];exact(beq_eq_false_iff_ne.mpr e).symm
theorem zlm (a b:Str):decide ((Sum.inr a:zC)=Sum.inr b)=decide (a=b):=by
 by_cases e:a=b
 ·subst e;simp
 ·have h: ¬ (Sum.inr a:zC)=Sum.inr b:=λq=>e (Sum.inr.inj q)
  rw[decide_eq_false h,decide_eq_false e]
theorem zlk (a:Int)(b:Str):decide ((Sum.inl a:zC)=Sum.inr b)=false:=decide_eq_false (λq=>nomatch q)
theorem zll (a:Str)(b:Int):decide ((Sum.inr a:zC)=Sum.inl b)=false:=decide_eq_false (λq=>nomatch q)
def xY (prog:Program)(w:World):PySem.KeyKind prog w zC where
 is:=oM
 hash:=zlf w
 inj:=λv a b ha hb=>by
  rcases tO ha with⟨i,t,rfl,rfl⟩ | ⟨x,t,rfl,rfl⟩
  ·rcases tO hb with⟨j,u,rfl,e⟩ | ⟨y,u,rfl,e⟩
   ·injection e with e1 _;rw[e1]
   ·exact nomatch e
  ·rcases tO hb with⟨j,u,rfl,e⟩ | ⟨y,u,rfl,e⟩
   ·exact nomatch e
   ·injection e with e1 _;rw[e1]
 byValue:=λk v h=>by
  rcases tO h with⟨i,t,rfl,rfl⟩ | ⟨x,t,rfl,rfl⟩ <;> rfl
 pyHash:=λhv h=>by
  rcases tO hv with⟨i,t,rfl,rfl⟩ | ⟨x,t,rfl,rfl⟩
  ·exact wpAny_pyHash_int h
  ·exact wpAny_pyHash_str h
 eqBool:=λhu hv h=>by
  rcases tO hu with⟨i,t,rfl,rfl⟩ | ⟨x,t,rfl,rfl⟩
  ·rcases tO hv with⟨j,u,rfl,rfl⟩ | ⟨y,u,rfl,rfl⟩
   ·rw[zlj]at h;exact wpAny_eqBool_int h
   ·rw[zlk]at h;exact SeqAt.EqAt.int_str i t y u _ _ _ _ h
  ·rcases tO hv with⟨j,u,rfl,rfl⟩ | ⟨y,u,rfl,rfl⟩
   ·rw[zll]at h;exact SeqAt.EqAt.str_int x t j u _ _ _ _ h
   ·rw[zlm]at h;exact wpAny_eqBool_str h
 «strs»:=λk x t v h=>by
  rcases tO h with⟨i,u,rfl,e⟩ | ⟨y,u,rfl,e⟩
  ·exact nomatch e
  ·injection e with e1 _
   subst e1;cases v <;> rfl
theorem zlO (prog:Program)(w:World)(i:Int)(t:Tok):(xY prog w).is (.inl i) (.int i t)=true:=zlg i t
theorem zlP (prog:Program)(w:World)(x:Str)(t:Tok):(xY prog w).is (.inr x) (.str x t)=true:=zlh x t
inductive V where
 | non | bl (b:Bool) | int (i:Int) | str (x:Str) | byt (b:Array UInt8) | flt (b:UInt64) | ref (a:Addr) | ty (n:String)
 deriving DecidableEq
def zL:V->Value->Prop
 | .non,u=>u=Value.none
 | .bl b,u=>u=Value.bool b
 | .int i,u=> ∃t,u=Value.int i t
 | .str x,u=> ∃t,u=Value.str x t
 | .byt b,u=> ∃t,u=Value.bytes b t
 | .flt b,u=> ∃t,u=Value.float b t
 | .ref a,u=>u=Value.ref a
 | .ty n,u=>u=Value.type n
abbrev zI:List V->List Value->Prop:=Paired zL
theorem zI.length {xs:List V}{us:List Value}(r:zI xs us):xs.length=us.length:=Paired.length r
theorem zI.get: ∀{xs:List V} {us:List Value} {i:Nat} {x:V},zI xs us->xs[i]?=some x->∃u,us[i]?=some u/\zL x u
 | _,_,_,_,.nil,e=>by simp at e
 | _,_,0,_,.cons r _,e=>by simp at e;subst e;exact⟨_,rfl,r⟩
 | _,_,i+1,x,.cons _ t,e=>by
  obtain⟨u,h1,h2⟩:=zI.get (i:=i) (x:=x) t (by simpa using e);exact⟨u,by simpa using h1,h2⟩
theorem zI.set {x:V}{u:Value}(r:zL x u): ∀{xs:List V} {us:List Value} (i:Nat),zI xs us->zI (xs.set i x) (us.set i u)
 | _,_,_,.nil=> .nil
 | _,_,0,.cons _ t=> .cons r t
 | _,_,i+1,.cons q t=> .cons q (zI.set r i t)
theorem zI.append: ∀{xs ys:List V} {us ws:List Value},zI xs us->zI ys ws->zI (xs++ys) (us++ws)
 | _,_,_,_,.nil,s=>s
 | _,_,_,_,.cons r t,s=> .cons r (zI.append t s)
theorem zI.take: ∀{xs:List V} {us:List Value} (n:Nat),zI xs us->zI (xs.take n) (us.take n)
 | _,_,0,_=> .nil
 | _,_,_+1,.nil=> .nil
 | _,_,n+1,.cons r t=> .cons r (zI.take n t)
theorem zI.drop: ∀{xs:List V} {us:List Value} (n:Nat),zI xs us->zI (xs.drop n) (us.drop n)
 | _,_,0,r=>r
 | _,_,_+1,.nil=> .nil
 | _,_,n+1,.cons _ t=>zI.drop n t
def xS:Option V->Option Value->Prop
 | some v,some u=>zL v u
 | none,none=>True
 | _,_=>False
def KV {κ:Type} :List (κ×V)->List (κ×Value)->Prop:=Paired λ(p:κ×V) (q:κ×Value)=>p.1=q.1/\zL p.2 q.2
def kV:zC->V
 | .inl i=> .int i
 | .inr x=> .str x
inductive HO where
 | lst (xs:List V)
 | tup (xs:List V)
 | dK (kvs:List (zC×V)) | dT (kvs:List (List zC×V))
 | set (S:Int->Bool) (n:Nat)
 | ins (C dx:Addr) (fs:List (Str×V))
 | own (x:Addr)
 | xd (fs:List (Str×V))
 | met (f x:Addr)
 | rng (lo hi:Int)
 | frz (o:Obj) (u:HO)
 | tbl (ps:Array Value)
 | ext (φ:Heap->Prop)
abbrev Hp:=Addr->Option HO
def upd (H:Hp)(a:Addr)(o:HO):Hp:=λb=>if b=a then some o else H b
theorem xC {H:Hp}{a:Addr}{o:HO} :upd H a o a=some o:=by unfold upd;rw[if_pos rfl]
theorem zU {H:Hp}{a b:Addr}{o:HO}(h:b≠a):upd H a o b=H b:=by unfold upd;rw[if_neg h]
theorem oS {H:Hp}{a b:Addr}{o u:HO}(h:H a=some o)(h':H b=some u)(d:o≠u):a≠b:=by
 intro e;subst e;rw[h]at h';exact d (Option.some.inj h')
theorem xZ {H:Hp}{a b:Addr}{o:HO}(h:H a=some o)(h':H b=none):a≠b:=by
 intro e;subst e;rw[h]at h';cases h'
def tD (h:Heap)(a:Addr)(items:Array Value):Prop:= ∃o,h.get? a=some o/\o.cls= .type "tuple" /\∃n,o.data= .seq items n/\o.dict=none
theorem tD.tup {h:Heap}{a:Addr}{items:Array Value}(x:tD h a items):IsTup h a items:=let⟨o,e,c,n,d,_⟩:=x;⟨o,e,c,n,d⟩
theorem tD.lt {h:Heap}{a:Addr}{items:Array Value}(x:tD h a items):a < h.objs.size:=let⟨_,e,_⟩:=x;Heap.lt_size e
theorem tD.new (h:Heap)(items:Array Value):tD (h.push {cls:= .type "tuple",data:= .seq items}) h.objs.size items:=⟨_,Heap.get?_push_size _ rfl,rfl,_,rfl,rfl⟩
section
variable (P:Program) (w:World)
def x9 (H:Hp)(h:Heap)(a:Addr):HO->Prop
 | .lst xs=>xs.length<=sizeLine/\∃(its:List Value) (n:Nat),zI xs its/\h.get? a=some {cls:= .type "list",data:= .seq its.toArray n}
 | .tup xs=>xs.length<=sizeLine/\∃its:List Value,zI xs its/\tD h a its.toArray
 | .dK kvs=>kvs.length<=sizeLine/\(a==sysModules)=false/\∃vs,KV kvs vs/\h.DictOf (xY P w) a vs
 | .dT kvs=>kvs.length<=sizeLine/\(a==sysModules)=false/\∃xs:List (List zC×Addr×Value),
   Paired (λ(p:List zC×V) (q:List zC×Addr×Value)=>p.1=q.1/\H q.2.1=some (.tup (p.1.map kV))/\zL p.2 q.2.2) kvs xs/\
   ∃o es ep,h.get? a=some o/\o.ExactDict/\o.data= .dict es ep/\es.toList=xs.map (entryOfKey (tupleKind (xY P w)))/\(xs.map (·.1)).Nodup
 | .set S n=>h.SetOf (intKind P w) a S n
 | .ins C dx fs=>H dx=some (.own a)/\fs.length<=1000/\dx≠a/\h.get? a=some (instObj C dx)/\
   ∃mA,h.Ns1 dx mA/\(∀f,xS (fs.lookup f) (mA f))/\PySem.Within mA (fs.map (·.1))
 | .own _=> ∃o,h.get? a=some o
 | .xd fs=> ∃mA,h.Ns1 a mA/\∀f,xS (fs.lookup f) (mA f)
 | .rng lo hi=> ∃t u v,h.get? a=some {cls:= .type "range",data:= .fields #[.int lo t,.int hi u,.int 1 v]}
 | .frz o u=>h.get? a=some o/\x9 H h a u
 | .tbl ps=>h.get? a=some {cls:= .none,data:= .fields ps}
 | .met f x=>h.get? a=some (methodObj (.ref f) (.ref x))
 | .ext φ=>φ h/\(∃o,h.get? a=some o)/\∀h1 h2:Heap,φ h1->(∀o,h1.get? a=some o->h2.get? a=some o)->φ h2
def yQ (H:Hp)(h:Heap):Prop:= ∀a o,H a=some o->x9 P w H h a o
end
section
variable {P:Program} {w:World} {H H':Hp} {h h':Heap} {a:Addr} {o:HO}
theorem x9.lt (x:x9 P w H h a o):a < h.objs.size:=by
 cases o with
 | lst xs=>obtain⟨_,_,_,_,e⟩:=x;exact Heap.lt_size e
 | tup xs=>obtain⟨_,_,_,p⟩:=x;exact p.lt
 | dK kvs=>obtain⟨_,_,_,_,o,_,_,e,_⟩:=x;exact Heap.lt_size e
 | dT kvs=>obtain⟨_,_,_,_,o,_,_,e,_⟩:=x;exact Heap.lt_size e
 | set S n=>obtain⟨o,_,_,_,e,_⟩:=x;exact Heap.lt_size e
 | ins C dx fs=>obtain⟨_,_,_,e,_⟩:=x;exact Heap.lt_size e
 | own y=>obtain⟨_,e⟩:=x;exact Heap.lt_size e
 | xd fs=>obtain⟨_,⟨_,_,_,e,_⟩,_⟩:=x;exact Heap.lt_size e
 | rng lo hi=>obtain⟨_,_,_,e⟩:=x;exact Heap.lt_size e
 | frz ob u=>obtain⟨e,_⟩:=x;exact Heap.lt_size e
 | tbl ps=>exact Heap.lt_size (show h.get? a=some _ from x)
 | met f y=>exact Heap.lt_size (show h.get? a=some _ from x)
 | ext φ=>obtain⟨_,⟨_,e⟩,_⟩:=x;exact Heap.lt_size e
theorem Paired.mapP {α β:Type}{F G:α->β->Prop} : ∀{l₁:List α} {l₂:List β},Paired F l₁ l₂->(∀a b,F a b->G a b)->Paired G l₁ l₂
 | _,_,.nil,_=> .nil
 | _,_,.cons r t,f=> .cons (f _ _ r) (Paired.mapP t f)
theorem x9.stay (x:x9 P w H h a o)(k: ∀b u,(b=a∨H b=some (.own a))->h.get? b=some u->h'.get? b=some u)
  (ho: ∀b,H b=some (.own a)->H' b=some (.own a)) (ht: ∀b xs,H b=some (.tup xs)->H' b=some (.tup xs)):x9 P w H' h' a o:=by
 induction o with
 | lst xs=>obtain⟨z,its,n,r,e⟩:=x;exact⟨z,its,n,r,k _ _ (.inl rfl) e⟩
 | tup xs=>obtain⟨z,its,r,ob,e,c⟩:=x;exact⟨z,its,r,ob,k _ _ (.inl rfl) e,c⟩
 | dK kvs=>obtain⟨z,y,vs,r,ob,es,ep,e,c⟩:=x;exact⟨z,y,vs,r,ob,es,ep,k _ _ (.inl rfl) e,c⟩
 | dT kvs=>
  obtain⟨z,y,xs,r,ob,es,ep,e,c⟩:=x;exact⟨z,y,xs,Paired.mapP r λp q z=>⟨z.1,ht _ _ z.2.1,z.2.2⟩,ob,es,ep,k _ _ (.inl rfl) e,c⟩
 | set S n=>obtain⟨ob,es,ep,t,e,c⟩:=x;exact⟨ob,es,ep,t,k _ _ (.inl rfl) e,c⟩
 | ins C dx fs=>
  obtain⟨d,z,ne,e,mA,⟨od,es,ep,e2,c⟩,r⟩:=x;exact⟨ho _ d,z,ne,k _ _ (.inl rfl) e,mA,⟨od,es,ep,k _ _ (.inr d) e2,c⟩,r⟩
 | own y=>obtain⟨ob,e⟩:=x;exact⟨ob,k _ _ (.inl rfl) e⟩
 | xd fs=>obtain⟨mA,⟨od,es,ep,e,c⟩,r⟩:=x;exact⟨mA,⟨od,es,ep,k _ _ (.inl rfl) e,c⟩,r⟩
 | rng lo hi=>obtain⟨t,u,v,e⟩:=x;exact⟨t,u,v,k _ _ (.inl rfl) e⟩
 | frz ob u ih=>obtain⟨e,q⟩:=x;exact⟨k _ _ (.inl rfl) e,ih q⟩
 | tbl ps=>
  have e:h.get? a=some {cls:= .none,data:= .fields ps} :=x;show h'.get? a=some {cls:= .none,data:= .fields ps};exact k a _ (.inl rfl) e
 | met f y=>
  have e:h.get? a=some (methodObj (.ref f) (.ref y)):=x;show h'.get? a=some (methodObj (.ref f) (.ref y));exact k a _ (.inl rfl) e
 | ext φ=>obtain⟨p,⟨o,e⟩,st⟩:=x;exact⟨st _ _ p λo q=>k _ _ (.inl rfl) q,⟨o,k _ _ (.inl rfl) e⟩,st⟩
theorem yQ.lt (x:yQ P w H h)(e:H a=some o):a < h.objs.size:=(x a o e).lt
theorem yQ.fresh (x:yQ P w H h)(e:h.objs.size<=a):H a=none:=by
 cases q:H a with
 | none=>rfl
 | some u=>exact absurd (Nat.lt_of_lt_of_le (x.lt q) e) (Nat.lt_irrefl _)
theorem yQ.kept (x:yQ P w H h)(k: ∀b u,h.get? b=some u->h'.get? b=some u):yQ P w H h':=λa o e=>
 (x a o e).stay (λb u _ q=>k b u q) (λ_ q=>q) λ_ _ q=>q
theorem yQ.laid (x:yQ P w H h)(k: ∀b u,h.get? b=some u->h'.get? b=some u)(hp:h.objs.size<=a)(new:x9 P w (upd H a o) h' a o):yQ P w (upd H a o) h':=λb u e=>by
 have hn:=x.fresh hp;by_cases hb:b=a
 ·subst hb;rw[xC]at e;cases e;exact new
 ·rw[zU hb]at e
  exact(x b u e).stay (λc v _ q=>k c v q) (λc q=>by rw[zU (xZ q hn)];exact q) λc xs q=>by rw[zU (xZ q hn)];exact q
end
def Rd (H:Hp)(a:Addr)(u:HO):Prop:=H a=some u∨∃o,H a=some (.frz o u)
theorem Rd.ok {P:Program}{w:World}{H:Hp}{h:Heap}{a:Addr}{u:HO}(r:Rd H a u)(x:yQ P w H h):x9 P w H h a u:=by
 rcases r with r | ⟨o,r⟩
 ·exact x a u r
 ·obtain⟨_,q⟩:=x a _ r
  exact q
def nY:Option HO->Prop
 | some (.lst _)=>True
 | some (.dK _)=>True
 | some (.dT _)=>True
 | some (.set _ _)=>True
 | some (.ins _ _ _)=>True
 | some (.ext _)=>True
 | _=>False
section
variable {P:Program} {w:World} {H:Hp} {h h':Heap} {x e:Addr} {o':HO}
theorem yQ.write (ok:yQ P w H h)(mu:nY (H x))(he:e=x∨H e=some (.own x))(k: ∀b u,b≠e->h.get? b=some u->h'.get? b=some u)(heo: ∃u,h'.get? e=some u)
  (new:x9 P w (upd H x o') h' x o'):yQ P w (upd H x o') h':=λb u q=>by
 have nown: ∀c y,H c=some (.own y)->c≠x:=λc y r z=>by subst z;rw[r]at mu;exact mu
 have ntup: ∀c xs,H c=some (.tup xs)->c≠x:=λc xs r z=>by subst z;rw[r]at mu;exact mu
 by_cases hb:b=x
 ·subst hb;rw[xC]at q;cases q;exact new
 ·rw[zU hb]at q
  by_cases hbe:b=e
  ·have q':H b=some (.own x):=by
    rcases he with z | z
    ·exact absurd (hbe.trans z) hb
    ·rw[hbe];exact z
   rw[q]at q';cases q';obtain⟨v,hv⟩:=heo;exact⟨v,by rw[hbe];exact hv⟩
  ·refine(ok b u q).stay (λc v hc r=>k c v ?_ r) (λc r=>by rw[zU (nown c b r)];exact r) λc xs r=>by rw[zU (ntup c xs r)];exact r
   rcases hc with rfl | hc
   ·exact hbe
   ·rintro rfl
    rcases he with z | z
    ·exact nown c b hc z
    ·rw[hc]at z;cases z;exact hb rfl
end
structure Un (fs ex:List Addr)(H H':Hp)(h h':Heap):Prop where
 keep: ∀b o,h.get? b=some o->H b=none->b∉fs->b∉ex->h'.get? b=some o
 slot: ∀b o,h.get? b=some o->H b=none->b∈fs->b∉ex->∃sl,h'.get? b=some {o with slots:=sl}
 free: ∀b o,h.get? b=some o->H b=none->b∉ex->H' b=none
 there: ∀b o,h.get? b=some o->b∉ex->∃o',h'.get? b=some o'
 tups: ∀b xs,H b=some (.tup xs)->H' b=some (.tup xs)
 frzs: ∀b o u,H b=some (.frz o u)->H' b=some (.frz o u)
 tbls: ∀b ps,H b=some (.tbl ps)->∃more,H' b=some (.tbl (ps++more))
section
variable {fs fs' ex ex':List Addr} {H H1 H2:Hp} {h h1 h2 h':Heap} {a x e:Addr} {o:HO}
theorem Un.any (u:Un fs ex H H1 h h1){b:Addr}{ob:Obj}(q:h.get? b=some ob)(n:H b=none)(hx:b∉ex): ∃sl,h1.get? b=some {ob with slots:=sl} :=by
 by_cases hb:b∈fs
 ·exact u.slot b ob q n hb hx
 ·exact⟨ob.slots,u.keep b ob q n hb hx⟩
theorem Un.kept (k: ∀b u,h.get? b=some u->h'.get? b=some u):Un fs ex H H h h':=
 ⟨λb ob q _ _ _=>k b ob q,λb ob q _ _ _=>⟨ob.slots,k b ob q⟩,λ_ _ _ n _=>n,λb ob q _=>⟨ob,k b ob q⟩,λ_ _ q=>q,λ_ _ _ q=>q,λ_ ps q=>⟨#[],by rw[q];simp⟩⟩
theorem Un.refl:Un fs ex H H h h:=Un.kept λ_ _ q=>q
theorem Un.laid (k: ∀b u,h.get? b=some u->h'.get? b=some u)(hp:h.objs.size<=a)(hn:H a=none):Un fs ex H (upd H a o) h h' where
 keep:=λb u q _ _ _=>k b u q
 slot:=λb u q _ _ _=>⟨u.slots,k b u q⟩
 free:=λb u q n _=>by rw[zU (Nat.ne_of_lt (Nat.lt_of_lt_of_le (Heap.lt_size q) hp))];exact n
 there:=λb u q _=>⟨u,k b u q⟩
 tups:=λb xs q=>by rw[zU (xZ q hn)];exact q
 frzs:=λb u xs q=>by rw[zU (xZ q hn)];exact q
 tbls:=λb ps q=>⟨#[],by rw[zU (xZ q hn),q];simp⟩
theorem Un.write (mu:nY (H x))(he:e=x∨H e=some (.own x))(k: ∀b u,b≠e->h.get? b=some u->h'.get? b=some u)(heo: ∃u,h'.get? e=some u):Un fs ex H (upd H x o) h h':=by
 have hx: ∀b,H b=none->b≠x:=λb n z=>by subst z;rw[n]at mu;exact mu
 have hb: ∀b,H b=none->b≠e:=λb n z=>by
  subst z;rcases he with r | r
  ·exact hx b n r
  ·rw[n]at r;cases r
 have hm: ∀b u,H b=some u->¬ nY (some u)->b≠x:=λb u q nm z=>by subst z;rw[q]at mu;exact nm mu
 refine⟨λb u q n _ _=>k b u (hb b n) q,λb u q n _ _=>⟨u.slots,k b u (hb b n) q⟩,λb u q n _=>by rw[zU (hx b n)];exact n,λb u q _=> ?_,
  λb xs q=>by rw[zU (hm b _ q λz=>z)];exact q,λb u xs q=>by rw[zU (hm b _ q λz=>z)];exact q,λb ps q=>⟨#[],by rw[zU (hm b _ q λz=>z),q];simp⟩⟩
 by_cases hbe:b=e
 ·subst hbe;exact heo
 ·exact⟨u,k b u hbe q⟩
end
def hG (h:Heap)(H:Hp):List Addr:=(List.range h.objs.size).filter λa=>(H a).isSome
def sE (h:Heap)(H:Hp):Heap:=PySem.W.hideAll h (hG h H)
theorem zkF (h:Heap)(H:Hp):(sE h H).objs.size=h.objs.size:=PySem.W.hideAll_size _ _
theorem zkE {h:Heap}{H:Hp}{b:Addr}{o:Obj}(e:h.get? b=some o)(n:H b=none):(sE h H).get? b=some o:=
 PySem.W.hideAll_get _ e λhm=>by
  have q:(H b).isSome=true:=(List.mem_filter.mp hm).2;rw[n]at q;simp at q
theorem zmv {h:Heap}{H:Hp}{b:Addr}{o:Obj}(e:(sE h H).get? b=some o):h.get? b=some o/\H b=none:=by
 have e':h.get? b=some o:=PySem.W.of_hideAll (hG h H) e;refine⟨e',?_⟩;cases q:H b with
 | none=>rfl
 | some x=>
  have hm:b∈hG h H:=List.mem_filter.mpr ⟨List.mem_range.mpr (Heap.lt_size e'),by simp[q]⟩;have z:(sE h H).get? b=none:=PySem.W.hideAll_none (hG h H) hm;rw[z]at e;cases e
def zje (g h:Heap)(L:Addr):List (Addr×Obj):=(List.range h.objs.size).filterMap λa=>if a=L∨(g.get? a).isSome=true then none else(h.get? a).map λo=>(a,o)
def yT (g h:Heap)(L d:Addr):List (Addr×Obj):=(zje g h L).filter λp=>decide (p.1≠d)
structure Mod (K:Frag)(mg:Str->Option Value)(base:Heap):Prop where
 kin:K.In base
 glob:base.Ns mainGlobals mg
 blt: ∃mb,base.Ns builtinsNs mb/\∀x:Str,x≠ "__name__" ->mb x=bootBuiltins x
 nolimit:base.NoLimit
structure Cx where
 prog:Program
 w:World
 K:Frag
 mg:Str->Option Value
 base:Heap
 A:Around
 N:List Str
 s₀:Shared
 H₀:Hp
 env:Env
 outer:List Env
 stack:List Env
 ex:List Addr
 fn:Str->Bool
 calm:Bool
 pn:List (Addr×Obj)
 xe:Value->Shared->Prop
def yX (l:List Env):List Addr:=l.filterMap (·.frame)
abbrev Cx.fs (X:Cx):List Addr:=yX X.outer
def qO (sc:Scope)(x:Str):Prop:=sc.names.lookup x=some .local∨sc.names.lookup x=some .cell∨sc.names.lookup x=some .free
def uE (sc:Scope)(x:Str):Prop:=sc.names.lookup x=some .local∨sc.names.lookup x=some .cell
def zdk (env:Env)(h:Heap)(m:Str->Option Value)(x:Str)(u:Value):Prop:=
 (env.kindOf x=some .local/\m x=some u)∨((env.kindOf x=some .cell∨env.kindOf x=some .free)/\∃c,env.cells.lookup x=some c/\h.IsCell c (some u))
structure Cx.Ok (X:Cx):Prop where
 mod:Mod X.K X.mg X.base
 kind:X.env.scope.kind= .function
 glob:X.env.globals=mainGlobals
 blt:X.env.builtins=builtinsNs
 above:X.s₀.heap.objs.size<=X.env.locals
 inj: ∀x y c,X.env.cells.lookup x=some c->X.env.cells.lookup y=some c->x=y
 has: ∀x,(X.env.kindOf x=some .cell∨X.env.kindOf x=some .free)->∃c,X.env.cells.lookup x=some c
 cab: ∀x c,X.fn x=true->X.env.cells.lookup x=some c->X.s₀.heap.objs.size<=c
 hd:X.calm=true->X.A.handled=none
 frames:X.A.frames=some X.stack
 stk:X.stack=X.outer∨(X.stack=X.env::X.outer/\X.env.frame=some X.env.locals)
 exf: ∀b∈X.ex,b≠X.env.locals/\∀x c,X.env.cells.lookup x=some c->c≠b
 bs: ∀b o,X.base.get? b=some o->X.s₀.heap.get? b=some o/\X.H₀ b=none
 bsz:X.base.objs.size<=X.s₀.heap.objs.size
 noex: ∀b o,X.base.get? b=some o->b∉X.ex
 exfs: ∀b∈X.ex,b∉X.fs
 funs:X.s₀.heap.FunFrames X.base X.outer
 frf: ∀b∈X.fs,X.H₀ b=none
structure z6 (X:Cx)(pins:List (Addr×Obj))(σ:List (Option V))(H:Hp)(s:Shared):Prop where
 ok:X.Ok
 os:s.os=X.s₀.os
 bare:AllBare s.gens
 base:Un X.fs X.ex X.H₀ H X.s₀.heap s.heap
 loc: ∃m,s.heap.Ns X.env.locals m/\∀(i:Nat) (x:Str) (v:V),X.N[i]?=some x->σ[i]?=some (some v)->qO X.env.scope x->∃u,zL v u/\zdk X.env s.heap m x u
 cell: ∀x c,X.env.cells.lookup x=some c->∃v,s.heap.IsCell c v
 free:H X.env.locals=none
 freeC: ∀x c,X.env.cells.lookup x=some c->H c=none
 pin: ∀p∈X.pn++pins,s.heap.get? p.1=some p.2/\H p.1=none/\p.1≠X.env.locals/\p.1∉X.fs/\∀v,p.2.data≠ .cell v
 hok:yQ X.prog X.w H s.heap
 len:σ.length=X.N.length
section
variable {X:Cx} {pins:List (Addr×Obj)} {σ:List (Option V)} {H H':Hp} {s:Shared} {h':Heap}
theorem Cx.Ok.nofr (ok:X.Ok){b:Addr}{o:Obj}(e:X.base.get? b=some o):b∉X.fs:=λhb=>by
 have:=(ok.funs.mem hb).1;rw[e]at this;cases this
theorem z6.bs (I:z6 X pins σ H s): ∀b o,X.base.get? b=some o->s.heap.get? b=some o/\H b=none:=λb o e=>
 ⟨I.base.keep b o (I.ok.bs b o e).1 (I.ok.bs b o e).2 (I.ok.nofr e) (I.ok.noex b o e),I.base.free b o (I.ok.bs b o e).1 (I.ok.bs b o e).2 (I.ok.noex b o e)⟩
theorem z6.bk (I:z6 X pins σ H s): ∀b o,X.base.get? b=some o->s.heap.get? b=some o:=λb o e=>(I.bs b o e).1
theorem z6.mod (I:z6 X pins σ H s):Mod X.K X.mg X.base:=I.ok.mod
theorem z6.kIn (I:z6 X pins σ H s):X.K.In s.heap:=I.ok.mod.kin.keeps I.bk
theorem z6.lt (I:z6 X pins σ H s):X.env.locals < s.heap.objs.size:=let⟨_,hn,_⟩:=I.loc;hn.lt
theorem z6.sz (I:z6 X pins σ H s):X.s₀.heap.objs.size<=s.heap.objs.size:=Nat.le_trans I.ok.above (Nat.le_of_lt I.lt)
theorem z6.nofs (I:z6 X pins σ H s){a:Addr}(h:s.heap.objs.size<=a):a∉X.fs:=λhb=>by
 obtain⟨_,o,ho,_⟩:=I.ok.funs.mem hb;exact absurd (Nat.lt_of_lt_of_le (Heap.lt_size ho) (Nat.le_trans I.sz h)) (Nat.lt_irrefl _)
theorem z6.cne (I:z6 X pins σ H s): ∀x c,X.env.cells.lookup x=some c->c≠X.env.locals:=λx c e z=>by
 obtain⟨v,o,ho,hd⟩:=I.cell x c e;obtain⟨m,⟨o',es,ep,ho',hd',_⟩,_⟩:=I.loc;rw[z,ho']at ho;cases ho;rw[hd']at hd;cases hd
theorem z6.funs (I:z6 X pins σ H s):s.heap.FunFrames X.base X.outer:=by
 have all: ∀(l:List Env),(∀b∈yX l,b∈X.fs)->X.s₀.heap.FunFrames X.base l->s.heap.FunFrames X.base l:=by
  intro l
  induction l with
  | nil=>intro _ _;trivial
  | cons env r ih=>
   intro hs hl;obtain⟨hk,⟨L,o,hf,hn,ho,hd⟩,hr⟩:=hl;have hL:L∈X.fs:=hs L (by unfold yX;rw[List.filterMap_cons,hf];exact List.mem_cons_self);obtain⟨sl,e⟩:=I.base.slot L o ho (I.ok.frf L hL) hL λz=>I.ok.exfs L z hL;exact⟨hk,⟨L,_,hf,hn,e,hd⟩,ih (λb hb=>hs b (by unfold yX;rw[List.filterMap_cons,hf];exact List.mem_cons_of_mem _ hb)) hr⟩
 exact all X.outer (λ_ hb=>hb) I.ok.funs
theorem z6.stack (I:z6 X pins σ H s):s.heap.FunFrames X.base X.stack:=by
 rcases I.ok.stk with e | ⟨e,hf⟩
 ·rw[e];exact I.funs
 ·rw[e]
  obtain⟨m,hn,_⟩:=I.loc;refine .cons (by rw[I.ok.kind];decide) hf hn ?_ I.funs;exact Heap.get?_none_of_le (Nat.le_trans I.ok.bsz I.ok.above)
theorem z6.stkSub (I:z6 X pins σ H s): ∀b∈yX X.stack,b∈X.env.locals::X.fs:=λb hb=>by
 rcases I.ok.stk with e | ⟨e,hf⟩
 ·rw[e]at hb;exact List.mem_cons_of_mem _ hb
 ·rw[e]at hb
  unfold yX at hb;rw[List.filterMap_cons,hf]at hb;exact hb
theorem z6.stkFree (I:z6 X pins σ H s): ∀b∈yX X.stack,H b=none:=λb hb=>by
 rcases List.mem_cons.mp (I.stkSub b hb)with e | hb
 ·rw[e];exact I.free
 ·obtain⟨_,o,ho,_⟩:=I.ok.funs.mem hb
  exact I.base.free b o ho (I.ok.frf b hb) λz=>I.ok.exfs b z hb
theorem z6.step {g':Array GenState}{t':Nat}{d':Drawn}{ch:List Addr}(I:z6 X pins σ H s)
  (hch: ∀b∈ch,(b∈X.ex∨X.s₀.heap.objs.size<=b)/\b≠X.env.locals/\(∀x c,X.env.cells.lookup x=some c->c≠b)/\∀p∈X.pn++pins,p.1≠b)
  (keep: ∀b o,b≠X.env.locals->b∉X.fs->b∉ch->s.heap.get? b=some o->H b=none->h'.get? b=some o)
  (slot: ∀b o,b≠X.env.locals->b∈X.fs->b∉ch->s.heap.get? b=some o->H b=none->∃sl,h'.get? b=some {o with slots:=sl}) (free: ∀b o,b∉ch->s.heap.get? b=some o->H b=none->H' b=none)
  (there: ∀b o,b∉ch->s.heap.get? b=some o->∃o',h'.get? b=some o')
  (tups: ∀b xs,H b=some (.tup xs)->H' b=some (.tup xs)) (frzs: ∀b o u,H b=some (.frz o u)->H' b=some (.frz o u)) (tbls: ∀b ps,H b=some (.tbl ps)->∃more,H' b=some (.tbl (ps++more)))
  (ns: ∀m,s.heap.Ns X.env.locals m->h'.Ns X.env.locals m) (hok:yQ X.prog X.w H' h') (hg:AllBare g'):
  z6 X pins σ H' {s with heap:=h',gens:=g',drawn:=d',toks:=t'} :=by
 have neL: ∀b o,X.s₀.heap.get? b=some o->b≠X.env.locals:=λb o e=>Nat.ne_of_lt (Nat.lt_of_lt_of_le (Heap.lt_size e) I.ok.above);have neC: ∀b o,X.s₀.heap.get? b=some o->b∉X.ex->b∉ch:=λb o e hx hb=>by
  rcases(hch b hb).1 with z | z
  ·exact hx z
  ·exact absurd (Nat.lt_of_lt_of_le (Heap.lt_size e) z) (Nat.lt_irrefl _)
 have cellK: ∀x c,X.env.cells.lookup x=some c->∀v,s.heap.IsCell c v->h'.IsCell c v:=λx c e v ⟨o,ho,hd⟩=>by
  have nch:c∉ch:=λz=>(hch c z).2.2.1 x c e rfl;by_cases hc:c∈X.fs
  ·obtain⟨sl,q⟩:=slot c o (I.cne x c e) hc nch ho (I.freeC x c e)
   exact⟨_,q,hd⟩
  ·exact⟨o,keep c o (I.cne x c e) hc nch ho (I.freeC x c e),hd⟩
 refine⟨I.ok,I.os,hg,⟨λb o e n hb hx=> ?_,λb o e n hb hx=> ?_,λb o e n hx=> ?_,λb o e hx=> ?_,λb xs e=>tups b xs (I.base.tups b xs e),λb o xs e=>frzs b o xs (I.base.frzs b o xs e),λb ps e=> ?_⟩,?_,λx c e=> ?_,?_,λx c e=> ?_,λp hp=> ?_,hok,I.len⟩
 ·exact keep b o (neL b o e) hb (neC b o e hx) (I.base.keep b o e n hb hx) (I.base.free b o e n hx)
 ·obtain⟨sl,e1⟩:=I.base.slot b o e n hb hx
  obtain⟨sl',e2⟩:=slot b _ (neL b o e) hb (neC b o e hx) e1 (I.base.free b o e n hx);exact⟨sl',e2⟩
 ·obtain⟨o',e1⟩:=I.base.there b o e hx
  exact free b o' (neC b o e hx) e1 (I.base.free b o e n hx)
 ·obtain⟨o',e1⟩:=I.base.there b o e hx
  exact there b o' (neC b o e hx) e1
 ·obtain⟨m1,e1⟩:=I.base.tbls b ps e
  obtain⟨m2,e2⟩:=tbls b _ e1;exact⟨m1++m2,by rw[e2,Array.append_assoc]⟩
 ·obtain⟨m,hn,hl⟩:=I.loc
  refine⟨m,ns m hn,λi x v e1 e2 e3=> ?_⟩;obtain⟨u,r,l⟩:=hl i x v e1 e2 e3;refine⟨u,r,?_⟩;rcases l with l | ⟨k,c,e,z⟩
  ·exact .inl l
  ·exact .inr ⟨k,c,e,cellK x c e _ z⟩
 ·obtain⟨v,z⟩:=I.cell x c e
  exact⟨v,cellK x c e v z⟩
 ·obtain⟨m,⟨o,_,_,ho,_⟩,_⟩:=I.loc
  exact free _ o (λz=>(hch _ z).2.1 rfl) ho I.free
 ·obtain⟨v,o,ho,hd⟩:=I.cell x c e
  exact free c o (λz=>(hch c z).2.2.1 x c e rfl) ho (I.freeC x c e)
 ·obtain⟨e,n,ne,nf,d⟩:=I.pin p hp
  have nch:p.1∉ch:=λz=>(hch p.1 z).2.2.2 p hp rfl;exact⟨keep p.1 p.2 ne nf nch e n,free p.1 p.2 nch e n,ne,nf,d⟩
theorem z6.un {t':Nat}(I:z6 X pins σ H s)(u:Un X.fs [] H H' s.heap h')(hok:yQ X.prog X.w H' h'):z6 X pins σ H' {s with heap:=h',toks:=t'} :=by
 obtain⟨m,⟨o,es,ep,ho,r⟩,_⟩:=id I.loc;obtain⟨sl,hL⟩:=u.any ho I.free (by simp);exact I.step (g':=s.gens) (d':=s.drawn) (ch:= []) (λ_ z=>nomatch z) (λb o _ hb _ e n=>u.keep b o e n hb (by simp)) (λb o _ hb _ e n=>u.slot b o e n hb (by simp)) (λb o _ e n=>u.free b o e n (by simp)) (λb o _ e=>u.there b o e (by simp)) u.tups u.frzs u.tbls (λm' hm=>by
  obtain⟨o',es',ep',ho',r'⟩:=hm;rw[ho]at ho';cases ho';exact⟨_,es',ep',hL,r'⟩) hok I.bare
theorem z6.call {g':Array GenState}{t':Nat}{d':Drawn}{ch:List Addr}(I:z6 X pins σ H s)(u:Un (yX X.stack) ch H H' s.heap h')(hok:yQ X.prog X.w H' h')(hg:AllBare g')
  (hch: ∀b∈ch,(b∈X.ex∨X.s₀.heap.objs.size<=b)/\b≠X.env.locals/\(∀x c,X.env.cells.lookup x=some c->c≠b)/\∀p∈X.pn++pins,p.1≠b):
  z6 X pins σ H' {s with heap:=h',gens:=g',drawn:=d',toks:=t'} :=by
 obtain⟨m,⟨o,es,ep,ho,r⟩,_⟩:=id I.loc;obtain⟨sl,hL⟩:=u.any ho I.free λz=>(hch _ z).2.1 rfl;exact I.step (ch:=ch) hch (λb o hL hb hc e n=>u.keep b o e n (λz=>(List.mem_cons.mp (I.stkSub b z)).elim hL hb) hc) (λb o _ _ hc e n=>u.any e n hc) (λb o hc e n=>u.free b o e n hc) (λb o hc e=>u.there b o e hc) u.tups u.frzs u.tbls (λm' hm=>by
  obtain⟨o',es',ep',ho',r'⟩:=hm;rw[ho]at ho';cases ho';exact⟨_,es',ep',hL,r'⟩) hok hg
theorem z6.turned {t':Nat}{it:Addr}(I:z6 X pins σ H s)(k: ∀b o,b≠it->s.heap.get? b=some o->h'.get? b=some o)(hn:H it=none)(hL:it≠X.env.locals)
  (h1:it∈X.ex∨X.s₀.heap.objs.size<=it) (h2: ∀x c,X.env.cells.lookup x=some c->c≠it) (h3: ∀p∈X.pn++pins,p.1≠it):z6 X pins σ H {s with heap:=h',toks:=t'} :=by
 have nit: ∀b u,H b=some u->b≠it:=λb u e z=>by rw[z,hn]at e;cases e
 refine I.step (g':=s.gens) (d':=s.drawn) (ch:= [it]) (λb hb=> ?_) (λb o _ _ hc e _=>k b o (λz=>hc (by simp[z])) e) (λb o _ _ hc e _=>⟨o.slots,k b o (λz=>hc (by simp[z])) e⟩) (λ_ _ _ _ n=>n)
  (λb o hc e=>⟨o,k b o (λz=>hc (by simp[z])) e⟩) (λ_ _ e=>e) (λ_ _ _ e=>e) (λb ps e=>⟨#[],by rw[e];simp⟩) (λm hm=> ?_) (λb u e=> ?_) I.bare
 ·have e:b=it:=by simpa using hb
  subst e;exact⟨h1,hL,h2,h3⟩
 ·obtain⟨o,es,ep,ho,r⟩:=hm
  exact⟨o,es,ep,k _ o (Ne.symm hL) ho,r⟩
 ·refine(I.hok b u e).stay (λc v hc q=>k c v ?_ q) (λ_ q=>q) λ_ _ q=>q
  rcases hc with z | z
  ·rw[z];exact nit b u e
  ·exact nit c _ z
theorem z6.tok (I:z6 X pins σ H s)(t:Nat):z6 X pins σ H {s with toks:=t} :=I.un (h':=s.heap) (t':=t) Un.refl I.hok
theorem z6.kept {t':Nat}(I:z6 X pins σ H s)(k: ∀b u,s.heap.get? b=some u->h'.get? b=some u):z6 X pins σ H {s with heap:=h',toks:=t'} :=I.un (Un.kept k) (I.hok.kept k)
theorem z6.laid {a:Addr}{o:HO}{t':Nat}(I:z6 X pins σ H s)(k: ∀b u,s.heap.get? b=some u->h'.get? b=some u)(hp:s.heap.objs.size<=a)(new:x9 X.prog X.w (upd H a o) h' a o):
  z6 X pins σ (upd H a o) {s with heap:=h',toks:=t'} :=I.un (Un.laid k hp (I.hok.fresh hp)) (I.hok.laid k hp new)
theorem z6.write {x e:Addr}{o:HO}{t':Nat}(I:z6 X pins σ H s)(mu:nY (H x))(he:e=x∨H e=some (.own x))(k: ∀b u,b≠e->s.heap.get? b=some u->h'.get? b=some u)(heo: ∃u,h'.get? e=some u)
  (new:x9 X.prog X.w (upd H x o) h' x o):z6 X pins σ (upd H x o) {s with heap:=h',toks:=t'} :=I.un (Un.write mu he k heo) (I.hok.write mu he k heo new)
theorem z6.pins_of {pins':List (Addr×Obj)}(I:z6 X pins σ H s)(h: ∀p∈pins',s.heap.get? p.1=some p.2/\H p.1=none/\p.1≠X.env.locals/\p.1∉X.fs/\∀v,p.2.data≠ .cell v):z6 X pins' σ H s:=
 ⟨I.ok,I.os,I.bare,I.base,I.loc,I.cell,I.free,I.freeC,λp hp=>(List.mem_append.mp hp).elim (λz=>I.pin p (List.mem_append_left _ z)) (h p),I.hok,I.len⟩
theorem zgt {N:List Str}(hN:N.Nodup){i j:Nat}{x:Str}(a:N[i]?=some x)(b:N[j]?=some x):i=j:=by
 obtain⟨h1,e1⟩:=List.getElem?_eq_some_iff.mp a;obtain⟨h2,e2⟩:=List.getElem?_eq_some_iff.mp b;exact(List.getElem_inj hN).mp (e1.trans e2.symm)
theorem zhN {M:Model}{A:Around}{E:Value->Shared->Prop}{i:Nat}{x:Str}{v:V}{u:Value}{Q:Unit->Shared->Prop}(I:z6 X pins σ H s)(hN:X.N.Nodup)(hi:X.N[i]?=some x)(hx:uE X.env.scope x)(r:zL v u)
  (h: ∀s',z6 X pins (σ.set i (some v)) H s'->(∃a,Heap.SameBut a s.heap s'.heap/\(a=X.env.locals∨X.env.cells.lookup x=some a))->Q () s') (hf:X.fn x=true∨X.env.scope.names.lookup x=some .local:=by first | exact .inl rfl | exact .inr rfl | assumption):wpAny M A (storeName X.env x u) Q E s:=by
 obtain⟨m,hn,hl⟩:=id I.loc;have hcls:(X.env.scope.kind== .class||(X.env.scope.kind== .module&&X.env.locals !=X.env.globals))=false:=by rw[I.ok.kind];rfl
 have hiσ:i < σ.length:=by rw[I.len];exact(List.getElem?_eq_some_iff.mp hi).1
 have cne:=I.cne;have tracked: ∀{a:Addr} {h':Heap},(∃o,s.heap.get? a=some o/\H a=none)->Heap.SameBut a s.heap h'->yQ X.prog X.w H h':=λ{a h'} ha hs b ob e=>by
  obtain⟨_,_,hfree⟩:=ha;refine(I.hok b ob e).stay (λc w' hc q=>(hs.2 c ?_).trans q) (λ_ q=>q) λ_ _ q=>q;rintro rfl;rcases hc with rfl | hc
  ·rw[hfree]at e;cases e
  ·rw[hfree]at hc;cases hc
 rcases hx with hk | hk
 ·refine wpAny_storeName_local hk hn (λh' hn' hs=> ?_) hcls
  obtain⟨oL,_,_,hoL,_⟩:=id hn;refine h _ ⟨I.ok,I.os,I.bare,⟨λb o e n hb hx=> ?_,λb o e n hb hx=> ?_,I.base.free,λb o e hx=> ?_,I.base.tups,I.base.frzs,I.base.tbls⟩,⟨_,hn',λj y v' e1 e2 e3=> ?_⟩,λy c e=> ?_,I.free,I.freeC,λp hp=> ?_,tracked ⟨oL,hoL,I.free⟩ hs,by simpa using I.len⟩ ⟨_,hs,.inl rfl⟩
  ·exact(hs.2 b (Nat.ne_of_lt (Nat.lt_of_lt_of_le (Heap.lt_size e) I.ok.above))).trans (I.base.keep b o e n hb hx)
  ·obtain⟨sl,e1⟩:=I.base.slot b o e n hb hx
   exact⟨sl,(hs.2 b (Nat.ne_of_lt (Nat.lt_of_lt_of_le (Heap.lt_size e) I.ok.above))).trans e1⟩
  ·obtain⟨o',e1⟩:=I.base.there b o e hx
   exact⟨o',(hs.2 b (Nat.ne_of_lt (Nat.lt_of_lt_of_le (Heap.lt_size e) I.ok.above))).trans e1⟩
  ·by_cases hj:j=i
   ·subst hj
    rw[hi]at e1;cases e1;rw[List.getElem?_set_self hiσ]at e2;cases e2;exact⟨u,r,.inl ⟨hk,by simp⟩⟩
   ·rw[List.getElem?_set_ne (Ne.symm hj)]at e2
    obtain⟨u',r',q⟩:=hl j y v' e1 e2 e3;refine⟨u',r',?_⟩;rcases q with⟨k,e⟩ | ⟨k,c,e,z⟩
    ·refine .inl ⟨k,?_⟩
     have:y≠x:=λe=>hj (zgt hN e1 (e▸hi));simp[this,e]
    ·exact .inr ⟨k,c,e,z.sameBut hs (cne y c e)⟩
  ·obtain⟨w',z⟩:=I.cell y c e
   exact⟨w',z.sameBut hs (cne y c e)⟩
  ·obtain⟨e,n,ne,nf,d⟩:=I.pin p hp
   exact⟨(hs.2 p.1 ne).trans e,n,ne,nf,d⟩
 ·have hfn:X.fn x=true:=by
   rcases hf with z | z
   ·exact z
   ·rw[z]at hk;cases hk
  obtain⟨c,hc⟩:=I.ok.has x (.inl hk);obtain⟨w',z⟩:=I.cell x c hc;refine wpAny_storeName_cell I.ok.kind hk hc z (λh' hc' hs=> ?_);obtain⟨oc,hoc,hocd⟩:=id z;refine h {s with heap:=h'} ⟨I.ok,I.os,I.bare,⟨λb o e n hb hx=> ?_,λb o e n hb hx=> ?_,I.base.free,λb o e hx=> ?_,I.base.tups,I.base.frzs,I.base.tbls⟩,⟨m,hn.sameBut hs (Ne.symm (cne x c hc)),λj y v' e1 e2 e3=> ?_⟩,λy c' e=> ?_,I.free,I.freeC,λp hp=> ?_,tracked ⟨oc,hoc,I.freeC x c hc⟩ hs,by simpa using I.len⟩ ⟨c,hs,.inr hc⟩
  ·exact(hs.2 b (Nat.ne_of_lt (Nat.lt_of_lt_of_le (Heap.lt_size e) (I.ok.cab x c hfn hc)))).trans (I.base.keep b o e n hb hx)
  ·obtain⟨sl,e1⟩:=I.base.slot b o e n hb hx
   exact⟨sl,(hs.2 b (Nat.ne_of_lt (Nat.lt_of_lt_of_le (Heap.lt_size e) (I.ok.cab x c hfn hc)))).trans e1⟩
  ·obtain⟨o',e1⟩:=I.base.there b o e hx
   exact⟨o',(hs.2 b (Nat.ne_of_lt (Nat.lt_of_lt_of_le (Heap.lt_size e) (I.ok.cab x c hfn hc)))).trans e1⟩
  ·by_cases hj:j=i
   ·subst hj
    rw[hi]at e1;cases e1;rw[List.getElem?_set_self hiσ]at e2;cases e2;exact⟨u,r,.inr ⟨.inl hk,c,hc,hc'⟩⟩
   ·rw[List.getElem?_set_ne (Ne.symm hj)]at e2
    obtain⟨u',r',q⟩:=hl j y v' e1 e2 e3;refine⟨u',r',?_⟩;rcases q with q | ⟨k,c',e,z'⟩
    ·exact .inl q
    ·refine .inr ⟨k,c',e,z'.sameBut hs ?_⟩
     rintro rfl;exact hj (zgt hN e1 (I.ok.inj _ _ _ e hc▸hi))
  ·by_cases hcc:c'=c
   ·subst hcc;exact⟨_,hc'⟩
   ·obtain⟨w2,z2⟩:=I.cell y c' e
    exact⟨w2,z2.sameBut hs hcc⟩
  ·obtain⟨e,n,ne,nf,d⟩:=I.pin p hp
   refine⟨(hs.2 p.1 ?_).trans e,n,ne,nf,d⟩;intro q;rw[q,hoc]at e;have q':oc=p.2:=Option.some.inj e;exact d w' (by rw[<- q'];exact hocd)
theorem pU {M:Model}{A:Around}{E:Value->Shared->Prop}{i:Nat}{x:Str}{v:V}{u:Value}{Q:Unit->Shared->Prop}(I:z6 X pins σ H s)(hN:X.N.Nodup)(hi:X.N[i]?=some x)(hx:uE X.env.scope x)(r:zL v u)
  (h: ∀s',z6 X pins (σ.set i (some v)) H s'->Q () s') (hf:X.fn x=true∨X.env.scope.names.lookup x=some .local:=by first | exact .inl rfl | exact .inr rfl | assumption):wpAny M A (storeName X.env x u) Q E s:=
 zhN I hN hi hx r (λs' I' _=>h s' I') hf
theorem z6.call' {s':Shared}{ch:List Addr}(I:z6 X pins σ H s)(ho:s'.os=s.os)(u:Un (yX X.stack) ch H H' s.heap s'.heap)(hok:yQ X.prog X.w H' s'.heap)(hg:AllBare s'.gens)
  (hch: ∀b∈ch,(b∈X.ex∨X.s₀.heap.objs.size<=b)/\b≠X.env.locals/\(∀x c,X.env.cells.lookup x=some c->c≠b)/\∀p∈X.pn++pins,p.1≠b):z6 X pins σ H' s':=by
 obtain⟨h',g',d',t',o'⟩:=s';have e:o'=s.os:=ho;subst e;exact I.call (g':=g') (t':=t') (d':=d') u hok hg hch
end
abbrev XK:=Value->Option Addr->Hp->Prop
abbrev St:=List (Option V)
abbrev VK:=V->Hp->Prop
abbrev TE:=St->Hp->VK->Prop
abbrev TT:=St->Hp->(Bool->Hp->Prop)->Prop
abbrev TA:=St->Hp->(List V->Hp->Prop)->Prop
structure vP where
 nx:St->Hp->Prop
 rt:VK
 bk:St->Hp->Prop:=λ_ _=>False
 ct:St->Hp->Prop:=λ_ _=>False
abbrev TS:=vP->St->Hp->Prop
def EP (X:Cx)(pins:List (Addr×Obj))(σ:St)(Q:VK)(u:Value)(s':Shared):Prop:= ∃v H',z6 X pins σ H' s'/\zL v u/\Q v H'
def TP (X:Cx)(pins:List (Addr×Obj))(σ:St)(Q:Bool->Hp->Prop)(b:Bool)(s':Shared):Prop:= ∃H',z6 X pins σ H' s'/\Q b H'
def AP (X:Cx)(pins:List (Addr×Obj))(σ:St)(Q:List V->Hp->Prop)(us:List Value)(s':Shared):Prop:= ∃vs H',z6 X pins σ H' s'/\zI vs us/\Q vs H'
def SP (X:Cx)(pins:List (Addr×Obj))(D:vP)(f:Flow)(s':Shared):Prop:=
 match f with
 | .next=> ∃σ' H',z6 X pins σ' H' s'/\D.nx σ' H'
 | .brk=> ∃σ' H',z6 X pins σ' H' s'/\D.bk σ' H'
 | .cont=> ∃σ' H',z6 X pins σ' H' s'/\D.ct σ' H'
 | .ret u=> ∃v σ' H',z6 X pins σ' H' s'/\zL v u/\D.rt v H'
structure PE (X:Cx)(e:Expr)(t:TE):Prop where
 run:
  ∀(pins:List (Addr×Obj)) (s:Shared) (σ:St) (H:Hp) (Q:VK),z6 X pins σ H s->t σ H Q->wpAny (model X.prog X.w) X.A (eval e X.env) (EP X pins σ Q) X.xe s
instance {X:Cx} {e:Expr} {t:TE} :CoeFun (PE X e t) λ_=>
 ∀(pins:List (Addr×Obj)) (s:Shared) (σ:St) (H:Hp) (Q:VK),z6 X pins σ H s->t σ H Q->wpAny (model X.prog X.w) X.A (eval e X.env) (EP X pins σ Q) X.xe s
  :=⟨PE.run⟩
structure PT (X:Cx)(e:Expr)(t:TT):Prop where
 run:
  ∀(pins:List (Addr×Obj)) (s:Shared) (σ:St) (H:Hp) (Q:Bool->Hp->Prop),z6 X pins σ H s->t σ H Q->wpAny (model X.prog X.w) X.A (isTrue e X.env (eval e X.env)) (TP X pins σ Q) X.xe s
instance {X:Cx} {e:Expr} {t:TT} :CoeFun (PT X e t) λ_=>
 ∀(pins:List (Addr×Obj)) (s:Shared) (σ:St) (H:Hp) (Q:Bool->Hp->Prop),z6 X pins σ H s->t σ H Q->wpAny (model X.prog X.w) X.A (isTrue e X.env (eval e X.env)) (TP X pins σ Q) X.xe s
  :=⟨PT.run⟩
structure PW (X:Cx)(e:Expr)(t:TT):Prop where
 run:
  ∀(whole:Sem Value) (pins:List (Addr×Obj)) (s:Shared) (σ:St) (H:Hp) (Q:Bool->Hp->Prop),z6 X pins σ H s->t σ H Q->wpAny (model X.prog X.w) X.A (isTrue e X.env whole) (TP X pins σ Q) X.xe s
instance {X:Cx} {e:Expr} {t:TT} :CoeFun (PW X e t) λ_=>
 ∀(whole:Sem Value) (pins:List (Addr×Obj)) (s:Shared) (σ:St) (H:Hp) (Q:Bool->Hp->Prop),z6 X pins σ H s->t σ H Q->wpAny (model X.prog X.w) X.A (isTrue e X.env whole) (TP X pins σ Q) X.xe s
  :=⟨PW.run⟩
theorem PW.pt {X:Cx}{e:Expr}{t:TT}(h:PW X e t):PT X e t:=⟨h.run _⟩
structure PA (X:Cx)(es:List Expr)(t:TA):Prop where
 run:
  ∀(pos:Pos) (pins:List (Addr×Obj)) (s:Shared) (σ:St) (H:Hp) (Q:List V->Hp->Prop),z6 X pins σ H s->t σ H Q->wpAny (model X.prog X.w) X.A (spliced (backTo pos (starEach es X.env))) (AP X pins σ Q) X.xe s
instance {X:Cx} {es:List Expr} {t:TA} :CoeFun (PA X es t) λ_=>
 ∀(pos:Pos) (pins:List (Addr×Obj)) (s:Shared) (σ:St) (H:Hp) (Q:List V->Hp->Prop),z6 X pins σ H s->t σ H Q->wpAny (model X.prog X.w) X.A (spliced (backTo pos (starEach es X.env))) (AP X pins σ Q) X.xe s
  :=⟨PA.run⟩
structure PS (X:Cx)(st:Stmt)(t:TS):Prop where
 run:
  ∀(pins:List (Addr×Obj)) (s:Shared) (σ:St) (H:Hp) (D:vP),z6 X pins σ H s->t D σ H->wpAny (model X.prog X.w) X.A (exec st X.env) (SP X pins D) X.xe s
instance {X:Cx} {st:Stmt} {t:TS} :CoeFun (PS X st t) λ_=>
 ∀(pins:List (Addr×Obj)) (s:Shared) (σ:St) (H:Hp) (D:vP),z6 X pins σ H s->t D σ H->wpAny (model X.prog X.w) X.A (exec st X.env) (SP X pins D) X.xe s
  :=⟨PS.run⟩
structure yI (X:Cx)(st:List Stmt)(t:TS):Prop where
 run:
  ∀(pins:List (Addr×Obj)) (s:Shared) (σ:St) (H:Hp) (D:vP),z6 X pins σ H s->t D σ H->wpAny (model X.prog X.w) X.A (execs st X.env) (SP X pins D) X.xe s
instance {X:Cx} {st:List Stmt} {t:TS} :CoeFun (yI X st t) λ_=>
 ∀(pins:List (Addr×Obj)) (s:Shared) (σ:St) (H:Hp) (D:vP),z6 X pins σ H s->t D σ H->wpAny (model X.prog X.w) X.A (execs st X.env) (SP X pins D) X.xe s
  :=⟨yI.run⟩
theorem zJ {α:Type}{t:Sem α}{Q Q':α->Shared->Prop}{M:Model}{A:Around}{E:Value->Shared->Prop}{s:Shared}(h:wpAny M A t Q E s)(hQ: ∀a s,Q a s->Q' a s):wpAny M A t Q' E s:=wpAny_mono h hQ λ_ _ x=>x
section
variable {X:Cx}
def zcA (i:Nat):TE:=λσ H Q=> ∃v,σ[i]?=some (some v)/\Q v H
def tC (v:V):TE:=λ_ H Q=>Q v H
theorem pK {i:Nat}{x:Str}{pos:Pos}(hN:X.N[i]?=some x)(hv:qO X.env.scope x)(hd:(x==("__debug__" :Str))=false:=by decide)(hcd:(x==("__classdict__" :Str))=false:=by decide):PE X (.Name x pos) (zcA i):=by
 constructor;intro pins s σ H Q I h;obtain⟨v,e,h⟩:=h;obtain⟨m,hn,hl⟩:=I.loc;obtain⟨u,r,l⟩:=hl i x v hN e hv;have fin:EP X pins σ Q u s:=⟨v,H,I,r,h⟩;rcases l with⟨hk,hm⟩ | ⟨hk,c,hc,hcell⟩
 ·exact wpAny_Name (wpAny_loadName_local I.ok.kind hk hn hm fin) hd
 ·rcases hk with hk | hk
  ·exact wpAny_Name (wpAny_loadName_cell I.ok.kind hk hc hcell fin) hd
  ·exact wpAny_Name (wpAny_loadName_free I.ok.kind hk hc hcell fin hcd) hd
theorem zgS {i j pos} :PE X (.Constant (.int i) j pos) (tC (.int i)):=⟨λ_ _ _ H _ I h=>wpAny_Constant_int ⟨.int i,H,I.tok _,⟨_,rfl⟩,h⟩⟩
theorem zng {b j pos} :PE X (.Constant (.bool b) j pos) (tC (.bl b)):=⟨λ_ _ _ H _ I h=>Constant_bool ⟨.bl b,H,I,rfl,h⟩⟩
theorem znt {j pos} :PE X (.Constant .none j pos) (tC .non):=⟨λ_ _ _ H _ I h=>Constant_none ⟨.non,H,I,rfl,h⟩⟩
theorem zbG {x j pos} :PE X (.Constant (.str x) j pos) (tC (.str x)):=⟨λ_ _ _ H _ I h=>Calls.Constant_str ⟨.str x,H,I.tok _,⟨_,rfl⟩,h⟩⟩
def Gl (X:Cx)(x:Str):Prop:=X.env.kindOf x=some .globalImplicit
theorem rP {E:Value->Shared->Prop}{pins:List (Addr×Obj)}{s:Shared}{σ:St}{H:Hp}{x:Str}{u:Value}{pos:Pos}{Q:Value->Shared->Prop}(I:z6 X pins σ H s)(hg:Gl X x)(hm:X.mg x=some u)(h:Q u s)
  (hd:(x==("__debug__" :Str))=false:=by decide):wpAny (model X.prog X.w) X.A (eval (.Name x pos) X.env) Q E s:=
 Calls.Name_function_global I.ok.kind hg (Calls.loadGlobal_global (by rw[I.ok.glob];exact I.mod.glob.keeps I.bk) hm h) hd
theorem jG {E:Value->Shared->Prop}{pins:List (Addr×Obj)}{s:Shared}{σ:St}{H:Hp}{x:Str}{u:Value}{pos:Pos}{Q:Value->Shared->Prop}(I:z6 X pins σ H s)(hg:Gl X x)(hm:X.mg x=none)(hv:bootBuiltins x=some u)(h:Q u s)
  (hn:x≠ "__name__" :=by decide) (hd:(x==("__debug__" :Str))=false:=by decide):wpAny (model X.prog X.w) X.A (eval (.Name x pos) X.env) Q E s:=by
 obtain⟨mb,h1,h2⟩:=I.mod.blt;exact Calls.Name_function_global I.ok.kind hg (Calls.loadGlobal_builtin (by rw[I.ok.glob];exact I.mod.glob.keeps I.bk) hm (by rw[I.ok.blt];exact h1.keeps I.bk) ((h2 x hn).trans hv) h) hd
theorem zgR {x:Str}{v:V}{u:Value}{pos:Pos}(hg:Gl X x)(hm:X.mg x=some u)(r:zL v u)(hd:(x==("__debug__" :Str))=false:=by decide):PE X (.Name x pos) (tC v):=
 ⟨λ_ _ _ H _ I h=>rP I hg hm ⟨v,H,I,r,h⟩ hd⟩
theorem znh {x:Str}{v:V}{u:Value}{pos:Pos}(hg:Gl X x)(hm:X.mg x=none)(hv:bootBuiltins x=some u)(r:zL v u)(hn:x≠ "__name__" :=by decide)(hd:(x==("__debug__" :Str))=false:=by decide):PE X (.Name x pos) (tC v):=
 ⟨λ_ _ _ H _ I h=>jG I hg hm hv ⟨v,H,I,r,h⟩ hn hd⟩
variable {a b:Expr} {ta tb:TE} {pos:Pos}
structure PC (X:Cx)(op:CmpOp)(a b:Expr)(t:TE):Prop where
 run:
  ∀(pins:List (Addr×Obj)) (s:Shared) (σ:St) (H:Hp) (Q:VK),z6 X pins σ H s->t σ H Q->
   wpAny (model X.prog X.w) X.A (eval a X.env) (λv s₁=>wpAny (model X.prog X.w) X.A (eval b X.env) (λu s₂=>wpAny (model X.prog X.w) X.A (compareOp op v u) (EP X pins σ Q) X.xe s₂) X.xe s₁) X.xe s
instance {X:Cx} {op:CmpOp} {a b:Expr} {t:TE} :CoeFun (PC X op a b t) λ_=>
 ∀(pins:List (Addr×Obj)) (s:Shared) (σ:St) (H:Hp) (Q:VK),z6 X pins σ H s->t σ H Q->
  wpAny (model X.prog X.w) X.A (eval a X.env) (λv s₁=>wpAny (model X.prog X.w) X.A (eval b X.env) (λu s₂=>wpAny (model X.prog X.w) X.A (compareOp op v u) (EP X pins σ Q) X.xe s₂) X.xe s₁) X.xe s
  :=⟨PC.run⟩
def tB (t:TE):TT:=λσ H Q=>t σ H λx H1=> ∃c,x= .bl c/\Q c H1
theorem znZ {e:Expr}{t:TE}(h:PE X e t)(he: ∀whole,isTrue e X.env whole=(do let v <- whole;standAt e.pos;holding [v] (truthy v)):=by intro _;rfl):PT X e (tB t):=by
 constructor;intro pins s σ H Q I hw;refine isTrue_plain (zJ (h pins s σ H _ I hw) λv s1 ⟨x,H1,I1,r1,q1⟩=> ?_) (he _);obtain⟨d,rfl,q⟩:=q1;cases r1;exact wpAny_truthy_bool ⟨H1,I1,q⟩
variable {tA tB':TT} {yT:List Expr}
def zhQ (t u:TT):TT:=λσ H Q=>t σ H λc H1=>if c=true then u σ H1 Q else Q false H1
def tOr (t u:TT):TT:=λσ H Q=>t σ H λc H1=>if c=true then Q true H1 else u σ H1 Q
def zpZ (t:TT):TT:=λσ H Q=>t σ H λc H1=>Q (!c) H1
theorem zof (ha:PT X a tA):PW X (.BoolOp .And [a] pos) tA:=by
 constructor;intro wh pins s σ H Q I h;refine isTrue_and (zJ (ha pins s σ H Q I h) λc s1 e=> ?_);cases c with
 | true=>exact isTrue_and_nil e
 | false=>exact e
theorem zoh (ha:PT X a tA):PW X (.BoolOp .Or [a] pos) tA:=by
 constructor;intro wh pins s σ H Q I h;refine isTrue_or (zJ (ha pins s σ H Q I h) λc s1 e=> ?_);cases c with
 | false=>exact isTrue_or_nil e
 | true=>exact e
theorem zoe (ha:PT X a tA)(hb:PW X (.BoolOp .And (b::yT) pos) tB'):PW X (.BoolOp .And (a::b::yT) pos) (zhQ tA tB'):=by
 constructor;intro wh pins s σ H Q I h;refine isTrue_and (zJ (ha pins s σ H _ I h) λc s1 ⟨H1,I1,q1⟩=> ?_);cases c with
 | true=>exact hb wh pins s1 σ H1 Q I1 q1
 | false=>exact⟨H1,I1,q1⟩
theorem zog (ha:PT X a tA)(hb:PW X (.BoolOp .Or (b::yT) pos) tB'):PW X (.BoolOp .Or (a::b::yT) pos) (tOr tA tB'):=by
 constructor;intro wh pins s σ H Q I h;refine isTrue_or (zJ (ha pins s σ H _ I h) λc s1 ⟨H1,I1,q1⟩=> ?_);cases c with
 | true=>exact⟨H1,I1,q1⟩
 | false=>exact hb wh pins s1 σ H1 Q I1 q1
theorem znX (ha:PT X a tA):PT X (.UnaryOp .Not a pos) (zpZ tA):=by
 constructor;intro pins s σ H Q I h;exact isTrue_not (ha pins s σ H (λc H1=>Q (!c) H1) I h)
def zc8 (ta tb:TE):TE:=λσ H Q=>ta σ H λx H1=> ∃c,x= .bl c/\if c=true then tb σ H1 Q else Q (.bl false) H1
def zqa (ta:TE):TE:=λσ H Q=>ta σ H λx H1=> ∃c,x= .bl c/\Q (.bl (!c)) H1
theorem zgW {op}{t:TE}(h:PE X a t):PE X (.BoolOp op [a] pos) t:=⟨λpins s σ H Q I hw=>BoolOp_one (h pins s σ H Q I hw)⟩
theorem zbE (ha:PE X a ta)(hb:PE X (.BoolOp .And (b::yT) pos) tb):PE X (.BoolOp .And (a::b::yT) pos) (zc8 ta tb):=by
 constructor;intro pins s σ H Q I h;refine BoolOp_and (zJ (ha pins s σ H _ I h) λv s1 ⟨x,H1,I1,r1,q1⟩=> ?_);obtain⟨c,rfl,q1⟩:=q1;cases r1;refine wpAny_truthy_bool ?_;cases c with
 | true=>exact hb pins s1 σ H1 Q I1 q1
 | false=>exact⟨.bl false,H1,I1,rfl,q1⟩
theorem zgV (ha:PE X a ta):PE X (.UnaryOp .Not a pos) (zqa ta):=by
 constructor;intro pins s σ H Q I h;refine UnaryOp_ (zJ (ha pins s σ H _ I h) λv s1 ⟨x,H1,I1,r1,q1⟩=> ?_);obtain⟨c,rfl,q1⟩:=q1;cases r1;exact not_of (wpAny_truthy_bool ⟨.bl (!c),H1,I1,rfl,q1⟩)
end
def yS (K:Frag)(H:Hp)(a:Addr)(xs:List V):Prop:=
 Rd H a (.lst xs)∨
  ∃(o:Obj) (its:Array Value) (n:Nat),K.lookup a=some o/\o.cls= .type "list" /\o.dict=none/\o.data= .seq its n/\its.size<=sizeLine/\zI xs its.toList/\o.slots= #[]
def xQ (K:Frag)(H:Hp)(a:Addr)(xs:List V):Prop:=
 Rd H a (.tup xs)∨
  ∃(o:Obj) (its:Array Value) (n:Nat),K.lookup a=some o/\o.cls= .type "tuple" /\o.dict=none/\o.data= .seq its n/\its.size<=sizeLine/\zI xs its.toList
def zjb:Value->Option V
 | .none=>some .non
 | .bool b=>some (.bl b)
 | .int i _=>some (.int i)
 | .str x _=>some (.str x)
 | .bytes b _=>some (.byt b)
 | .float b _=>some (.flt b)
 | .ref a=>some (.ref a)
 | .type n=>some (.ty n)
 | _=>none
theorem zL.abs {x:V}{u:Value}(r:zL x u):zjb u=some x:=by
 cases x with
 | non=>cases r;rfl
 | bl _=>cases r;rfl
 | int _=>obtain⟨t,rfl⟩:=r;rfl
 | str _=>obtain⟨t,rfl⟩:=r;rfl
 | byt _=>obtain⟨t,rfl⟩:=r;rfl
 | flt _=>obtain⟨t,rfl⟩:=r;rfl
 | ref _=>cases r;rfl
 | ty _=>cases r;rfl
theorem zL.inj {x y:V}{u:Value}(r:zL x u)(q:zL y u):x=y:=Option.some.inj (r.abs.symm.trans q.abs)
theorem zI.inj: ∀{xs ys:List V} {us:List Value},zI xs us->zI ys us->xs=ys
 | _,_,_,.nil,.nil=>rfl
 | _,_,_,.cons r t,.cons r' t'=>by rw[r.inj r',zI.inj t t']
section
variable {X:Cx} {pins:List (Addr×Obj)} {σ:St} {H:Hp} {s:Shared} {a:Addr} {xs ys:List V}
theorem yS.of {K:Frag}(h:H a=some (.lst xs)):yS K H a xs:= .inl (.inl h)
theorem z6.list (I:z6 X pins σ H s)(h:yS X.K H a xs): ∃its:List Value,zI xs its/\PlainL s.heap a its.toArray/\xs.length<=sizeLine:=by
 rcases h with h | ⟨o,its,n,hk,hc,hd,hs,hz,r,_⟩
 ·obtain⟨z,its,n,r,e⟩:=h.ok I.hok
  exact⟨its,r,⟨_,n,e,rfl,rfl,rfl⟩,z⟩
 ·refine⟨its.toList,r,⟨o,n,I.kIn a o hk,hc,hd,by simpa using hs⟩,?_⟩
  have e:=r.length;simp only[Array.length_toList]at e;omega
theorem z6.tuple (I:z6 X pins σ H s)(h:xQ X.K H a xs): ∃its:List Value,zI xs its/\IsTup s.heap a its.toArray/\xs.length<=sizeLine:=by
 rcases h with h | ⟨o,its,n,hk,hc,_,hs,hz,r⟩
 ·obtain⟨z,its,r,p⟩:=h.ok I.hok
  exact⟨its,r,p.tup,z⟩
 ·refine⟨its.toList,r,⟨o,I.kIn a o hk,hc,n,by simpa using hs⟩,?_⟩
  have e:=r.length;simp only[Array.length_toList]at e;omega
theorem z6.listX (I:z6 X pins σ H s)(h:yS X.K H a xs): ∃(its:List Value) (n:Nat),zI xs its/\s.heap.get? a=some {cls:= .type "list",data:= .seq its.toArray n} /\xs.length<=sizeLine:=by
 rcases h with h | ⟨o,its,n,hk,hc,hd,hs,hz,r,hsl⟩
 ·obtain⟨z,its,n,r,e⟩:=h.ok I.hok
  exact⟨its,n,r,e,z⟩
 ·obtain⟨cls,dict,data,slots⟩:=o
  dsimp only at hc hd hs hsl;subst hc hd hs hsl;refine⟨its.toList,n,r,by simpa using I.kIn a _ hk,?_⟩;have e:=r.length;simp only[Array.length_toList]at e;omega
theorem z6.list_inj (I:z6 X pins σ H s)(h:yS X.K H a xs)(h':yS X.K H a ys):xs=ys:=by
 obtain⟨its,r,⟨o,n,e,_,_,d⟩,_⟩:=I.list h;obtain⟨its',r',⟨o',n',e',_,_,d'⟩,_⟩:=I.list h';rw[e]at e';cases e';rw[d]at d';injection d' with d1 _
 have:its=its':=by simpa using congrArg Array.toList d1
 subst this;exact r.inj r'
theorem z6.tuple_inj (I:z6 X pins σ H s)(h:xQ X.K H a xs)(h':xQ X.K H a ys):xs=ys:=by
 obtain⟨its,r,⟨o,e,_,n,d⟩,_⟩:=I.tuple h;obtain⟨its',r',⟨o',e',_,n',d'⟩,_⟩:=I.tuple h';rw[e]at e';cases e';rw[d]at d';injection d' with d1 _
 have:its=its':=by simpa using congrArg Array.toList d1
 subst this;exact r.inj r'
end
abbrev Cx.wish (X:Cx)(E:Value->Shared->Prop):Cx:= {X with xe:=E}
abbrev Cx.nox (X:Cx):Cx:=X.wish λ_ _=>False
theorem Cx.Ok.wish {X:Cx}(ok:X.Ok)(E:Value->Shared->Prop):(X.wish E).Ok:=
 ⟨ok.mod,ok.kind,ok.glob,ok.blt,ok.above,ok.inj,ok.has,ok.cab,ok.hd,ok.frames,ok.stk,ok.exf,ok.bs,ok.bsz,ok.noex,ok.exfs,ok.funs,ok.frf⟩
theorem Cx.Ok.unwish {X:Cx}{E:Value->Shared->Prop}(ok:(X.wish E).Ok):X.Ok:=
 ⟨ok.mod,ok.kind,ok.glob,ok.blt,ok.above,ok.inj,ok.has,ok.cab,ok.hd,ok.frames,ok.stk,ok.exf,ok.bs,ok.bsz,ok.noex,ok.exfs,ok.funs,ok.frf⟩
section
variable {X:Cx} {pins:List (Addr×Obj)} {σ:St} {H:Hp} {s:Shared} {E:Value->Shared->Prop}
theorem z6.wish (I:z6 X pins σ H s)(E:Value->Shared->Prop):z6 (X.wish E) pins σ H s:=⟨I.ok.wish E,I.os,I.bare,I.base,I.loc,I.cell,I.free,I.freeC,I.pin,I.hok,I.len⟩
theorem z6.unwish (I:z6 (X.wish E) pins σ H s):z6 X pins σ H s:=⟨I.ok.unwish,I.os,I.bare,I.base,I.loc,I.cell,I.free,I.freeC,I.pin,I.hok,I.len⟩
theorem SP.unwish {D:vP}{f:Flow}{s':Shared}(h:SP (X.wish E) pins D f s'):SP X pins D f s':=by
 cases f with
 | next=>obtain⟨σ',H',I,q⟩:=h;exact⟨σ',H',I.unwish,q⟩
 | brk=>obtain⟨σ',H',I,q⟩:=h;exact⟨σ',H',I.unwish,q⟩
 | cont=>obtain⟨σ',H',I,q⟩:=h;exact⟨σ',H',I.unwish,q⟩
 | ret u=>obtain⟨v,σ',H',I,r,q⟩:=h;exact⟨v,σ',H',I.unwish,r,q⟩
theorem yI.nox {st:List Stmt}{t:TS}(h:yI X.nox st t):yI X st t:=⟨λpins s σ H D I hw=>
 wpAny_mono (h pins s σ H D (I.wish _) hw) (λ_ _ q=>q.unwish) λ_ _ z=>False.elim z⟩
end
section
variable {X:Cx} {st:Stmt} {yT:List Stmt} {t u:TS} {e:Expr} {te:TE} {pos:Pos}
def zpX:TS:=λD σ H=>D.nx σ H
def zc_ (t u:TS):TS:=λD σ H=>t {D with nx:=u D} σ H
theorem zhf:yI X [] zpX:=⟨λ_ _ σ H _ I h=>wpAny_execs_nil ⟨σ,H,I,h⟩⟩
theorem zbI (h1:PS X st t)(h2:yI X yT u):yI X (st::yT) (zc_ t u):=by
 constructor;intro pins s σ H D I h;refine wpAny_execs_cons (zJ (h1 pins s σ H {D with nx:=u D} I h) λf s1 q=> ?_);cases f with
 | next=>
  obtain⟨σ',H',I',q⟩:=q;exact h2 pins s1 σ' H' D I' q
 | ret v=>exact q
 | brk=>exact q
 | cont=>exact q
theorem zbJ (h1:PS X st t):yI X [st] t:=by
 constructor;intro pins s σ H D I h;refine wpAny_execs_cons (zJ (h1 pins s σ H D I h) λf s1 q=> ?_);cases f with
 | next=>exact wpAny_execs_nil q
 | ret v=>exact q
 | brk=>exact q
 | cont=>exact q
theorem z6.quiet {pins:List (Addr×Obj)}{σ:St}{H:Hp}{s:Shared}(I:z6 X pins σ H s):interactive X.env=false:=by simp[interactive,I.ok.kind]
def zpN (te:TE):TS:=λD σ H=>te σ H λ_ H1=>D.nx σ H1
theorem zhc (he:PE X e te)(hs:swapsWith e none pos.line X.env=pure false:=by rfl):PS X (.Expr e pos) (zpN te):=by
 constructor;intro pins s σ H D I h;exact wpAny_Expr_any (zJ (he pins s σ H _ I h) λv s1 ⟨x,H1,I1,r1,q1⟩=>⟨σ,H1,I1,q1⟩) I.quiet hs
def zqd (te:TE):TS:=λD σ H=>te σ H D.rt
theorem zhe (he:PE X e te):PS X (.Return (some e) pos) (zqd te):=by
 constructor;intro pins s σ H D I h;exact wpAny_Return_some (zJ (he pins s σ H _ I h) λv s1 ⟨x,H1,I1,r1,q1⟩=>⟨x,σ,H1,I1,r1,q1⟩)
def zpR (c:TT)(t u:TS):TS:=λD σ H=>c σ H λb H1=>if b=true then t D σ H1 else u D σ H1
theorem zhd {c:Expr}{a b:List Stmt}{tc:TT}(hc:PT X c tc)(ha:yI X a t)(hb:yI X b u):PS X (.If c a b pos) (zpR tc t u):=by
 constructor;intro pins s σ H D I h;refine wpAny_If (zJ (hc pins s σ H _ I h) λd s1 ⟨H1,I1,q1⟩=> ?_);cases d with
 | true=>exact ha pins s1 σ H1 D I1 q1
 | false=>exact hb pins s1 σ H1 D I1 q1
def zpW:TS:=λ_ _ _=>False
theorem znL:PS X st zpW:=⟨λ_ _ _ _ _ _ h=>h.elim⟩
end
abbrev TG:=V->St->Hp->(St->Hp->Prop)->Prop
abbrev TGs:=List V->St->Hp->(St->Hp->Prop)->Prop
structure PG (X:Cx)(target:Expr)(t:TG):Prop where
 run:
  ∀(pins:List (Addr×Obj)) (s:Shared) (σ:St) (H:Hp) (v:V) (u:Value) (Q:St->Hp->Prop),z6 X pins σ H s->zL v u->t v σ H Q->
   wpAny (model X.prog X.w) X.A (assign target X.env u) (λ_ s'=> ∃σ' H',z6 X pins σ' H' s'/\Q σ' H') X.xe s
instance {X:Cx} {target:Expr} {t:TG} :CoeFun (PG X target t) λ_=>
 ∀(pins:List (Addr×Obj)) (s:Shared) (σ:St) (H:Hp) (v:V) (u:Value) (Q:St->Hp->Prop),z6 X pins σ H s->zL v u->t v σ H Q->
  wpAny (model X.prog X.w) X.A (assign target X.env u) (λ_ s'=> ∃σ' H',z6 X pins σ' H' s'/\Q σ' H') X.xe s
  :=⟨PG.run⟩
structure PGs (X:Cx)(ts:List Expr)(t:TGs):Prop where
 run:
  ∀(pins:List (Addr×Obj)) (s:Shared) (σ:St) (H:Hp) (vs:List V) (us:List Value) (Q:St->Hp->Prop),z6 X pins σ H s->zI vs us->t vs σ H Q->
   wpAny (model X.prog X.w) X.A (assignInOrder ((assignEach ts X.env).map (·.2)) us) (λ_ s'=> ∃σ' H',z6 X pins σ' H' s'/\Q σ' H') X.xe s
instance {X:Cx} {ts:List Expr} {t:TGs} :CoeFun (PGs X ts t) λ_=>
 ∀(pins:List (Addr×Obj)) (s:Shared) (σ:St) (H:Hp) (vs:List V) (us:List Value) (Q:St->Hp->Prop),z6 X pins σ H s->zI vs us->t vs σ H Q->
  wpAny (model X.prog X.w) X.A (assignInOrder ((assignEach ts X.env).map (·.2)) us) (λ_ s'=> ∃σ' H',z6 X pins σ' H' s'/\Q σ' H') X.xe s
  :=⟨PGs.run⟩
abbrev gR:=V->V->V->Hp->(Hp->Prop)->Prop
def gQ (X:Cx)(t:gR):Prop:=
 ∀(pins:List (Addr×Obj)) (s:Shared) (σ:St) (H:Hp) (o i v:V) (ov iv u:Value) (Q:Hp->Prop),z6 X pins σ H s->zL o ov->zL i iv->zL v u->t o i v H Q->
  wpAny (model X.prog X.w) X.A (setItem ov iv u) (λ_ s'=> ∃H',z6 X pins σ H' s'/\Q H') X.xe s
section
variable {X:Cx} {pos:Pos}
def oH (i:Nat):TG:=λv σ H Q=>Q (σ.set i (some v)) H
theorem zn3 {i:Nat}{x:Str}(hN:X.N.Nodup)(hi:X.N[i]?=some x)(hx:uE X.env.scope x)(hf:X.fn x=true∨X.env.scope.names.lookup x=some .local:=by first | exact .inl rfl | exact .inr rfl | assumption):PG X (.Name x pos) (oH i):=by
 constructor;intro pins s σ H v u Q I r h;exact wpAny_assign_Name (pU I hN hi hx r (λs' I'=>⟨_,H,I',h⟩) hf)
def zk2 (to ti:TE)(t:gR):TG:=λv σ H Q=>to σ H λo H1=>ti σ H1 λi H2=>t o i v H2 λH3=>Q σ H3
theorem zn4 {o i:Expr}{to ti:TE}{t:gR}(ho:PE X o to)(hi:PE X i ti)(hs:gQ X t)
  (ha: ∀v,assign (.Subscript o i pos) X.env v=(do
   let ov <- holding [v] (eval o X.env)
   let iv <- holding [v,ov] (eval i X.env)
   standAt pos
   holding [v,ov,iv] (setItem ov iv v)
   release [v,ov,iv] []):=by intro _;rfl):PG X (.Subscript o i pos) (zk2 to ti t):=by
 constructor;intro pins s σ H v u Q I r h;rw[ha];refine wpAny_bind (wpAny_holding (zJ (ho pins s σ H _ I h) λov s1 ⟨x,H1,I1,r1,q1⟩=> ?_));refine wpAny_bind (wpAny_holding (zJ (hi pins s1 σ H1 _ I1 q1) λiv s2 ⟨y,H2,I2,r2,q2⟩=> ?_));refine wpAny_bind (wpAny_standAt (wpAny_bind (wpAny_holding (zJ (hs pins s2 σ H2 x y v ov iv u _ I2 r1 r2 r q2) λ_ s3 ⟨H3,I3,q3⟩=> ?_))));exact wpAny_release ⟨σ,H3,I3,q3⟩
def nM (te:TE)(g:TG):TS:=λD σ H=>te σ H λx H1=>g x σ H1 D.nx
theorem znH {tg e:Expr}{te:TE}{g:TG}(he:PE X e te)(hg:PG X tg g)(hs:swapsWithSole [tg] e pos.line X.env=pure false:=by rfl)(hw:swappedStores [tg] e X.env=pure none:=by rfl)
  (h1:(assignEach [tg] X.env).map (·.2)= [assign tg X.env]:=by rfl):PS X (.Assign [tg] e pos) (nM te g):=by
 constructor;intro pins s σ H D I h;refine wpAny_Assign_stores (zJ (he pins s σ H _ I h) λv s1 ⟨x,H1,I1,r1,q1⟩=> ?_) hs hw;rw[h1];exact zJ (hg pins s1 σ H1 x v _ I1 r1 q1) λ_ s2 q=>q
theorem znN {i:Nat}{x:Str}{e:Expr}{te:TE}{pos':Pos}(hN:X.N.Nodup)(hi:X.N[i]?=some x)(hx:uE X.env.scope x)(he:PE X e te)(hs:swapsWith e (some (.Name x pos')) pos.line X.env=pure false:=by rfl)(hf:X.fn x=true∨X.env.scope.names.lookup x=some .local:=by first | exact .inl rfl | exact .inr rfl | assumption):
  PS X (.Assign [.Name x pos'] e pos) (nM te (oH i)):=by
 constructor;intro pins s σ H D I h;refine wpAny_Assign_Name (zJ (he pins s σ H _ I h) λv s1 ⟨y,H1,I1,r1,q1⟩=> ?_) hs;exact pU I1 hN hi hx r1 (λs2 I2=>⟨_,H1,I2,q1⟩) hf
end
section
variable {X:Cx} {pos:Pos}
def zqg (c:TT)(tb:TS):TS:=λD σ H=> ∃W:Nat->St->Hp->Prop,(∃m,W m σ H)/\∀m σ H,W m σ H->
 c σ H λb H1=>if b=true then ∃N:St->Hp->Prop,(∀σ' H',N σ' H'->∃m',m' < m/\W m' σ' H')/\tb {D with nx:=N,ct:=N,bk:=D.nx} σ H1 else D.nx σ H1
theorem znP {c:Expr}{body:List Stmt}{tc:TT}{tb:TS}(hp:PassesOwn (model X.prog X.w) X.A X.env X.xe)(hc:PT X c tc)(hb:yI X body tb):PS X (.While c body [] pos) (zqg tc tb):=by
 constructor;intro pins s σ H D I h;obtain⟨W,⟨m0,w0⟩,turn⟩:=h;refine wpAny_While (codeAny_whileLoop (λn s'=> ∃σ' H',z6 X pins σ' H' s'/\W n σ' H') ?_ m0 ⟨σ,H,I,w0⟩);rintro n s1 ⟨σ1,H1,I1,w1⟩;refine wpAny_passesOwn hp (zJ (hc pins s1 σ1 H1 _ I1 (turn n σ1 H1 w1)) λb s2 ⟨H2,I2,q2⟩=> ?_);cases b with
 | true=>
  obtain⟨N,hN,q2⟩:=q2;rw[if_pos rfl];refine wpAny_passesOwn hp (zJ (hb pins s2 σ1 H2 _ I2 q2) λf s3 q3=> ?_);cases f with
  | next=>
   obtain⟨σ3,H3,I3,n3⟩:=q3;obtain⟨m',hm,w3⟩:=hN σ3 H3 n3;exact⟨m',hm,σ3,H3,I3,w3⟩
  | cont=>
   obtain⟨σ3,H3,I3,n3⟩:=q3;obtain⟨m',hm,w3⟩:=hN σ3 H3 n3;exact⟨m',hm,σ3,H3,I3,w3⟩
  | brk=>exact q3
  | ret v=>exact q3
 | false=>
  rw[if_neg Bool.false_ne_true];exact wpAny_execs_nil ⟨σ1,H2,I2,q2⟩
end
structure It where
 go:Nat->Hp->Prop
 yld:Nat->Hp->V->Hp->Prop
 stop:Nat->Hp->Prop
def t6 (X:Cx)(pins:List (Addr×Obj))(H:Hp)(b:Addr):Prop:=
 H b=none/\b≠X.env.locals/\b∉X.fs/\(b∈X.ex∨X.s₀.heap.objs.size<=b)/\(∀x c,X.env.cells.lookup x=some c->c≠b)/\∀p∈X.pn++pins,p.1≠b
theorem z6.fpOk {X:Cx}{pins:List (Addr×Obj)}{σ:St}{H H':Hp}{s:Shared}{b:Addr}(I:z6 X pins σ H s)(hb:s.heap.objs.size<=b)(hn:H' b=none):t6 X pins H' b:=by
 refine⟨hn,Nat.ne_of_gt (Nat.lt_of_lt_of_le I.lt hb),I.nofs hb,.inr (Nat.le_trans I.sz hb),λx c e z=> ?_,λp hp z=> ?_⟩
 ·obtain⟨v,q⟩:=I.cell x c e
  exact absurd (Nat.lt_of_lt_of_le q.lt (by rw[z];exact hb)) (Nat.lt_irrefl _)
 ·exact absurd (Nat.lt_of_lt_of_le (Heap.lt_size (I.pin p hp).1) (by rw[z];exact hb)) (Nat.lt_irrefl _)
structure pZ (P:Program)(w:World)(K:Frag)(tg:Expr)(J:It)(fp:List Addr)(it:Addr)(tn:Nat->Heap->Prop):Prop where
 mem:it∈fp
 obj: ∀i h,tn i h->∀b∈fp,∃o,h.get? b=some o/\∀v,o.data≠ .cell v
 keep: ∀i h h',tn i h->(∀b∈fp,∀o,h.get? b=some o->h'.get? b=some o)->tn i h'
 item: ∀(X:Cx),X.prog=P->X.w=w->X.K=K->X.calm=true->∀(i:Nat) (pins:List (Addr×Obj)) (s:Shared) (σ:St) (H:Hp) (E:Value->Shared->Prop),z6 X pins σ H s->(∀b∈fp,t6 X pins H b)->tn i s.heap->J.go i H->
  wpAny (model P w) X.A (pyNext (.ref it)) (λr s1=> ∃u,r=some u/\
   wpAny (model P w) X.A (letOwnedTupleGo tg (.ref it) u) (λ_ s2=> ∃x H',z6 X pins σ H' s2/\zL x u/\J.yld i H x H'/\tn (i+1) s2.heap/\∀b∈fp,H' b=none) E s1) E s
 done: ∀(X:Cx),X.prog=P->X.w=w->X.K=K->X.calm=true->∀(i:Nat) (pins:List (Addr×Obj)) (s:Shared) (σ:St) (H:Hp) (E:Value->Shared->Prop),z6 X pins σ H s->(∀b∈fp,t6 X pins H b)->tn i s.heap->J.stop i H->
  wpAny (model P w) X.A (pyNext (.ref it)) (λr s1=>r=none/\z6 X pins σ H s1) E s
 self: ∀(A:Around) (i:Nat) (s:Shared) (Q:Value->Shared->Prop) (E:Value->Shared->Prop),tn i s.heap->Q (.ref it) s->wpAny (model P w) A (pyIter (.ref it)) Q E s
abbrev TI:=St->Hp->(It->Hp->Prop)->Prop
def kM (X:Cx)(pins:List (Addr×Obj))(σ:St)(tg:Expr)(R:It->Hp->Prop)(itv:Value)(s2:Shared):Prop:=
 ∃(it:Addr) (fp:List Addr) (tn:Nat->Heap->Prop) (J:It) (H':Hp),itv= .ref it/\z6 X pins σ H' s2/\pZ X.prog X.w X.K tg J fp it tn/\tn 0 s2.heap/\(∀b∈fp,t6 X pins H' b)/\R J H'
structure PI (X:Cx)(tg iter:Expr)(wi:TI):Prop where
 run:
  ∀(pins:List (Addr×Obj)) (s:Shared) (σ:St) (H:Hp) (R:It->Hp->Prop),z6 X pins σ H s->wi σ H R->
   wpAny (model X.prog X.w) X.A (eval iter X.env) (λv s1=>wpAny (model X.prog X.w) X.A (pyIter v) (kM X pins σ tg R) X.xe s1) X.xe s
instance {X:Cx} {tg iter:Expr} {wi:TI} :CoeFun (PI X tg iter wi) λ_=>
 ∀(pins:List (Addr×Obj)) (s:Shared) (σ:St) (H:Hp) (R:It->Hp->Prop),z6 X pins σ H s->wi σ H R->
  wpAny (model X.prog X.w) X.A (eval iter X.env) (λv s1=>wpAny (model X.prog X.w) X.A (pyIter v) (kM X pins σ tg R) X.xe s1) X.xe s
  :=⟨PI.run⟩
theorem jB {M:Model}{A:Around}{E:Value->Shared->Prop}{s:Shared}{tg:Expr}{it:Addr}{u:Value}{o:Obj}{n:String}{vs:Array Value}{Q:Unit->Shared->Prop}(ho:s.heap.get? it=some o)(hc:o.cls= .type n)(hd:o.data= .fields vs)
  (hn: ["enumerate","zip","dict_itemiterator","dict_reverseitemiterator","odict_iterator","itertools.zip_longest","itertools.pairwise"].contains n=false) (hQ:Q () s):wpAny M A (letOwnedTupleGo tg (.ref it) u) Q E s:=by
 unfold letOwnedTupleGo;cases tg <;> first
  | exact wpAny_pure hQ
  | (cases u <;> first
    | exact wpAny_pure hQ
    | (refine wpAny_bind (wpAny_load ho ?_)
       rw[hc,hd];show wpAny M A (if(["enumerate","zip","dict_itemiterator","dict_reverseitemiterator","odict_iterator","itertools.zip_longest","itertools.pairwise"].contains n&&vs[0]?==some (rawInt _))=true then _ else _) Q E s;rw[if_neg (by intro h;rw[hn,Bool.false_and]at h;cases h)];exact wpAny_pure hQ))
def kG (K:Frag)(a:Addr):It:=
 ⟨λi H=> ∃xs x,yS K H a xs/\xs[i]?=some x,λi H x H'=>H'=H/\∀xs,yS K H a xs->xs[i]?=some x,λi H=> ∃xs,yS K H a xs/\xs.length<=i⟩
def gM (K:Frag)(a:Addr):It:=
 ⟨λi H=> ∃xs x,xQ K H a xs/\xs[i]?=some x,λi H x H'=>H'=H/\∀xs,xQ K H a xs->xs[i]?=some x,λi H=> ∃xs,xQ K H a xs/\xs.length<=i⟩
def kH (lo:Int)(n:Nat):It:=⟨λi _=>i < n,λi H x H'=>H'=H/\x= .int (lo+i),λi _=>n<=i⟩
theorem zqr {P:Program}{w:World}{K:Frag}{tg:Expr}(a it:Addr):pZ P w K tg (kG K a) [it] it (λi h=>h.IsListIter it a i) where
 mem:=by simp
 obj:=λi h st b hb=>by
  have e:b=it:=by simpa using hb
  subst e;obtain⟨o,e,c,d⟩:=st;exact⟨o,e,λv z=>by rw[d]at z;cases z⟩
 keep:=λi h h' st k=>st.at λo e=>k it (by simp) o e
 item:=by
  intro X hP hw hK hc i pins s σ H E I hf st hg;subst hP hw hK;obtain⟨xs,x,hq,hx⟩:=hg;obtain⟨its,rv,p,hz⟩:=I.list hq;obtain⟨u,hu,ru⟩:=rv.get hx;obtain⟨f0,f1,f2,f3,f4,f5⟩:=hf it (by simp);refine wpAny_pyNext_list_item st p.isList (x:=u) (by simpa using hu) λh' st' sb=> ?_;have I1:z6 X pins σ H {s with heap:=h'} :=I.turned (t':=s.toks) (λb o hb e=>(sb.2 b hb).trans e) f0 f1 f3 f4 f5;obtain⟨o,e,c,d⟩:=id st';exact⟨u,rfl,jB (s:= {s with heap:=h'}) e c d (by decide) ⟨x,H,I1,ru,⟨rfl,λys hy=>by rw[I.list_inj hy hq];exact hx⟩,st',λb hb=>(hf b hb).1⟩⟩
 done:=by
  intro X hP hw hK hc i pins s σ H E I hf st hg;subst hP hw hK;obtain⟨xs,hq,hx⟩:=hg;obtain⟨its,rv,p,hz⟩:=I.list hq;obtain⟨f0,f1,f2,f3,f4,f5⟩:=hf it (by simp);have hl:=rv.length;exact wpAny_pyNext_list_end (I.ok.hd hc) st p.isList (by simp;omega) λh' eb=>⟨rfl,I.turned (t':=s.toks) (λb o hb e=>eb b o hb e) f0 f1 f3 f4 f5⟩
 self:=λ_ _ _ _ _ st h=>wpAny_pyIter_listiter st h
theorem zqt {P:Program}{w:World}{K:Frag}{tg:Expr}(a it:Addr):pZ P w K tg (gM K a) [it] it (λi h=>h.IsTupleIter it a i) where
 mem:=by simp
 obj:=λi h st b hb=>by
  have e:b=it:=by simpa using hb
  subst e;obtain⟨o,e,c,d⟩:=st;exact⟨o,e,λv z=>by rw[d]at z;cases z⟩
 keep:=λi h h' st k=>st.at λo e=>k it (by simp) o e
 item:=by
  intro X hP hw hK hc i pins s σ H E I hf st hg;subst hP hw hK;obtain⟨xs,x,hq,hx⟩:=hg;obtain⟨its,rv,p,hz⟩:=I.tuple hq;obtain⟨u,hu,ru⟩:=rv.get hx;obtain⟨f0,f1,f2,f3,f4,f5⟩:=hf it (by simp);refine wpAny_pyNext_tuple_item st (show s.heap.IsTuple a its.toArray from p) (x:=u) (by simpa using hu) λh' st' sb=> ?_;have I1:z6 X pins σ H {s with heap:=h'} :=I.turned (t':=s.toks) (λb o hb e=>(sb.2 b hb).trans e) f0 f1 f3 f4 f5;obtain⟨o,e,c,d⟩:=id st';exact⟨u,rfl,jB (s:= {s with heap:=h'}) e c d (by decide) ⟨x,H,I1,ru,⟨rfl,λys hy=>by rw[I.tuple_inj hy hq];exact hx⟩,st',λb hb=>(hf b hb).1⟩⟩
 done:=by
  intro X hP hw hK hc i pins s σ H E I hf st hg;subst hP hw hK;obtain⟨xs,hq,hx⟩:=hg;obtain⟨its,rv,p,hz⟩:=I.tuple hq;obtain⟨f0,f1,f2,f3,f4,f5⟩:=hf it (by simp);have hl:=rv.length;exact wpAny_pyNext_tuple_end (I.ok.hd hc) st (show s.heap.IsTuple a its.toArray from p) (by simp;omega) λh' eb=>⟨rfl,I.turned (t':=s.toks) (λb o hb e=>eb b o hb e) f0 f1 f3 f4 f5⟩
 self:=λ_ _ _ _ _ st h=>wpAny_pyIter_tupleiter st h
theorem zqs {P:Program}{w:World}{K:Frag}{tg:Expr}(it:Addr)(lo:Int)(n:Nat):pZ P w K tg (kH lo n) [it] it (λi h=>IsRangeIter h it (lo+(i:Nat) * 1) ((n:Int) - (i:Nat)) 1) where
 mem:=by simp
 obj:=λi h st b hb=>by
  have e:b=it:=by simpa using hb
  subst e;exact⟨_,st,λv z=>by
   have z':Data.fields _=Data.cell v:=z;cases z'⟩
 keep:=λi h h' st k=>k it (by simp) _ st
 item:=by
  intro X hP hw hK hc i pins s σ H E I hf st hg;subst hP hw hK;obtain⟨f0,f1,f2,f3,f4,f5⟩:=hf it (by simp);have W:=Walks.range (prog:=X.prog) (w:=X.w) (I.ok.hd hc) it lo 1 n;refine W.item i s _ _ hg st λv h' tk hv st' kk=> ?_;obtain⟨t,rfl⟩:=hv;have I1:z6 X pins σ H {s with heap:=h',toks:=tk} :=I.turned (λb o hb e=>kk b o (by simpa using hb) e) f0 f1 f3 f4 f5;refine⟨_,rfl,jB (s:= {s with heap:=h',toks:=tk}) (n:= "range_iterator") st' rfl rfl (by decide) ⟨.int (lo+i),H,I1,⟨t,?_⟩,⟨rfl,rfl⟩,st',λb hb=>(hf b hb).1⟩⟩;rw[Int.mul_one]
 done:=by
  intro X hP hw hK hc i pins s σ H E I hf st hg;subst hP hw hK;obtain⟨f0,f1,f2,f3,f4,f5⟩:=hf it (by simp);exact wpAny_pyNext_range_end (I.ok.hd hc) st (by have:n<=i:=hg;omega) λh' eb=>⟨rfl,I.turned (t':=s.toks) (λb o hb e=>eb b o hb e) f0 f1 f3 f4 f5⟩
 self:=λ_ _ _ _ _ st h=>wpAny_pyIter_rangeiter st h
section
variable {X:Cx} {tg:Expr}
theorem zoH {pins:List (Addr×Obj)}{σ:St}{H:Hp}{s:Shared}{R:It->Hp->Prop}{E:Value->Shared->Prop}{lo hi:Int}{t u v:Tok}{tk:Nat}(I:z6 X pins σ H s)(h1: -(2 ^ 62)<=lo)(h2:lo < 2 ^ 62)(h3: -(2 ^ 62)<=hi)(h4:hi < 2 ^ 62)
  (q:R (kH lo (hi - lo).toNat) H):wpAny (model X.prog X.w) X.A (pyIter (.ref s.heap.objs.size)) (kM X pins σ tg R) E {s with heap:=s.heap.push {cls:= .type "range",data:= .fields #[.int lo t,.int hi u,.int 1 v]},toks:=tk} :=by
 refine wpAny_pyIter_range (IsRange.new ..) (small_one h1 h2 h3 h4) ?_;have I1:z6 X pins σ H {s with heap:=s.heap.push {cls:= .type "range",data:= .fields #[.int lo t,.int hi u,.int 1 v]},toks:=tk} :=I.kept λb o e=>Heap.get?_push_of_some _ e;refine⟨(s.heap.push {cls:= .type "range",data:= .fields #[.int lo t,.int hi u,.int 1 v]}).objs.size,[(s.heap.push {cls:= .type "range",data:= .fields #[.int lo t,.int hi u,.int 1 v]}).objs.size],_,_,H,rfl,
  I1.kept (t':=tk) λb o e=>Heap.get?_push_of_some _ e,zqs _ lo (hi - lo).toNat,?_,λb hb=> ?_,q⟩
 ·have e1:lo+((0:Nat):Int) * 1=lo:=by simp
  have e2:(((hi - lo).toNat:Nat):Int) - ((0:Nat):Int)=Builtin.Range.rangeSize lo hi 1:=by rw[rangeSize_one];split <;> omega
  show IsRangeIter _ _ (lo+((0:Nat):Int) * 1) ((((hi - lo).toNat:Nat):Int) - ((0:Nat):Int)) 1;rw[e1,e2];exact Heap.get?_push_size _ rfl
 ·have e:b=(s.heap.push {cls:= .type "range",data:= .fields #[.int lo t,.int hi u,.int 1 v]}).objs.size:=by simpa using hb
  subst e;exact I1.fpOk (Nat.le_refl _) (I1.hok.fresh (Nat.le_refl _))
def zkI (ta:TA):TI:=λσ H R=>ta σ H λvs H1=> ∃j:Int,vs= [.int j]/\ -(2 ^ 62)<=j/\j < 2 ^ 62/\R (kH 0 j.toNat) H1
theorem zn6 {a:Expr}{ta:TA}{p pos:Pos}(hg:Gl X "range")(hm:X.mg "range" =none)(ha:PA X [a] ta)(hs:starEach [a] X.env= [(false,eval a X.env)]:=by rfl):PI X tg (.Call (.Name "range" p) [a] [] pos) (zkI ta):=by
 constructor;intro pins s σ H R I h;refine Call_ (jG I hg hm boot_range (callWith_type1 (zJ (ha pos pins s σ H _ I h) λus s1 ⟨vs,H1,I1,r1,q1⟩=> ?_) hs rfl));obtain⟨j,e,q1,q2,q⟩:=q1;subst e;cases r1 with
 | cons r rr=>
  cases rr;obtain⟨t,rfl⟩:=r;exact call_range_1 (zoH I1 (by omega) (by omega) q1 q2 (by simpa using q))
def zpQ (wi:TI)(g:TG)(tb:TS):TS:=λD σ H=>wi σ H λJ H1=> ∃W:Nat->Nat->St->Hp->Prop,(∃m,W 0 m σ H1)/\∀i m σ H,W i m σ H->
 (J.stop i H/\D.nx σ H)∨(J.go i H/\∃N:St->Hp->Prop,(∀σ' H',N σ' H'->∃m',m' < m/\W (i+1) m' σ' H')/\∀x H',J.yld i H x H'->g x σ H' λσ2 H2=>tb {D with nx:=N,ct:=N,bk:=D.nx} σ2 H2)
def uC (fp:List Addr)(h:Heap):List (Addr×Obj):=fp.filterMap λb=>(h.get? b).map λo=>(b,o)
theorem rR {fp:List Addr}{h:Heap}{b:Addr}{o:Obj}(hb:b∈fp)(e:h.get? b=some o):(b,o)∈uC fp h:=List.mem_filterMap.mpr ⟨b,hb,by rw[e];rfl⟩
theorem jP {fp:List Addr}{h:Heap}{p:Addr×Obj}(hp:p∈uC fp h):p.1∈fp/\h.get? p.1=some p.2:=by
 obtain⟨b,hb,e⟩:=List.mem_filterMap.mp hp;cases q:h.get? b with
 | none=>rw[q]at e;cases e
 | some o=>
  rw[q]at e;have e':(b,o)=p:=Option.some.inj e;subst e';exact⟨hb,q⟩
theorem z6.pinned {pins:List (Addr×Obj)}{σ:St}{H:Hp}{s:Shared}{fp:List Addr}(I:z6 X pins σ H s)(hf: ∀b∈fp,t6 X pins H b)(ho: ∀b∈fp,∃o,s.heap.get? b=some o/\∀v,o.data≠ .cell v):z6 X (pins++uC fp s.heap) σ H s:=
 I.pins_of λp hp=>(List.mem_append.mp hp).elim (λz=>I.pin p (List.mem_append_right _ z)) λz=>by
  obtain⟨hb,e⟩:=jP z;obtain⟨f0,f1,f2,_⟩:=hf p.1 hb;obtain⟨o,e',d⟩:=ho p.1 hb;rw[e]at e';cases e';exact⟨e,f0,f1,f2,d⟩
theorem z6.unpinned {pins pl:List (Addr×Obj)}{σ:St}{H:Hp}{s:Shared}(I:z6 X (pins++pl) σ H s):z6 X pins σ H s:=I.pins_of λp hp=>I.pin p (List.mem_append_right _ (List.mem_append_left _ hp))
theorem znK {iter:Expr}{body:List Stmt}{wi:TI}{g:TG}{tb:TS}{pos:Pos}(hp:PassesOwn (model X.prog X.w) X.A X.env X.xe)(hc:X.calm=true)(hi:PI X tg iter wi)(hg:PG X tg g)(hb:yI X body tb)
  (hs: ∀x,foldedSetIterable iter X.env x=pure x:=by intro _;rfl):PS X (.For tg iter body [] pos) (zpQ wi g tb):=by
 constructor;intro pins s σ H D I h;refine wpAny_For (zJ (hi pins s σ H _ I h) λv s1 h1=>zJ h1 λitv s2 h2=> ?_) hs;obtain⟨it,fp,tn,J,H2,e,I2,T,st2,f2,W,⟨m0,w0⟩,turn⟩:=h2;subst e;have stat: ∀{H':Hp},(∀b∈fp,H' b=none)->∀b∈fp,t6 X pins H' b:=λhn b hb=>⟨hn b hb,(f2 b hb).2⟩;refine codeAny_forLoop_any (λn s'=> ∃i σ' H',z6 X pins σ' H' s'/\tn i s'.heap/\(∀b∈fp,H' b=none)/\W i n σ' H') ?_ m0 ⟨0,σ,H2,I2,st2,λb hb=>(f2 b hb).1,w0⟩;rintro n s3 ⟨i,σ3,H3,I3,st3,fr3,w3⟩;rcases turn i n σ3 H3 w3 with⟨stop,qn⟩ | ⟨go,N,hN,step⟩
 ·refine wpAny_passesOwn hp (zJ (T.done X rfl rfl rfl hc i pins s3 σ3 H3 X.xe I3 (stat fr3) st3 stop) λr s4 ⟨hr,I4⟩=> ?_)
  subst hr;exact wpAny_execs_nil ⟨σ3,H3,I4,qn⟩
 ·refine wpAny_passesOwn hp (zJ (T.item X rfl rfl rfl hc i pins s3 σ3 H3 X.xe I3 (stat fr3) st3 go) λr s4 ⟨u,hr,h4⟩=> ?_)
  subst hr;refine wpAny_passesOwn hp (zJ h4 λ_ s5 ⟨x,H5,I5,r5,y5,st5,fr5⟩=> ?_);have I5':=I5.pinned (stat fr5) (T.obj _ _ st5);refine wpAny_passesOwn hp (zJ (hg _ s5 σ3 H5 x u _ I5' r5 (step x H5 y5)) λ_ s6 ⟨σ6,H6,I6,q6⟩=> ?_);refine wpAny_passesOwn hp (zJ (hb _ s6 σ6 H6 _ I6 q6) λf s7 q7=> ?_);have again: ∀{σ7:St} {H7:Hp},z6 X (pins++uC fp s5.heap) σ7 H7 s7->N σ7 H7->∃m,m < n/\∃i σ' H',z6 X pins σ' H' s7/\tn i s7.heap/\(∀b∈fp,H' b=none)/\W i m σ' H':=λ{σ7 H7} I7 n7=>by
   obtain⟨m',hm,w7⟩:=hN σ7 H7 n7;refine⟨m',hm,i+1,σ7,H7,I7.unpinned,T.keep _ _ _ st5 λb hb o e=>(I7.pin (b,o) (List.mem_append_right _ (List.mem_append_right _ (rR hb e)))).1,λb hb=> ?_,w7⟩;obtain⟨o,e,d⟩:=T.obj _ _ st5 b hb;exact(I7.pin (b,o) (List.mem_append_right _ (List.mem_append_right _ (rR hb e)))).2.1
  cases f with
  | next=>obtain⟨σ7,H7,I7,n7⟩:=q7;exact again I7 n7
  | cont=>obtain⟨σ7,H7,I7,n7⟩:=q7;exact again I7 n7
  | brk=>obtain⟨σ7,H7,I7,q7⟩:=q7;exact⟨σ7,H7,I7.unpinned,q7⟩
  | ret v=>obtain⟨x7,σ7,H7,I7,r7,q7⟩:=q7;exact⟨x7,σ7,H7,I7.unpinned,r7,q7⟩
end
abbrev R2:=V->V->Hp->VK->Prop
def y1 (X:Cx)(f:Value->Value->Sem Value)(r:R2):Prop:=
 ∀(pins:List (Addr×Obj)) (s:Shared) (σ:St) (H:Hp) (x y:V) (v u:Value) (Q:VK),z6 X pins σ H s->zL x v->zL y u->r x y H Q->
  wpAny (model X.prog X.w) X.A (f v u) (EP X pins σ Q) X.xe s
def xK (X:Cx)(f:Value)(r:List V->Hp->VK->Prop):Prop:=
 ∀(pins:List (Addr×Obj)) (s:Shared) (σ:St) (H:Hp) (xs:List V) (us:List Value) (Q:VK),z6 X pins σ H s->zI xs us->r xs H Q->
  wpAny (model X.prog X.w) X.A (call f us) (EP X pins σ Q) X.xe s
def ziY (X:Cx)(r:V->Hp->(Bool->Hp->Prop)->Prop):Prop:=
 ∀(pins:List (Addr×Obj)) (s:Shared) (σ:St) (H:Hp) (x:V) (v:Value) (Q:Bool->Hp->Prop),z6 X pins σ H s->zL x v->r x H Q->
  wpAny (model X.prog X.w) X.A (truthy v) (TP X pins σ Q) X.xe s
def nN (r:R2)(ta tb:TE):TE:=λσ H Q=>ta σ H λx H1=>tb σ H1 λy H2=>r x y H2 Q
def rI (C:Int->Int->Prop)(g:Int->Int->V):R2:=λx y H Q=> ∃i j,x= .int i/\y= .int j/\C i j/\Q (g i j) H
def sV (g:Int->Int->V):R2:=λx y H Q=> ∃i j,x= .int i/\y= .int j/\Q (g i j) H
section
variable {X:Cx} {a b c:Expr} {ta tb tc:TE} {pos:Pos}
theorem fJ (ha:PE X a ta)(hb:PE X b tb){pins:List (Addr×Obj)}{s:Shared}{σ:St}{H:Hp}{R:V->V->Hp->Prop}(I:z6 X pins σ H s)
  (h:ta σ H λx H1=>tb σ H1 λy H2=>R x y H2) {Q:Value->Shared->Prop} {f:Value->Value->Sem Value}
  (hf: ∀v u s2 x y H2,z6 X pins σ H2 s2->zL x v->zL y u->R x y H2->wpAny (model X.prog X.w) X.A (f v u) Q X.xe s2):
  wpAny (model X.prog X.w) X.A (eval a X.env) (λv s₁=>wpAny (model X.prog X.w) X.A (eval b X.env) (λu s₂=>wpAny (model X.prog X.w) X.A (f v u) Q X.xe s₂) X.xe s₁) X.xe s:=by
 refine zJ (ha pins s σ H _ I h) λv s1 ⟨x,H1,I1,r1,q1⟩=> ?_;refine zJ (hb pins s1 σ H1 _ I1 q1) λu s2 ⟨y,H2,I2,r2,q2⟩=> ?_;exact hf v u s2 x y H2 I2 r1 r2 q2
theorem znu {op:Operator}{r:R2}(ho:y1 X (binaryOp op) r)(ha:PE X a ta)(hb:PE X b tb):PE X (.BinOp a op b pos) (nN r ta tb):=by
 constructor;intro pins s σ H Q I h;exact wpAny_BinOp (fJ ha hb I h λv u s2 x y H2 I2 rx ry q=>ho pins s2 σ H2 x y v u Q I2 rx ry q)
theorem jT {f:Value->Value->Sem Value}{C:Int->Int->Prop}{g:Int->Int->Int}
  (rule: ∀(i j:Int) (t u:Tok) (s:Shared) (Q:Value->Shared->Prop) (E:Value->Shared->Prop),C i j->Q (.int (g i j) s.toks) {s with toks:=s.toks+1} ->wpAny (model X.prog X.w) X.A (f (.int i t) (.int j u)) Q E s):
  y1 X f (rI C λi j=> .int (g i j)):=by
 intro pins s σ H x y v u Q I rx ry h;obtain⟨i,j,rfl,rfl,hc,q⟩:=h;obtain⟨t,rfl⟩:=rx;obtain⟨t',rfl⟩:=ry;exact rule i j t t' s _ _ hc ⟨.int (g i j),H,I.tok _,⟨_,rfl⟩,q⟩
theorem zgE {f:Value->Value->Sem Value}{g:Int->Int->Int}
  (rule: ∀(i j:Int) (t u:Tok) (s:Shared) (Q:Value->Shared->Prop) (E:Value->Shared->Prop),Q (.int (g i j) s.toks) {s with toks:=s.toks+1} ->wpAny (model X.prog X.w) X.A (f (.int i t) (.int j u)) Q E s):
  y1 X f (sV λi j=> .int (g i j)):=by
 intro pins s σ H x y v u Q I rx ry h;obtain⟨i,j,rfl,rfl,q⟩:=h;obtain⟨t,rfl⟩:=rx;obtain⟨t',rfl⟩:=ry;exact rule i j t t' s _ _ ⟨.int (g i j),H,I.tok _,⟨_,rfl⟩,q⟩
theorem jS {f:Value->Value->Sem Value}{g:Int->Int->Bool}
  (rule: ∀(i j:Int) (t u:Tok) (s:Shared) (Q:Value->Shared->Prop) (E:Value->Shared->Prop),Q (.bool (g i j)) s->wpAny (model X.prog X.w) X.A (f (.int i t) (.int j u)) Q E s):
  y1 X f (sV λi j=> .bl (g i j)):=by
 intro pins s σ H x y v u Q I rx ry h;obtain⟨i,j,rfl,rfl,q⟩:=h;obtain⟨t,rfl⟩:=rx;obtain⟨t',rfl⟩:=ry;exact rule i j t t' s _ _ ⟨.bl (g i j),H,I,rfl,q⟩
def k6 (i j:Int):Prop:=0<=j/\j<=1000000/\i.natAbs < 2 ^ 64
def gB (i j:Int):Prop:=(-(2 ^ 64) < i/\i < 2 ^ 64)∨(-(2 ^ 64) < j/\j < 2 ^ 64)
theorem gB.ok {i j:Int}(h:gB i j):IntMulOk i j:=by
 rcases h with⟨h1,h2⟩ | ⟨h1,h2⟩
 ·exact .of_left (intBits_le_64 h1 h2)
 ·exact .of_right (intBits_le_64 h1 h2)
theorem zmG:y1 X (binaryOp .Add) (sV λi j=> .int (i+j)):=zgE λ_ _ _ _ _ _ _ q=>add_int q
theorem zmZ:y1 X (binaryOp .Sub) (sV λi j=> .int (i - j)):=zgE λ_ _ _ _ _ _ _ q=>sub_int q
theorem zmV:y1 X (binaryOp .Mult) (rI gB λi j=> .int (i * j)):=jT λ_ _ _ _ _ _ _ hc q=>mul_int q hc.ok
theorem zmU:y1 X (binaryOp .Mod) (rI (λ_ j=>0 < j) λi j=> .int (i % j)):=jT λi j _ _ _ _ _ hc q=>by
 have h1:(0:Int) < j:=hc;exact mod_int' (by omega) (by rw[Int.fmod_eq_emod_of_nonneg i (by omega)];exact q)
theorem zmY:y1 X (binaryOp .Pow) (rI k6 λi j=> .int (i ^ j.toNat)):=jT λ_ _ _ _ _ _ _ hc q=>pow_int_small hc.1 hc.2.1 hc.2.2 q
end
def zpg:V->V->Bool
 | .non,.non=>true | .non,.int _=>true | .int _,.non=>true | .non,.bl _=>true | .bl _,.non=>true | .non,.str _=>true | .str _,.non=>true
 | .int _,.int _=>true | .bl _,.bl _=>true | .str _,.str _=>true | .byt _,.byt _=>true
 | .int _,.str _=>true | .str _,.int _=>true | .bl _,.str _=>true | .str _,.bl _=>true
 | _,_=>false
def rEq:R2:=λx y H Q=>zpg x y=true/\Q (.bl (decide (x=y))) H
theorem zjW {i j:Int} :decide (V.int i=V.int j)=(i==j):=by
 rw[Bool.eq_iff_iff];simp
theorem zjU {i j:Bool} :decide (V.bl i=V.bl j)=(i==j):=by
 rw[Bool.eq_iff_iff];simp
theorem zjX {i j:Str} :decide (V.str i=V.str j)=(i==j):=by
 rw[Bool.eq_iff_iff];simp
theorem zjV {i j:Array UInt8} :decide (V.byt i=V.byt j)=(i.toList==j.toList):=by
 rw[Bool.eq_iff_iff];cases i;cases j;simp
section
variable {X:Cx} {a b c:Expr} {ta tb tc:TE} {pos:Pos}
theorem wS {pins:List (Addr×Obj)}{σ:St}{H:Hp}{s:Shared}{Q:VK}{k k':Bool}(I:z6 X pins σ H s)(q:Q (.bl k) H)(e:k=k'):EP X pins σ Q (.bool k') s:=by
 subst e;exact⟨.bl k,H,I,rfl,q⟩
theorem zmL:y1 X (compareOp .Eq) rEq:=by
 intro pins s σ H x y v u Q I rx ry h;obtain⟨hs,q⟩:=h;cases x with
 | non=>
  cases rx;cases y with
  | non=>cases ry;exact PySem.EqNone.eq_none_none (wS I q (by simp))
  | bl j=>cases ry;exact PySem.EqNone.eq_none_bool (wS I q (by simp))
  | int j=>obtain⟨t',rfl⟩:=ry;exact PySem.EqNone.eq_none_int (wS I q (by simp))
  | str j=>obtain⟨t',rfl⟩:=ry;exact PySem.EqNone.eq_none_str (wS I q (by simp))
  | _=>exact absurd (show false=true from hs) Bool.false_ne_true
 | bl i=>
  cases rx;cases y with
  | non=>cases ry;exact PySem.EqNone.eq_bool_none (wS I q (by simp))
  | bl j=>cases ry;exact eq_bool (wS I q zjU)
  | str j=>obtain⟨t',rfl⟩:=ry;exact PySem.EqMixed.eq_bool_str (wS I q (by simp))
  | _=>exact absurd (show false=true from hs) Bool.false_ne_true
 | int i=>
  obtain⟨t,rfl⟩:=rx;cases y with
  | non=>cases ry;exact PySem.EqNone.eq_int_none (wS I q (by simp))
  | int j=>obtain⟨t',rfl⟩:=ry;exact eq_int (wS I q zjW)
  | str j=>obtain⟨t',rfl⟩:=ry;exact PySem.EqMixed.eq_int_str (wS I q (by simp))
  | _=>exact absurd (show false=true from hs) Bool.false_ne_true
 | str i=>
  obtain⟨t,rfl⟩:=rx;cases y with
  | non=>cases ry;exact PySem.EqNone.eq_str_none (wS I q (by simp))
  | bl j=>cases ry;exact PySem.EqMixed.eq_str_bool (wS I q (by simp))
  | int j=>obtain⟨t',rfl⟩:=ry;exact PySem.EqMixed.eq_str_int (wS I q (by simp))
  | str j=>obtain⟨t',rfl⟩:=ry;exact eq_str (wS I q zjX)
  | _=>exact absurd (show false=true from hs) Bool.false_ne_true
 | byt i=>
  obtain⟨t,rfl⟩:=rx;cases y with
  | byt j=>obtain⟨t',rfl⟩:=ry;exact PySem.W.eq_bytes (wS I q zjV)
  | _=>exact absurd (show false=true from hs) Bool.false_ne_true
 | _=>cases y <;> exact absurd (show false=true from hs) Bool.false_ne_true
theorem zmT:y1 X (compareOp .Lt) (sV λi j=> .bl (decide (i < j))):=jS λ_ _ _ _ _ _ _ q=>lt_int q
theorem zmS:y1 X (compareOp .LtE) (sV λi j=> .bl (decide (i<=j))):=jS λ_ _ _ _ _ _ _ q=>le_int q
theorem zmO:y1 X (compareOp .Gt) (sV λi j=> .bl (decide (j < i))):=jS λ_ _ _ _ _ _ _ q=>gt_int q
theorem zmN:y1 X (compareOp .GtE) (sV λi j=> .bl (decide (j<=i))):=jS λ_ _ _ _ _ _ _ q=>ge_int q
theorem zmQ:y1 X (compareOp .In) (λx y H Q=> ∃i j,x= .str i/\y= .str j/\Q (.bl (!(Builtin.Str.occurrences j i 0 j.length 1).isEmpty)) H):=by
 intro pins s σ H x y v u Q I rx ry h;obtain⟨i,j,rfl,rfl,q⟩:=h;obtain⟨t,rfl⟩:=rx;obtain⟨t',rfl⟩:=ry;exact in_str (wS I q rfl)
theorem zmR:y1 X (compareOp .Is) (λx y H Q=>y= .non/\Q (.bl (decide (x= .non))) H):=by
 intro pins s σ H x y v u Q I rx ry h;obtain⟨rfl,q⟩:=h;cases ry;refine is_none_gen (wS I q ?_);cases x <;> first
  | (cases rx;rfl)
  | (obtain⟨t,rfl⟩:=rx;rfl)
theorem y4 (b:Expr){op:CmpOp}(h:op≠ .In:=by decide)(h2:op≠ .NotIn:=by decide):behindInMarks op b=false:=by
 have e1:(op==CmpOp.In)=false:=by cases op <;> first | rfl | exact absurd rfl h
 have e2:(op==CmpOp.NotIn)=false:=by cases op <;> first | rfl | exact absurd rfl h2
 cases b <;> simp[behindInMarks,e1,e2]
theorem zgP {op:CmpOp}{r:R2}(ho:y1 X (compareOp op) r)(ha:PE X a ta)(hb:PE X b tb)(hm:behindInMarks op b=false):PE X (.Compare a [op] [b] pos) (nN r ta tb):=by
 constructor;intro pins s σ H Q I h;exact wpAny_Compare1 (fJ ha hb I h λv u s2 x y H2 I2 rx ry q=>ho pins s2 σ H2 x y v u Q I2 rx ry q) hm
def zhU (t:TE):TT:=λσ H Q=>t σ H λx H'=> ∃k,x= .bl k/\Q k H'
theorem znW {op:CmpOp}{r:R2}(ho:y1 X (compareOp op) r)(ha:PE X a ta)(hb:PE X b tb)(hm:behindInMarks op b=false):PT X (.Compare a [op] [b] pos) (zhU (nN r ta tb)):=by
 constructor;intro pins s σ H Q I h;refine wpAny_isTrue_Compare1 (zJ (ha pins s σ H _ I h) λv s1 ⟨x,H1,I1,r1,q1⟩=>zJ (hb pins s1 σ H1 _ I1 q1) λu s2 ⟨y,H2,I2,r2,q2⟩=>
  zJ (ho pins s2 σ H2 x y v u _ I2 r1 r2 q2) λc s3 ⟨z,H3,I3,r3,k,e,q3⟩=> ?_) hm
 subst e;cases r3;exact wpAny_truthy_bool ⟨H3,I3,q3⟩
def zhR (r r':R2)(ta tb tc:TE):TE:=λσ H Q=>ta σ H λx H1=>tb σ H1 λy H2=>r x y H2 λz H3=> ∃k,z= .bl k/\
 (if k=true then tc σ H3 λw' H4=>r' y w' H4 Q else Q (.bl false) H3)
theorem znk {op op':CmpOp}{r r':R2}(ho:y1 X (compareOp op) r)(ho':y1 X (compareOp op') r')(ha:PE X a ta)(hb:PE X b tb)(hc:PE X c tc)
  (hm:lastMarks [op,op'] [b,c]=false:=by with_unfolding_all rfl):PE X (.Compare a [op,op'] [b,c] pos) (zhR r r' ta tb tc):=by
 constructor;intro pins s σ H Q I h;refine Compare_chain (zJ (ha pins s σ H _ I h) λv s1 ⟨x,H1,I1,r1,q1⟩=>chain_link (zJ (hb pins s1 σ H1 _ I1 q1) λu s2 ⟨y,H2,I2,r2,q2⟩=>
  zJ (ho pins s2 σ H2 x y v u _ I2 r1 r2 q2) λd s3 ⟨z,H3,I3,r3,k,e,q3⟩=> ?_)) hm
 subst e;cases r3;refine wpAny_truthy_bool ?_;cases k with
 | false=>exact ite_ff ⟨.bl false,H3,I3,rfl,q3⟩
 | true=>exact ite_tt (chain_last (zJ (hc pins s3 σ H3 _ I3 q3) λw' s4 ⟨z',H4,I4,r4,q4⟩=>ho' pins s4 σ H4 y z' u w' Q I4 r2 r4 q4))
def gW (K:Frag)(x:V)(H:Hp)(k:Bool):Prop:=
 match x with
 | .non=>k=false
 | .bl b=>k=b
 | .int i=>k=(i !=0)
 | .str y=>y.length<=sizeLine/\k=((y.length:Int) !=0)
 | .byt y=>y.size<=sizeLine/\k=((y.size:Int) !=0)
 | .ref p=>(∃xs,yS K H p xs/\k= !xs.isEmpty)∨(∃xs,xQ K H p xs/\k= !xs.isEmpty)∨∃kvs,H p=some (.dK kvs)/\k= !kvs.isEmpty
 | _=>False
theorem zkS {κ:Type}{kvs:List (κ×V)}{vs:List (κ×Value)}(r:KV kvs vs):(!vs.isEmpty)= !kvs.isEmpty:=by
 cases r <;> rfl
theorem zfP {xs:List V}{its:List Value}(r:zI xs its):(!its.toArray.isEmpty)= !xs.isEmpty:=by
 cases r <;> simp
theorem oN:(sizeLine:Nat) < 2 ^ 63:=by rw[sizeLine_eq];decide
theorem zqq:ziY X (λx H Q=> ∃k,gW X.K x H k/\Q k H):=by
 intro pins s σ H x v Q I rx h;obtain⟨k,e,q⟩:=h;have hl:=oN;have hs:sizeLine=16777216:=sizeLine_eq;cases x with
 | non=>
  cases rx;have e':k=false:=e;subst e';exact truthy_none ⟨H,I,q⟩
 | bl b=>
  cases rx;have e':k=b:=e;subst e';exact wpAny_truthy_bool ⟨H,I,q⟩
 | int i=>
  obtain⟨t,rfl⟩:=rx;have e':k=(i !=0):=e;subst e';exact PySem.P.truthy_int ⟨H,I,q⟩
 | str y=>
  obtain⟨t,rfl⟩:=rx;obtain⟨hy,e'⟩:y.length<=sizeLine/\k=((y.length:Int) !=0):=e;subst e';exact PySem.P.truthy_str (by omega) ⟨H,I.tok _,q⟩
 | byt y=>
  obtain⟨t,rfl⟩:=rx;obtain⟨hy,e'⟩:y.size<=sizeLine/\k=((y.size:Int) !=0):=e;subst e';exact PySem.W.truthy_bytes (by omega) ⟨H,I.tok _,q⟩
 | ref p=>
  cases rx;have e':(∃xs,yS X.K H p xs/\k= !xs.isEmpty)∨(∃xs,xQ X.K H p xs/\k= !xs.isEmpty)∨∃kvs,H p=some (.dK kvs)/\k= !kvs.isEmpty:=e;rcases e' with⟨xs,hx,e'⟩ | ⟨xs,hx,e'⟩ | ⟨kvs,hx,e'⟩
  ·subst e'
   obtain⟨its,r,pl,hz⟩:=I.list hx;have hlen:=r.length;exact wpAny_truthy_list pl.isList (by simp only[List.size_toArray];omega) ⟨H,I.tok _,by rw[zfP r];exact q⟩
  ·subst e'
   obtain⟨its,r,pl,hz⟩:=I.tuple hx;have hlen:=r.length;exact truthy_tuple pl (by simp only[List.size_toArray];omega) ⟨H,I.tok _,by rw[zfP r];exact q⟩
  ·subst e'
   obtain⟨hz,hS,vs,r,m⟩:kvs.length<=sizeLine/\(p==sysModules)=false/\∃vs,KV kvs vs/\s.heap.DictOf (xY X.prog X.w) p vs:=I.hok p _ hx;have hlen:kvs.length=vs.length:=Paired.length r;exact wpAny_truthy_dict hS m (by omega) ⟨H,I.tok _,by rw[zkS r];exact q⟩
 | _=>exact(show False from e).elim
theorem znY (ha:PE X a ta)(he: ∀whole,isTrue a X.env whole=(do let v <- whole;standAt a.pos;holding [v] (truthy v))):
  PT X a (λσ H Q=>ta σ H λx H'=> ∃k,gW X.K x H' k/\Q k H'):=by
 constructor;intro pins s σ H Q I h;exact isTrue_plain (zJ (ha pins s σ H _ I h) λv s1 ⟨x,H1,I1,r1,q1⟩=>zqq pins s1 σ H1 x v Q I1 r1 q1) (he _)
theorem zmH:y1 X (binaryOp .Add) (λx y H Q=> ∃i j,x= .str i/\y= .str j/\i.length+j.length<=sizeLine/\Q (.str (i++j)) H):=by
 intro pins s σ H x y v u Q I rx ry h;obtain⟨i,j,rfl,rfl,hz,q⟩:=h;obtain⟨t,rfl⟩:=rx;obtain⟨t',rfl⟩:=ry;exact add_str (λt' tk=>⟨.str (i++j),H,I.tok _,⟨_,rfl⟩,q⟩) hz
theorem qC {x:V}{us:List Value}(r:zI [x] us): ∃u,us= [u]/\zL x u:=by
 cases r with
 | cons r1 r2=>cases r2;exact⟨_,rfl,r1⟩
theorem zi3 {x y:V}{us:List Value}(r:zI [x,y] us): ∃u w',us= [u,w']/\zL x u/\zL y w':=by
 cases r with
 | cons r1 r2=>
  cases r2 with
  | cons r3 r4=>cases r4;exact⟨_,_,rfl,r1,r3⟩
theorem zj7 (hc:X.calm=true):xK X (.builtin "max") (λxs H Q=> ∃i j,xs= [.int i,.int j]/\Q (.int (if j > i then j else i)) H):=by
 intro pins s σ H xs us Q I r h;obtain⟨i,j,rfl,q⟩:=h;obtain⟨u,w',rfl,⟨t,rfl⟩,⟨t',rfl⟩⟩:=zi3 r;refine max_two_ints (I.ok.hd hc) λh' tk k=>⟨_,H,I.kept k,?_,q⟩;by_cases hj:j > i
 ·rw[if_pos hj,if_pos hj];exact⟨_,rfl⟩
 ·rw[if_neg hj,if_neg hj];exact⟨_,rfl⟩
theorem zj8 (hc:X.calm=true):xK X (.builtin "min") (λxs H Q=> ∃i j,xs= [.int i,.int j]/\Q (.int (if j < i then j else i)) H):=by
 intro pins s σ H xs us Q I r h;obtain⟨i,j,rfl,q⟩:=h;obtain⟨u,w',rfl,⟨t,rfl⟩,⟨t',rfl⟩⟩:=zi3 r;refine min_two_ints (I.ok.hd hc) λh' tk k=>⟨_,H,I.kept k,?_,q⟩;by_cases hj:j < i
 ·rw[if_pos hj,if_pos hj];exact⟨_,rfl⟩
 ·rw[if_neg hj,if_neg hj];exact⟨_,rfl⟩
theorem zd_:xK X (.type "int") (λxs H Q=>(∃i,xs= [.int i]/\Q (.int i) H)∨∃k,xs= [.bl k]/\Q (.int (if k then 1 else 0)) H):=by
 intro pins s σ H xs us Q I r h;rcases h with⟨i,rfl,q⟩ | ⟨k,rfl,q⟩
 ·obtain⟨u,rfl,t,rfl⟩:=qC r
  exact call_int_int ⟨.int i,H,I,⟨_,rfl⟩,q⟩
 ·obtain⟨u,rfl,r1⟩:=qC r
  cases r1;exact call_int_bool ⟨.int (if k then 1 else 0),H,I.tok _,⟨_,rfl⟩,q⟩
def ziS (K:Frag)(x:V)(H:Hp)(n:Nat):Prop:=
 match x with
 | .str y=>y.length<=sizeLine/\n=y.length
 | .byt y=>y.size<=sizeLine/\n=y.size
 | .ref p=>(∃xs,yS K H p xs/\n=xs.length)∨∃xs,xQ K H p xs/\n=xs.length
 | _=>False
theorem kX:xK X (.builtin "len") (λxs H Q=> ∃x n,xs= [x]/\ziS X.K x H n/\Q (.int n) H):=by
 intro pins s σ H xs us Q I r h;obtain⟨x,n,rfl,e,q⟩:=h;obtain⟨u,rfl,rx⟩:=qC r;have hl:=oN;have hs:sizeLine=16777216:=sizeLine_eq;cases x with
 | str y=>
  obtain⟨t,rfl⟩:=rx;obtain⟨hy,e'⟩:y.length<=sizeLine/\n=y.length:=e;subst e';exact len_str (by omega) ⟨.int _,H,I.tok _,⟨_,rfl⟩,q⟩
 | byt y=>
  obtain⟨t,rfl⟩:=rx;obtain⟨hy,e'⟩:y.size<=sizeLine/\n=y.size:=e;subst e';exact PySem.W.len_bytes (by omega) ⟨.int _,H,I.tok _,⟨_,rfl⟩,q⟩
 | ref p=>
  cases rx;have e':(∃xs,yS X.K H p xs/\n=xs.length)∨∃xs,xQ X.K H p xs/\n=xs.length:=e;rcases e' with⟨xs,hx,e'⟩ | ⟨xs,hx,e'⟩
  ·subst e'
   obtain⟨its,r',pl,hz⟩:=I.list hx;have hlen:=r'.length;exact Calls.call_len_list pl.isList (by simp only[List.size_toArray];omega) ⟨.int xs.length,H,I.tok _,⟨_,by simp only[List.size_toArray];rw[hlen]⟩,q⟩
  ·subst e'
   obtain⟨its,r',pl,hz⟩:=I.tuple hx;have hlen:=r'.length;exact len_tuple pl (by simp only[List.size_toArray];omega) ⟨.int xs.length,H,I.tok _,⟨_,by simp only[List.size_toArray];rw[hlen]⟩,q⟩
 | _=>exact(show False from e).elim
end
structure qL (h:Heap)(x dx C:Addr)(mA:Str->Option Value):Prop where
 obj:h.get? x=some (instObj C dx)
 ns:h.Ns1 dx mA
 ne:dx≠x
theorem zgg {h:Heap}{dx:Addr}{mA:Str->Option Value}(n:h.Ns1 dx mA): ∃od,h.get? dx=some od/\∀name,lookIn name od=some (mA name):=by
 obtain⟨o,es,ep,ho,hd,hk,_,hm⟩:=n;refine⟨o,ho,λname=> ?_⟩;have e:=hm name;unfold nsFind findBy at e;rw[<- Array.find?_toList]at e;unfold lookIn;rw[hd];dsimp only
 split
 ·rename_i y q
  rw[q]at e;exact congrArg some e
 ·rename_i q
  rw[q]at e;have a:es.toList.any (·.refKey)=false:=by
   rw[List.any_eq_false];intro y hy;obtain⟨z,t,hkey⟩:=hk y (Array.mem_toList_iff.mp hy);simp[DictEntry.refKey,hkey]
  have a': ¬ es.toList.any (·.refKey)=true:=by rw[a];exact Bool.false_ne_true
  rw[if_neg a'];exact congrArg some e
theorem qL.look {h:Heap}{x dx C:Addr}{mA:Str->Option Value}(I:qL h x dx C mA): ∃od,InstAt h x (instObj C dx) C (some od)/\∀name,lookIn name od=some (mA name):=
 let⟨od,ho,hl⟩:=zgg I.ns
 ⟨od,⟨I.obj,rfl,rfl,ho⟩,hl⟩
section
variable {prog:Program} {w:World} {A:Around} {E:Value->Shared->Prop} {s:Shared} {K:Frag} {x dx C f:Addr} {mA:Str->Option Value} {name:Str} {v:Value}
theorem zk6 {expr:Bool}{Q:Value->Shared->Prop}(X:K.In s.heap)(I:qL s.heap x dx C mA)(hg:plainGet K C name=true)(hh:hasDictIn K C=true)
  (ha:findIn K (.ref C) name=some none) (hv:mA name=some v) (hv':handedIn v=true) (h:Q v {s with toks:=s.toks+1}):
  wpAny (model prog w) A (getAttr (.ref x) name expr) Q E s:=by
 obtain⟨od,J,hl⟩:=I.look;exact PySem.W.get_value X J (plainGet_of hg).1 (PySem.W.findObj_own hh ha rfl (by rw[hl,hv])) hv' h
theorem zk7 {pl:Sem Bool}{Q:Value×List Value->Shared->Prop}(X:K.In s.heap)(I:qL s.heap x dx C mA)(hg:plainGet K C name=true)
  (hf:findIn K (.ref C) name=some (some (.ref f))) (ht:isFn K (.ref f)=true) (hv:mA name=none) (h:Q (.ref f,[.ref x]) s):
  wpAny (model prog w) A (getMethod (.ref x) name pl) Q E s:=by
 obtain⟨od,J,hl⟩:=I.look;exact PySem.W.method_fn X J (plainGet_of hg).1 (plainGet_of hg).2 hf (beq_iff_eq.mp ht) (by show(lookIn name od).map (·.isSome)=some false;rw[hl,hv];rfl) h
theorem zpq {ns:List Str}{Q:Unit->Shared->Prop}(X:K.In s.heap)(I:qL s.heap x dx C mA)
  (hs:findIn K (.ref C) "__setattr__" =some (some (.builtin "object.__setattr__"))) (hp:plainOver K C=true) (ht:takerIn K C name=some none) (hh:hasDictIn K C=true)
  (hw:PySem.Within mA ns) (hsz:ns.length<=sizeLine)
  (h: ∀h',qL h' x dx C (λy=>if y=name then some v else mA y)->Heap.SameBut dx s.heap h'->Q () {s with heap:=h',toks:=s.toks+2}):
  wpAny (model prog w) A (setAttr (.ref x) name v) Q E s:=by
 obtain⟨od,J,hl⟩:=I.look;refine set_plain X J hs (PySem.W.osa_open (s:= {s with toks:=s.toks+1}) (r:=none) X J hp ht λb=> ?_);obtain⟨cd,hc,hd'⟩:=PySem.W.any_some hh;have hx:s.heap.get? x=some ⟨.ref C,some dx,.plain,#[]⟩:=I.obj;refine wpAny_bind (wpAny_pure (wpAny_bind (wpAny_bind (wpAny_loadPart hx (wpAny_bind (PySem.W.Looks.here (s:= {s with toks:=s.toks+1}) (looks_clsIn X hc) ?_))))));rw[hd'];refine wpAny_pure (a:=some dx) (wpAny_bind (wpAny_pure (wpAny_bind ?_)));refine wpAny_nsSet1 (s:= {s with toks:=s.toks+1}) I.ns λh' hn2 hs2=> ?_;obtain⟨oD,esD,epD,hoD,hdD,hcD⟩:=hn2.count (PySem.Within.cons name v hw);refine wpAny_bind (wpAny_lookBehind hoD (by rw[hdD];exact pastItsLine_dict (Nat.le_trans hcD (by rw[List.length_cons];omega))) ?_);exact wpAny_pure (h _ ⟨(hs2.2 _ (Ne.symm I.ne)).trans I.obj,hn2,I.ne⟩ hs2)
theorem zlE {R:Result->Shared->Prop}{vs:List Value}{kw:List (Str×Value)}(X:K.In s.heap)(hm:makesIn K C=true)
  (hi:findIn K (.ref C) "__init__" =some (some (.ref f))) (hf:typeIn K (.ref f)=some (.type "function"))
  (h:codeAny (model prog w) (A.under (.builtin "type.__call__" ⟨.ref C::vs,kw⟩)) (.call (.ref f) ⟨.ref (s.heap.objs.size+1)::vs,kw⟩) (InitBack (s.heap.objs.size+1) R)
   {s with heap:=(s.heap.push emptyDict).push (instObj C s.heap.objs.size)}):
  codeAny (model prog w) A (.call (.ref C) ⟨vs,kw⟩) R s:=by
 obtain⟨hh,g,d,t,os⟩:=s;exact PySem.W.make_core (PySem.W.makes_of X hm) (looks_findIn X hi) (λself=>bind_fn X self hf) (.inl rfl) h
end
def wH (f:Str)(v:V):List (Str×V)->List (Str×V)
 | []=> [(f,v)]
 | (g,x)::r=>if g=f then(g,v)::r else(g,x)::wH f v r
theorem zgi (f g:Str)(v:V): ∀fs:List (Str×V),(wH f v fs).lookup g=if g=f then some v else fs.lookup g
 | []=>by
  show List.lookup g [(f,v)]=_;by_cases h:g=f
  ·have hb:(g==f)=true:=beq_iff_eq.mpr h
   simp only[List.lookup,hb,if_pos h]
  ·have hb:(g==f)=false:=beq_eq_false_iff_ne.mpr h
   simp only[List.lookup,hb,if_neg h]
 | (k,x)::r=>by
  have ih:=zgi f g v r;rw[show wH f v ((k,x)::r)=(if k=f then(k,v)::r else(k,x)::wH f v r)from rfl];by_cases hk:k=f
  ·rw[if_pos hk]
   by_cases h:g=k
   ·have hb:(g==k)=true:=beq_iff_eq.mpr h
    simp only[List.lookup,hb,if_pos (h.trans hk)]
   ·have hb:(g==k)=false:=beq_eq_false_iff_ne.mpr h
    simp only[List.lookup,hb,if_neg (λe:g=f=>h (e.trans hk.symm))]
  ·rw[if_neg hk]
   by_cases h:g=k
   ·have hb:(g==k)=true:=beq_iff_eq.mpr h
    simp only[List.lookup,hb,if_neg (λe:g=f=>hk (h.symm.trans e))]
   ·have hb:(g==k)=false:=beq_eq_false_iff_ne.mpr h
    simp only[List.lookup,hb];exact ih
theorem zbt (f:Str)(v:V): ∀fs:List (Str×V),f∈(wH f v fs).map (·.1)/\∀g,g∈fs.map (·.1)->g∈(wH f v fs).map (·.1)
 | []=>⟨by simp[wH],λg h=>by simp at h⟩
 | (k,x)::r=>by
  obtain⟨i1,i2⟩:=zbt f v r;rw[show wH f v ((k,x)::r)=(if k=f then(k,v)::r else(k,x)::wH f v r)from rfl];by_cases hk:k=f
  ·rw[if_pos hk]
   subst hk;exact⟨by simp,λg h=>by simpa using h⟩
  ·rw[if_neg hk]
   refine⟨?_,λg h=> ?_⟩
   ·rw[List.map_cons]
    exact List.mem_cons_of_mem _ i1
   ·rw[List.map_cons]at h⊢
    rcases List.mem_cons.mp h with e | e
    ·exact List.mem_cons.mpr (.inl e)
    ·exact List.mem_cons_of_mem _ (i2 g e)
theorem zgc (f:Str)(v:V): ∀fs:List (Str×V),(wH f v fs).length<=fs.length+1
 | []=>by simp[wH]
 | (k,x)::r=>by
  have ih:=zgc f v r;rw[show wH f v ((k,x)::r)=(if k=f then(k,v)::r else(k,x)::wH f v r)from rfl];by_cases hk:k=f
  ·rw[if_pos hk,List.length_cons,List.length_cons];omega
  ·rw[if_neg hk,List.length_cons,List.length_cons];omega
theorem xS.some_of {v:V}{o:Option Value}(r:xS (some v) o): ∃u,o=some u/\zL v u:=by
 cases o with
 | none=>exact(show False from r).elim
 | some u=>exact⟨u,rfl,r⟩
theorem xS.none_of {o:Option Value}(r:xS none o):o=none:=by
 cases o with
 | none=>rfl
 | some u=>exact(show False from r).elim
theorem zfH {v:V}{u:Value}(r:zL v u):handedIn u=true:=by
 cases v with
 | non=>cases(show u=Value.none from r);rfl
 | bl b=>cases(show u=Value.bool b from r);rfl
 | int i=>obtain⟨t,e⟩:=(show ∃t,u=Value.int i t from r);cases e;rfl
 | str x=>obtain⟨t,e⟩:=(show ∃t,u=Value.str x t from r);cases e;rfl
 | byt b=>obtain⟨t,e⟩:=(show ∃t,u=Value.bytes b t from r);cases e;rfl
 | flt b=>obtain⟨t,e⟩:=(show ∃t,u=Value.float b t from r);cases e;rfl
 | ref a=>cases(show u=Value.ref a from r);rfl
 | ty n=>cases(show u=Value.type n from r);rfl
section
variable {P:Program} {w:World} {H H':Hp} {h h':Heap} {a C dx:Addr} {fs fs':List (Str×V)}
theorem zbl (hok:yQ P w H h)(e:H a=some (.ins C dx fs)): ∃mA,qL h a dx C mA/\(∀f,xS (fs.lookup f) (mA f))/\PySem.Within mA (fs.map (·.1))/\fs.length<=1000/\H dx=some (.own a):=by
 obtain⟨d,z,ne,ob,mA,n,r,q⟩:=(show x9 P w H h a (.ins C dx fs)from hok a _ e);exact⟨mA,⟨ob,n,ne⟩,r,q,z,d⟩
end
structure vX (K:Frag)(C:Addr):Prop where
 pg:plainGet K C Str.empty=true
 hd:hasDictIn K C=true
 po:plainOver K C=true
 sa:findIn K (.ref C) "__setattr__" =some (some (.builtin "object.__setattr__"))
theorem vX.get {K:Frag}{C:Addr}(c:vX K C)(f:Str):plainGet K C f=true:=c.pg
def wQ (K:Frag)(C:Addr)(f:Str):Prop:=findIn K (.ref C) f=some none
theorem wQ.taker {K:Frag}{C:Addr}{f:Str}(n:wQ K C f):takerIn K C f=some none:=by
 unfold takerIn;rw[show findIn K (.ref C) f=some none from n]
 rfl
structure tZ (K:Frag)(C:Addr)(m:Str)(f:Addr):Prop where
 at_:findIn K (.ref C) m=some (some (.ref f))
 fn:isFn K (.ref f)=true
 kp:keepIn K (.ref f)=true
section
variable {X:Cx} {pins:List (Addr×Obj)} {σ:St} {H:Hp} {s:Shared} {a C dx:Addr} {fs:List (Str×V)} {f:Str} {v:V} {A:Around} {E:Value->Shared->Prop}
theorem zk_ {b:Bool}{Q:Value->Shared->Prop}(I:z6 X pins σ H s)(e:H a=some (.ins C dx fs))(c:vX X.K C)(n:wQ X.K C f)(l:fs.lookup f=some v)
  (h: ∀u s',z6 X pins σ H s'->zL v u->Q u s'):wpAny (model X.prog X.w) A (getAttr (.ref a) f b) Q E s:=by
 obtain⟨mA,O,r,_,_,_⟩:=zbl I.hok e;obtain⟨u,hu,ru⟩:=xS.some_of (v:=v) (o:=mA f) (by rw[<- l];exact r f);exact zk6 I.kIn O (c.get f) c.hd n hu (zfH ru) (h u _ (I.tok _) ru)
theorem zkA {m:Str}{g:Addr}{pl:Sem Bool}{Q:Value×List Value->Shared->Prop}(I:z6 X pins σ H s)(e:H a=some (.ins C dx fs))(c:vX X.K C)(k:tZ X.K C m g)(l:fs.lookup m=none)
  (h:Q (.ref g,[.ref a]) s):wpAny (model X.prog X.w) A (getMethod (.ref a) m pl) Q E s:=by
 obtain⟨mA,O,r,_,_,_⟩:=zbl I.hok e;have hn:mA m=none:=xS.none_of (by rw[<- l];exact r m);exact zk7 I.kIn O (c.get m) k.at_ k.fn hn h
theorem zps {y:V}{u:Value}{Q:Unit->Shared->Prop}(I:z6 X pins σ H s)(e:H a=some (.ins C dx fs))(c:vX X.K C)(n:wQ X.K C f)(hl:fs.length < 1000)(ry:zL y u)
  (h: ∀s',z6 X pins σ (upd H a (.ins C dx (wH f y fs))) s'->Q () s'):wpAny (model X.prog X.w) A (setAttr (.ref a) f u) Q E s:=by
 obtain⟨mA,O,r,wi,_,ho⟩:=zbl I.hok e;have hz:(fs.map (·.1)).length<=sizeLine:=by rw[List.length_map,sizeLine_eq];omega
 refine zpq I.kIn O c.sa c.po n.taker c.hd wi hz λh' O' sb=>h _ ?_;have hd: ∃o,h'.get? dx=some o:=let⟨o,_,_,e',_⟩:=O'.ns;⟨o,e'⟩;refine I.write (x:=a) (e:=dx) (by rw[e];exact True.intro) (.inr ho) (λb q hb z=>(sb.2 b hb).trans z) hd ?_;refine⟨by rw[zU O.ne];exact ho,?_,O.ne,O'.obj,_,O'.ns,λg=> ?_,λg hg=> ?_⟩
 ·have:=zgc f y fs;omega
 ·show xS ((wH f y fs).lookup g) (if g=f then some u else mA g)
  rw[zgi];by_cases q:g=f
  ·rw[if_pos q,if_pos q];exact ry
  ·rw[if_neg q,if_neg q];exact r g
 ·by_cases q:g=f
  ·rw[q];exact(zbt f y fs).1
  ·refine(zbt f y fs).2 g (wi g λz=>hg ?_)
   show(if g=f then some u else mA g)=none;rw[if_neg q];exact z
theorem z6.made (I:z6 X pins σ H s):z6 X pins σ (upd (upd H s.heap.objs.size (.own (s.heap.objs.size+1))) (s.heap.objs.size+1) (.ins C s.heap.objs.size []))
  {s with heap:=(s.heap.push emptyDict).push (instObj C s.heap.objs.size)} :=by
 have e1:(s.heap.push emptyDict).get? s.heap.objs.size=some emptyDict:=Heap.get?_push_size s.heap rfl;have e2:((s.heap.push emptyDict).push (instObj C s.heap.objs.size)).get? (s.heap.objs.size+1)=some (instObj C s.heap.objs.size):=by
  have:=Heap.get?_push_size (s.heap.push emptyDict) (o:=instObj C s.heap.objs.size) rfl
  rwa [Heap.size_push]at this
 have e3:(s.heap.push emptyDict).Ns s.heap.objs.size (λ_=>none):=⟨emptyDict,#[],_,e1,rfl,(λe he=>absurd he (by simp)),λ_=>rfl⟩;have I1:=I.laid (a:=s.heap.objs.size) (o:= .own (s.heap.objs.size+1)) (h':=s.heap.push emptyDict) (t':=s.toks) (λb u q=>Heap.get?_push_of_some _ q) (Nat.le_refl _) ⟨_,e1⟩;refine I1.laid (a:=s.heap.objs.size+1) (o:= .ins C s.heap.objs.size []) (t':=s.toks) (λb u q=>Heap.get?_push_of_some _ q) (Nat.le_of_eq (Heap.size_push _ _)) ?_;have ne:s.heap.objs.size≠s.heap.objs.size+1:=Nat.ne_of_lt (Nat.lt_succ_self _);refine⟨by rw[zU ne,xC],Nat.zero_le _,ne,e2,λ_=>none,(Heap.Ns1.of_empty e3).at λo q=>Heap.get?_push_of_some _ q,λ_=>True.intro,λy hy=>absurd rfl hy⟩
theorem zdw {prog:Program}{w:World}{env:Env}{e:Expr}{f:Str}{pos:Pos}{s:Shared}{Q:Value->Shared->Prop}(hb:attributeBase e f env (eval e env)=eval e env)
  (h:wpAny (model prog w) A (eval e env) (λo s₁=>wpAny (model prog w) A (getAttr o f true) Q E s₁) E s):wpAny (model prog w) A (eval (.Attribute e f pos) env) Q E s:=
 Attribute_any_ h (by rw[arm_eval_Attribute,hb])
end
def zpO (K:Frag)(ta:TE)(f:Str):TE:=λσ H Q=>ta σ H λx H1=> ∃a C dx fs v,x= .ref a/\H1 a=some (.ins C dx fs)/\vX K C/\wQ K C f/\fs.lookup f=some v/\Q v H1
def zoR (K:Frag)(ta tv:TE)(f:Str):TS:=λD σ H=>tv σ H λy H1=>ta σ H1 λx H2=> ∃a C dx fs,x= .ref a/\H2 a=some (.ins C dx fs)/\vX K C/\wQ K C f/\fs.length < 1000/\
 D.nx σ (upd H2 a (.ins C dx (wH f y fs)))
section
variable {X:Cx} {o e value:Expr} {f:Str} {pos pos' tpos:Pos} {ta tv:TE}
theorem zno (he:PE X e ta)(hb:attributeBase e f X.env (eval e X.env)=eval e X.env):PE X (.Attribute e f pos) (zpO X.K ta f):=by
 constructor;intro pins s σ H Q I h;refine zdw hb (zJ (he pins s σ H _ I h) λu s1 ⟨x,H1,I1,rx,a,C,dx,fs,v,ex,ea,c,n,l,q⟩=> ?_);subst ex;obtain rfl:u=Value.ref a:=rx;exact zk_ I1 ea c n l λu' s2 I2 ru=>⟨v,H1,I2,ru,q⟩
theorem znI (ha:PE X o ta)(hv:PE X value tv)(hs:swapsWith value (some (.Attribute o f pos')) pos.line X.env=pure false):PS X (.Assign [.Attribute o f pos'] value pos) (zoR X.K ta tv f):=by
 constructor;intro pins s σ H D I h;refine plainObj_wpAny_Assign_Attribute (zJ (hv pins s σ H _ I h) λu s1 ⟨y,H1,I1,ry,q⟩=>zJ (ha pins s1 σ H1 _ I1 q) λov s2 ⟨x,H2,I2,rx,a,C,dx,fs,ex,ea,c,n,l,q2⟩=> ?_) hs;subst ex;obtain rfl:ov=Value.ref a:=rx;exact zps I2 ea c n l ry λs3 I3=>⟨σ,_,I3,q2⟩
end
structure zF (k:Nat)(A:Around):Prop where
 hd:A.handled=none
 dp:A.depth+3 * k+5 < recursionLimit
 un:A.units+16 * k+200 < cLine
theorem zF.mono {j k:Nat}{A:Around}(r:zF k A)(h:j<=k):zF j A:=⟨r.hd,by have:=r.dp;omega,by have:=r.un;omega⟩
theorem zF.deeper {k:Nat}{A:Around}(r:zF (k+1) A)(env:Env):zF k (A.deeper env):=
 ⟨r.hd,by have:=r.dp;show A.depth+1+3 * k+5 < _;omega,by have:=r.un;show A.units+3+16 * k+200 < _;omega⟩
theorem zlD {A:Around}{C:Addr}{us:List Value}{kw:List (Str×Value)} :(A.under (.builtin "type.__call__" ⟨.ref C::us,kw⟩)).depth=A.depth+1:=by
 first | rfl | simp[Around.under,Code.weight,Code.isCreation,Code.isGuard,Code.isCaller,Code.frames,Code.isFrame,guardIds]
theorem zlF {A:Around}{C:Addr}{us:List Value}{kw:List (Str×Value)} :(A.under (.builtin "type.__call__" ⟨.ref C::us,kw⟩)).units=A.units+1:=by
 first | rfl | simp[Around.under,Code.cUnits,Code.frames,Code.isFrame]
theorem zF.make {k:Nat}{A:Around}(r:zF (k+1) A)(C:Addr)(us:List Value)(kw:List (Str×Value)):zF k (A.under (.builtin "type.__call__" ⟨.ref C::us,kw⟩)):=
 ⟨r.hd,by have:=r.dp;rw[zlD];omega,by have:=r.un;rw[zlF];omega⟩
theorem zF.depth {k:Nat}{A:Around}(r:zF k A):A.depth < recursionLimit:=by have:=r.dp;omega
theorem zF.units {k:Nat}{A:Around}(r:zF k A):A.units+64 < cLine:=by have:=r.un;omega
def zhS:TA:=λ_ H Q=>Q [] H
def zpL (ta:TE)(tr:TA):TA:=λσ H Q=>ta σ H λx H1=>tr σ H1 λxs H2=>Q (x::xs) H2
section
variable {X:Cx} {e:Expr} {es:List Expr} {te:TE} {t:TA} {pos:Pos}
theorem lC:PA X [] zhS:=⟨λ_ _ _ _ H Q I h=>Calls.spliced_nil ⟨[],H,I,.nil,h⟩⟩
theorem rW (ha:PE X e te)(hr:PA X es t)(hs:starEach (e::es) X.env=(false,eval e X.env)::starEach es X.env:=by rfl):PA X (e::es) (zpL te t):=by
 constructor;intro pos pins s σ H Q I h;rw[hs];show wpAny _ _ (spliced ((false,eval e X.env)::backTo pos (starEach es X.env))) _ _ s;refine Calls.spliced_cons (zJ (ha pins s σ H _ I h) λu s1 ⟨x,H1,I1,r1,q1⟩=> ?_);exact zJ (hr pos pins s1 σ H1 _ I1 q1) λus s2 ⟨xs,H2,I2,r2,q2⟩=>⟨x::xs,H2,I2,.cons r1 r2,q2⟩
def zqf (t:TA):TE:=λσ H Q=>t σ H λxs H1=>xs.length<=sizeLine/\∀p,H1 p=none->Q (.ref p) (upd H1 p (.tup xs))
def zpT (t:TA):TE:=λσ H Q=>t σ H λxs H1=>xs.length<=sizeLine/\∀p,H1 p=none->Q (.ref p) (upd H1 p (.lst xs))
theorem znw {x1}(h:PA X es t):PE X (.Tuple es x1 pos) (zqf t):=by
 constructor;intro pins s σ H Q I hq;refine wpAny_Tuple_spliced (zJ (h pos pins s σ H _ I hq) λus s1 ⟨xs,H1,I1,r,z,q⟩=>⟨by rw[<- r.length];exact z,?_⟩);have hf:H1 s1.heap.objs.size=none:=I1.hok.fresh (Nat.le_refl _);refine⟨.ref s1.heap.objs.size,upd H1 s1.heap.objs.size (.tup xs),I1.laid (t':=s1.toks) (λb u e=>Heap.get?_push_of_some _ e) (Nat.le_refl _) ?_,rfl,q _ hf⟩;exact⟨z,us,r,⟨_,Heap.get?_push_size _ rfl,rfl,_,rfl,rfl⟩⟩
theorem zgT (h:PA X es t):PE X (.List es pos) (zpT t):=by
 constructor;intro pins s σ H Q I hq;refine wpAny_List_spliced (zJ (h pos pins s σ H _ I hq) λus s1 ⟨xs,H1,I1,r,z,q⟩=>⟨by rw[<- r.length];exact z,?_⟩);have hf:H1 s1.heap.objs.size=none:=I1.hok.fresh (Nat.le_refl _);refine⟨.ref s1.heap.objs.size,upd H1 s1.heap.objs.size (.lst xs),I1.laid (t':=s1.toks) (λb u e=>Heap.get?_push_of_some _ e) (Nat.le_refl _) ?_,rfl,q _ hf⟩;exact⟨z,us,0,r,Heap.get?_push_size _ rfl⟩
end
abbrev Sp:=List V->Hp->VK->XK->Prop
abbrev wL:=List Env->Hp->Shared->XK->Value->Shared->Prop
structure uD (P:Program)(w:World)(K:Frag)(mg:Str->Option Value)(base:Heap)(A:Around)(outer:List Env)(s:Shared)(H:Hp):Prop where
 frames:A.frames=some outer
 mod:Mod K mg base
 bs: ∀b o,base.get? b=some o->s.heap.get? b=some o/\H b=none
 bsz:base.objs.size<=s.heap.objs.size
 funs:s.heap.FunFrames base outer
 frf: ∀b∈yX outer,H b=none
 hok:yQ P w H s.heap
 bare:AllBare s.gens
def CE (outer:List Env)(P:Program)(w:World)(H:Hp)(s:Shared)(Q:VK)(u:Value)(s':Shared):Prop:=
 ∃v H',s'.os=s.os/\AllBare s'.gens/\Un (yX outer) [] H H' s.heap s'.heap/\yQ P w H' s'.heap/\zL v u/\Q v H'
def CR (CX:wL)(outer:List Env)(P:Program)(w:World)(H:Hp)(s:Shared)(Q:VK)(E:XK)(r:Result)(s':Shared):Prop:=
 match r with
 | .ok (.ret u)=>CE outer P w H s Q u s'
 | .ok _=>False
 | .error e=>CX outer H s E e s'
structure zZ (P:Program)(w:World)(K:Frag)(mg:Str->Option Value)(base:Heap)(CX:wL)(k:Nat)(f:Addr)(fd:FuncData)(ps:List Str)(sp:Sp):Prop where
 len: ∀vs H Q E,sp vs H Q E->vs.length=ps.length
 run: ∀(A:Around) (outer:List Env) (s:Shared) (H:Hp) (args:Args) (us:List Value) (vs:List V) (Q:VK) (E:XK),zF k A->uD P w K mg base A outer s H->BindsTo s fd args (ps.zip us)->zI vs us->sp vs H Q E->
  codeAny (model P w) A (.call (.ref f) args) (CR CX outer P w H s Q E) s
theorem uD.make {P:Program}{w:World}{K:Frag}{mg:Str->Option Value}{base:Heap}{A:Around}{outer:List Env}{s:Shared}{H:Hp}(e:uD P w K mg base A outer s H)(C:Addr)(us:List Value)(kw:List (Str×Value)):
  uD P w K mg base (A.under (.builtin "type.__call__" ⟨.ref C::us,kw⟩)) outer s H:=⟨by first | exact e.frames | (simpa [Around.under,Code.envs,Code.isFrame,pushEnvs]using e.frames),e.mod,e.bs,e.bsz,e.funs,e.frf,e.hok,e.bare⟩
section
variable {X:Cx} {pins:List (Addr×Obj)} {σ:St} {H:Hp} {s s':Shared}
theorem z6.env0 (I:z6 X pins σ H s):uD X.prog X.w X.K X.mg X.base X.A X.stack s H:=
 ⟨I.ok.frames,I.ok.mod,I.bs,Nat.le_trans I.ok.bsz I.sz,I.stack,I.stkFree,I.hok,I.bare⟩
theorem z6.after {Q:VK}{u:Value}(I:z6 X pins σ H s)(h:CE X.stack X.prog X.w H s Q u s'):EP X pins σ Q u s':=by
 obtain⟨v,H',os,bare,un,hok,r,q⟩:=h;obtain⟨hh,g,d,t,os'⟩:=s';obtain rfl:os'=s.os:=os;exact⟨v,H',I.call (h':=hh) (g':=g) (d':=d) (t':=t) (ch:= []) un hok bare (λb z=>absurd z (by simp)),r,q⟩
end
def zpK (sp:Sp)(dvs:List V)(E:XK)(t:TA):TE:=λσ H Q=>t σ H λvs H1=>sp (vs++dvs) H1 Q E
def zpV (C:Addr)(m:Str)(sp:Sp)(dvs:List V)(E:XK)(ta:TE)(t:TA):TE:=λσ H Q=>ta σ H λx H1=> ∃a dx fs,x= .ref a/\H1 a=some (.ins C dx fs)/\fs.lookup m=none/\
 t σ H1 λvs H2=>sp (x::(vs++dvs)) H2 Q E
def zpU (C:Addr)(sp:Sp)(dvs:List V)(E:XK)(t:TA):TE:=λσ H Q=>t σ H λvs H1=> ∀x dx,H1 x=none->H1 dx=none->dx≠x->
 sp (.ref x::(vs++dvs)) (upd (upd H1 dx (.own x)) x (.ins C dx [])) (λv H2=>v= .non/\Q (.ref x) H2) E
def zS (K:Frag)(fd:FuncData)(ps:List Str)(ds:List Value):Prop:=
 ∀(s:Shared) (us:List Value),K.In s.heap->(us++ds).length=ps.length->BindsTo s fd ⟨us,[]⟩ (ps.zip (us++ds))
theorem zS.all {K:Frag}{fd:FuncData}{ps:List Str}(h: ∀us:List Value,us.length=ps.length->bindArgs fd ⟨us,[]⟩=pure (ps.zip us)):zS K fd ps []:=λs us _ hl=>by
 rw[List.append_nil]at hl⊢
 exact .of_eq (h us hl)
def u0 (CX:wL)(X:Cx)(E:XK):Prop:= ∀(pins:List (Addr×Obj)) (σ:St) (H:Hp) (s:Shared) (e:Value) (s':Shared),z6 X pins σ H s->CX X.stack H s E e s'->X.xe e s'
section
variable {X:Cx} {CX:wL} {k:Nat} {f C:Addr} {fd:FuncData} {ps:List Str} {sp:Sp} {dvs:List V} {ds:List Value} {E:XK} {x m:Str} {p pos apos:Pos} {e o:Expr} {es:List Expr} {ta:TE} {t:TA}
theorem zhw {pins:List (Addr×Obj)}{σ:St}{H:Hp}{s:Shared}{Q:VK}{us:List Value}{vs:List V}(F:zZ X.prog X.w X.K X.mg X.base CX k f fd ps sp)(hr:zF k X.A)(hb:zS X.K fd ps ds)(hd:zI dvs ds)(hx:u0 CX X E)
  (I:z6 X pins σ H s) (r:zI vs us) (h:sp (vs++dvs) H Q E):wpAny (model X.prog X.w) X.A (call (.ref f) us) (EP X pins σ Q) X.xe s:=by
 have r2:zI (vs++dvs) (us++ds):=r.append hd;have hl:(us++ds).length=ps.length:=by rw[<- r2.length];exact F.len _ _ _ _ h
 refine wpAny_call (codeAny_mono (F.run X.A X.stack s H ⟨us,[]⟩ (us++ds) (vs++dvs) Q E hr I.env0 (hb s us I.kIn hl) r2 h) λr s' hq=> ?_);cases r with
 | error e=>exact hx pins σ H s e s' I hq
 | ok fl=>
  cases fl with
  | ret u=>exact I.after hq
  | next=>exact False.elim hq
  | brk=>exact False.elim hq
  | cont=>exact False.elim hq
theorem zgO (F:zZ X.prog X.w X.K X.mg X.base CX k f fd ps sp)(hr:zF k X.A)(hg:Gl X x)(hm:X.mg x=some (.ref f))(hk:keepIn X.K (.ref f)=true)(hb:zS X.K fd ps ds)(hd:zI dvs ds)(hx:u0 CX X E)
  (ha:PA X (e::es) t) (hdb:(x==("__debug__" :Str))=false:=by decide) (he:starEach (e::es) X.env=(false,eval e X.env)::starEach es X.env:=by rfl) (hpl:(backTo pos (starEach es X.env)).any (·.1)=false:=by rfl):
  PE X (.Call (.Name x p) (e::es) [] pos) (zpK sp dvs E t):=by
 constructor;intro pins s σ H Q I h;refine wpAny_Call_Name_kw (rP I hg hm ?_ hdb);refine callWith_K (h₀:=X.base) I.ok.mod.kin hk (zJ (ha pos pins s σ H _ I h) λus s1 ⟨vs,H1,I1,r,q⟩=>⟨I1.kIn,?_⟩) he hpl;exact zhw F hr hb hd hx I1 r q
theorem zgU {pl:Sem Bool}(he:PE X o ta)(c:vX X.K C)(hm:tZ X.K C m f)(F:zZ X.prog X.w X.K X.mg X.base CX k f fd ps sp)(hr:zF k X.A)(hb:zS X.K fd ps ds)(hd:zI dvs ds)(hx:u0 CX X E)
  (ht:eval (.Call (.Attribute o m apos) [] [] pos) X.env=(do
   let ov <- eval o X.env
   standAt apos.atName
   let(f,first) <- holding [ov] (getMethod ov m pl)
   callWith pos f first (backTo pos (starEach [] X.env)) (backToKw pos (keywordEach [] X.env))):=by rfl):
  PE X (.Call (.Attribute o m apos) [] [] pos) (zpV C m sp dvs E ta zhS):=by
 constructor;intro pins s σ H Q I h;refine PySem.W.methodCall_KW (pl:=pl) (zJ (he pins s σ H _ I h) λu s1 ⟨x,H1,I1,rx,a,dx,fs,ex,ea,l,q⟩=> ?_) ht;subst ex;obtain rfl:u=Value.ref a:=rx;refine zkA I1 ea c hm l ?_;exact PySem.W.callWith_K0 (first:= [.ref a]) I1.kIn hm.kp (zhw (us:= [.ref a]) (vs:= [.ref a]) F hr hb hd hx I1 (.cons rfl .nil) q)
structure Mk (K:Frag)(C f:Addr):Prop where
 makes:makesIn K C=true
 init:findIn K (.ref C) "__init__" =some (some (.ref f))
 fn:isFn K (.ref f)=true
 kp:keepIn K (.ref C)=true
end
structure PK (X:Cx)(kws:List Keyword)(t:TA):Prop where
 run:
  ∀(pos:Pos) (pins:List (Addr×Obj)) (s:Shared) (σ:St) (H:Hp) (Q:List V->Hp->Prop),z6 X pins σ H s->t σ H Q->wpAny (model X.prog X.w) X.A (evalAll ((backToKw pos (keywordEach kws X.env)).map (·.2))) (AP X pins σ Q) X.xe s
instance {X:Cx} {kws:List Keyword} {t:TA} :CoeFun (PK X kws t) λ_=>
 ∀(pos:Pos) (pins:List (Addr×Obj)) (s:Shared) (σ:St) (H:Hp) (Q:List V->Hp->Prop),z6 X pins σ H s->t σ H Q->wpAny (model X.prog X.w) X.A (evalAll ((backToKw pos (keywordEach kws X.env)).map (·.2))) (AP X pins σ Q) X.xe s
  :=⟨PK.run⟩
structure yB (N P:List Str)(sc:Scope):Prop where
 kind:sc.kind= .function
 co:sc.isCoroutine=false
 gen:sc.isGenerator=false
 nd:N.Nodup
 pre:N.take P.length=P
 par: ∀x∈P,sc.names.lookup x=some .local∨sc.names.lookup x=some .cell
 nofree: ∀y∈sc.names,y.2≠ .free
theorem zd3 {kindOf:Str->Option NameKind}{x:Str} : ∀{binds:List (Str×Value)} {m:Str->Option Value},(∀v,(x,v)∉binds)->bindL kindOf binds m x=m x
 | [],_,_=>rfl
 | (n,v)::r,m,h=>by
  unfold bindL;rw[zd3 λw hw=>h w (List.mem_cons_of_mem _ hw)]
  split
  ·have:x≠n:=by rintro rfl;exact h v List.mem_cons_self
   simp[this]
  ·rfl
theorem zd1 {kindOf:Str->Option NameKind}{x:Str} : ∀{binds:List (Str×Value)} {m:Str->Option Value},(∀v,(x,v)∉binds)->bindC kindOf binds m x=m x
 | [],_,_=>rfl
 | (n,v)::r,m,h=>by
  unfold bindC;rw[zd1 λw hw=>h w (List.mem_cons_of_mem _ hw)]
  split
  ·rfl
  ·have:x≠n:=by rintro rfl;exact h v List.mem_cons_self
   simp[this]
theorem zd2 {kindOf:Str->Option NameKind}{x:Str}{v:Value} : ∀{P:List Str} {vs:List Value} {i:Nat} {m:Str->Option Value},P.Nodup->P[i]?=some x->vs[i]?=some v->kindOf x=some .local->
  bindL kindOf (P.zip vs) m x=some v
 | [],_,_,_,_,h,_,_=>by simp at h
 | _::_,[],_,_,_,_,h,_=>by simp at h
 | p::P,w::vs,0,m,nd,h1,h2,hk=>by
  simp at h1 h2;subst h1;subst h2;show bindL kindOf ((p,w)::P.zip vs) m p=_;unfold bindL;rw[zd3 λv hv=>(List.nodup_cons.mp nd).1 (List.of_mem_zip hv).1,if_pos hk];simp
 | p::P,w::vs,i+1,m,nd,h1,h2,hk=>by
  show bindL kindOf ((p,w)::P.zip vs) m x=_;unfold bindL;exact zd2 (i:=i) (List.nodup_cons.mp nd).2 (by simpa using h1) (by simpa using h2) hk
theorem zd0 {kindOf:Str->Option NameKind}{x:Str}{v:Value} : ∀{P:List Str} {vs:List Value} {i:Nat} {m:Str->Option Value},P.Nodup->P[i]?=some x->vs[i]?=some v->kindOf x≠some .local->
  bindC kindOf (P.zip vs) m x=some v
 | [],_,_,_,_,h,_,_=>by simp at h
 | _::_,[],_,_,_,_,h,_=>by simp at h
 | p::P,w::vs,0,m,nd,h1,h2,hk=>by
  simp at h1 h2;subst h1;subst h2;show bindC kindOf ((p,w)::P.zip vs) m p=_;unfold bindC;rw[zd1 λv hv=>(List.nodup_cons.mp nd).1 (List.of_mem_zip hv).1,if_neg hk];simp
 | p::P,w::vs,i+1,m,nd,h1,h2,hk=>by
  show bindC kindOf ((p,w)::P.zip vs) m x=_;unfold bindC;exact zd0 (i:=i) (List.nodup_cons.mp nd).2 (by simpa using h1) (by simpa using h2) hk
def start (N:List Str)(vs:List V):St:=vs.map some++List.replicate (N.length - vs.length) none
def xT (CX:wL)(P:Program)(w:World)(K:Frag)(mg:Str->Option Value)(base:Heap)(N:List Str)(qual:Str)(scope:Scope)(f:Addr)(cd:Value)(A:Around)(outer:List Env)(s:Shared)(H:Hp)(E:XK):Cx where
 prog:=P
 w:=w
 K:=K
 mg:=mg
 base:=base
 A:=A.deeper (envOfC qual scope s.heap.objs.size f cd)
 N:=N
 s₀:=s
 H₀:=H
 env:=envOfC qual scope s.heap.objs.size f cd
 outer:=outer
 stack:=envOfC qual scope s.heap.objs.size f cd::outer
 ex:= []
 calm:=true
 fn:=λ_=>true
 pn:= []
 xe:=λe s'=>wpAny (model P w) (A.deeper (envOfC qual scope s.heap.objs.size f cd)) (leaving (envOfC qual scope s.heap.objs.size f cd) e) (λ_ s''=>CX outer H s E e s'') (λe' s''=>CX outer H s E e' s'') s'
theorem zdC {sc:Scope}{n:Nat}{x:Str}(h:sc.names.lookup x=some .cell): ∃c,(cellsFrom n sc.names []).lookup x=some c:=by
 have q:=cellsFrom_some sc.names n [] (.inl h);exact Option.isSome_iff_exists.mp q
theorem zfO {CX:wL}{P:Program}{w:World}{K:Frag}{mg:Str->Option Value}{base:Heap}{N ps:List Str}{qual:Str}{scope:Scope}{f:Addr}{cd:Value}{A:Around}{outer:List Env}{s s1:Shared}{H:Hp}{E:XK}{us:List Value}{vs:List V}
  (S:yB N ps scope) (hd:A.handled=none) (e0:uD P w K mg base A outer s H) (hl:vs.length=ps.length) (r:zI vs us)
  (x:InCallC s s.heap.objs.size (bindL (envOfC qual scope s.heap.objs.size f cd).kindOf (ps.zip us) λ_=>none) (cellsFrom (s.heap.objs.size+1) scope.names []) (bindC (envOfC qual scope s.heap.objs.size f cd).kindOf (ps.zip us) λ_=>none) s1):
  z6 (xT CX P w K mg base N qual scope f cd A outer s H E) [] (start N vs) H s1:=by
 have hpl:ps.length<=N.length:=by have:=congrArg List.length S.pre;rw[List.length_take]at this;omega
 obtain⟨h1,tk,rfl,hk⟩:=x.done;have noA: ∀b:Addr,b∉(xT CX P w K mg base N qual scope f cd A outer s H E).ex:=λb z=>absurd (show b∈([]:List Addr)from z) (by simp);refine⟨⟨e0.mod,S.kind,rfl,rfl,Nat.le_refl _,λy z c h1 h2=> ?_,λy hy=> ?_,λy c _ h=> ?_,λ_=>hd,Around.frames_deeper e0.frames,.inr ⟨rfl,rfl⟩,λb z=>absurd z (noA b),e0.bs,e0.bsz,λb _ _=>noA b,λb z=>absurd z (noA b),e0.funs,e0.frf⟩,
  rfl,e0.bare,Un.kept hk,⟨_,x.toInCall.ns,λi y v h1 h2 h3=> ?_⟩,λy c h=>⟨_,x.cell y c h⟩,e0.hok.fresh (Nat.le_refl _),λy c h=> ?_,λp hp=>absurd (show p∈([]:List (Addr×Obj))from hp) (by simp),e0.hok.kept hk,?_⟩
 ·exact name_of_addr x.apart (PySem.mem_of_lookup h1) (PySem.mem_of_lookup h2)
 ·have hy:scope.names.lookup y=some .cell∨scope.names.lookup y=some .free:=hy
  rcases hy with hy | hy
  ·exact zdC hy
  ·exact absurd rfl (S.nofree _ (PySem.mem_of_lookup hy))
 ·exact Nat.le_of_lt (x.above y c (PySem.mem_of_lookup h))
 ·have hi:i < vs.length:=by
   unfold start at h2;by_cases hi:i < vs.length
   ·exact hi
   ·rw[List.getElem?_append_right (by simpa using hi)]at h2
    rw[List.getElem?_replicate]at h2
    split at h2 <;> cases h2
  have ha:vs[i]?=some v:=by
   unfold start at h2;rw[List.getElem?_append_left (by simpa using hi),List.getElem?_map]at h2;cases e:vs[i]? with
   | none=>rw[e]at h2;cases h2
   | some a=>rw[e]at h2;cases h2;rfl
  obtain⟨u,hu,rv⟩:=r.get ha;have hp:ps[i]?=some y:=by
   rw[<- S.pre,List.getElem?_take_of_lt (by omega)];exact h1
  have ndP:ps.Nodup:=by rw[<- S.pre];exact S.nd.sublist (List.take_sublist _ _)
  refine⟨u,rv,?_⟩;rcases S.par y (List.mem_of_getElem? hp)with k | k
  ·exact .inl ⟨k,zd2 ndP hp hu k⟩
  ·obtain⟨c,e⟩:=zdC (n:=s.heap.objs.size+1) k
   refine .inr ⟨.inl k,c,e,?_⟩;have q:=x.cell y c e;rw[zd0 ndP hp hu (by show scope.names.lookup y≠_;rw[k];decide)]at q;exact q
 ·exact e0.hok.fresh (Nat.le_of_lt (x.above y c (PySem.mem_of_lookup h)))
 ·unfold start
  show _=N.length;rw[List.length_append,List.length_map,List.length_replicate];omega
theorem zfG {CX:wL}{P:Program}{w:World}{K:Frag}{mg:Str->Option Value}{base:Heap}{k:Nat}{f:Addr}{name qual:Str}{params:Arguments}{body:List Stmt}{scope:Scope}{dV kV doc pm cdv ct oc:Value}{an od:Option Addr}
  {osl:Array (Option Value)} {N ps:List Str} {sp:Sp} (lk:K.lookup f=some ⟨oc,od,.func (fnOf name qual params body scope dV kV doc pm an cdv ct),osl⟩) (hcd:codeIn K cdv qual=true) (S:yB N ps scope)
  (len: ∀vs H Q E,sp vs H Q E->vs.length=ps.length)
  (hbody: ∀(A:Around) (outer:List Env) (s:Shared) (H:Hp) (vs:List V) (Q:VK) (E:XK),zF k (A.deeper (envOfC qual scope s.heap.objs.size f cdv))->sp vs H Q E->
   ∃t,yI (xT CX P w K mg base N qual scope f cdv A outer s H E) body t/\t {nx:=λ_ H'=>Q .non H',rt:=Q} (start N vs) H):
  zZ P w K mg base CX (k+1) f (fnOf name qual params body scope dV kV doc pm an cdv ct) ps sp:=by
 refine⟨len,λA outer s H args us vs Q E hr e0 hb r hsp=> ?_⟩;have hl:=len _ _ _ _ hsp;have KX:K.In s.heap:=e0.mod.kin.keeps λb o e=>(e0.bs b o e).1;have lim:s.heap.NoLimit:=e0.mod.nolimit.keeps λb o e=>(e0.bs b o e).1;have hkind: ∀y∈ps.zip us,scope.names.lookup y.1=some .local∨(scope.names.lookup y.1=some .cell/\((cellsFrom (s.heap.objs.size+1) scope.names []).lookup y.1).isSome=true):=λ⟨n,v⟩ hy=>by
  rcases S.par n (List.of_mem_zip hy).1 with q | q
  ·exact .inl q
  ·exact .inr ⟨q,cellsFrom_some _ _ _ (.inl q)⟩
 refine codeAny_call_function hr.depth (KX _ _ lk) rfl S.co S.gen rfl (codeRec_of KX hcd) (hb _ _ _ _ ?_);refine wpAny_newFunctionEnv_cells S.kind hkind λenv he s1 x=> ?_;subst he;refine⟨lim.keeps x.toInCall.keep,codeAny_func ?_⟩;obtain⟨t,ht,hq⟩:=hbody A outer s H vs Q E (hr.deeper _) hsp;have I:z6 (xT CX P w K mg base N qual scope f cdv A outer s H E) [] (start N vs) H s1:=zfO S hr.hd e0 hl r x;refine wpAny_mono (ht [] s1 (start N vs) H _ I hq) (λfl s' hs=> ?_) λe s' hs=>hs;have fin: ∀{σ':St} {H':Hp} {v:V} {u:Value},z6 (xT CX P w K mg base N qual scope f cdv A outer s H E) [] σ' H' s'->zL v u->Q v H'->CE outer P w H s Q u s':=
  λ{σ' H' v u} J rv q=>⟨v,H',J.os,J.bare,J.base,J.hok,rv,q⟩
 cases fl with
 | ret u=>
  obtain⟨v,σ',H',J,rv,q⟩:=hs;exact fin J rv q
 | next=>
  obtain⟨σ',H',J,q⟩:=hs;exact fin (v:=V.non) (u:=Value.none) J rfl q
 | brk=>
  obtain⟨_,_,_,q⟩:=hs;exact False.elim q
 | cont=>
  obtain⟨_,_,_,q⟩:=hs;exact False.elim q
section
variable {X:Cx} {x:Str} {p pos:Pos} {e:Expr} {es:List Expr} {t:TA} {id T:String} {r:List V->Hp->VK->Prop}
def tCB (r:List V->Hp->VK->Prop)(t:TA):TE:=λσ H Q=>t σ H λvs H1=>r vs H1 Q
theorem zbF (hc:xK X (.builtin id) r)(hg:Gl X x)(hm:X.mg x=none)(hv:bootBuiltins x=some (.builtin id))(ha:PA X (e::es) t)(hn:x≠ "__name__" :=by decide)(hdb:(x==("__debug__" :Str))=false:=by decide)
  (he:starEach (e::es) X.env=(false,eval e X.env)::starEach es X.env:=by rfl) (hpl:(backTo pos (starEach es X.env)).any (·.1)=false:=by rfl):PE X (.Call (.Name x p) (e::es) [] pos) (tCB r t):=by
 constructor;intro pins s σ H Q I h;refine wpAny_Call_Name_kw (jG I hg hm hv ?_ hn hdb);exact PyProof.Rows.callWith_builtin1 (zJ (ha pos pins s σ H _ I h) λus s1 ⟨vs,H1,I1,r1,q1⟩=>hc pins s1 σ H1 vs us Q I1 r1 q1) he hpl
theorem znj (hc:xK X (.type T) r)(hg:Gl X x)(hm:X.mg x=none)(hv:bootBuiltins x=some (.type T))(ha:PA X (e::es) t)(hn:x≠ "__name__" :=by decide)(hdb:(x==("__debug__" :Str))=false:=by decide)
  (he:starEach (e::es) X.env=(false,eval e X.env)::starEach es X.env:=by rfl) (hpl:(backTo pos (starEach es X.env)).any (·.1)=false:=by rfl):PE X (.Call (.Name x p) (e::es) [] pos) (tCB r t):=by
 constructor;intro pins s σ H Q I h;refine wpAny_Call_Name_kw (jG I hg hm hv ?_ hn hdb);exact callWith_type1 (zJ (ha pos pins s σ H _ I h) λus s1 ⟨vs,H1,I1,r1,q1⟩=>hc pins s1 σ H1 vs us Q I1 r1 q1) he hpl
end
end L2
namespace HT
open PySem PyProof.Rows
section
variable {prog:Program} {w:World} {A:Around} {E:Value->Shared->Prop} {s:Shared}
theorem cat_tup {t b:Addr}{vs ws:List Value}{Q:Value->Shared->Prop}(ht:IsTup s.heap t vs.toArray)(hb:IsTup s.heap b ws.toArray)(hv:vs≠ [])
  (h1:ws= []->Q (.ref t) s) (h2:ws≠ []->Q (.ref s.heap.objs.size) {s with heap:=s.heap.push {cls:= .type "tuple",data:= .seq (vs++ws).toArray}})
  (hsz:vs.length+ws.length<=sizeLine):wpAny (model prog w) A (binaryOp .Add (.ref t) (.ref b)) Q E s:=by
 obtain⟨⟨cls,dd,data,sl⟩,ho,hc,n,hd⟩:=id ht;obtain⟨⟨cls2,dd2,data2,sl2⟩,ho2,hc2,n2,hd2⟩:=id hb;simp only at hc hd hc2 hd2;subst hc hd hc2 hd2;have e:vs.toArray++ws.toArray=(vs++ws).toArray:=by simp
 by_cases hw:ws= []
 ·exact concat_meets ⟨_,ho,rfl⟩ ⟨_,ho2,rfl⟩ noFill_tuple_add seq_tuple_add PySem.F.slot_tuple_add PySem.F.entry_tuple_add (PySem.F.args_tuple_add_2 _ _)
   (tuple_addW1 t b vs.toArray ws.toArray n n2 dd dd2 sl sl2 (by simpa using hv) (by simp[hw])) ⟨ho,ho2,h1 hw⟩
 ·refine concat_meets ⟨_,ho,rfl⟩ ⟨_,ho2,rfl⟩ noFill_tuple_add seq_tuple_add PySem.F.slot_tuple_add PySem.F.entry_tuple_add (PySem.F.args_tuple_add_2 _ _)
   (tuple_addW2 t b vs.toArray ws.toArray n n2 dd dd2 sl sl2 (by simpa using hv) (by simpa using hw) (by rw[List.size_toArray,List.size_toArray];exact hsz)) ⟨ho,ho2,?_⟩
  rw[e];exact h2 hw
def sIx (n d:Nat):Option Int->Nat
 | none=>d
 | some v=>if v < 0 then(v+(n:Int)).toNat else min v.toNat n
theorem sIx_none (n d:Nat):sIx n d none=d:=rfl
theorem sIx_nat (n d k:Nat):sIx n d (some (k:Int))=min k n:=by
 show(if(k:Int) < 0 then((k:Int)+(n:Int)).toNat else min (k:Int).toNat n)=min k n;rw[if_neg (by omega),Int.toNat_natCast]
theorem zoT (n d:Nat)(hd:d<=n)(o:Option Int):sIx n d o<=n:=by
 cases o with
 | none=>exact hd
 | some v=>
  show(if v < 0 then(v+(n:Int)).toNat else min v.toNat n)<=n;by_cases hv:v < 0
  ·rw[if_pos hv];omega
  ·rw[if_neg hv];exact Nat.min_le_right _ _
theorem zdJ (v:Int)(n d:Nat):(if v < 0 then max (v+(n:Int)) 0 else min v (n:Int))=((sIx n d (some v):Nat):Int):=by
 show(if v < 0 then max (v+(n:Int)) 0 else min v (n:Int))=(((if v < 0 then(v+(n:Int)).toNat else min v.toNat n):Nat):Int);by_cases hv:v < 0
 ·simp only[if_pos hv];omega
 ·simp only[if_neg hv];omega
theorem zjd (lo hi:Option Int)(n:Nat):Builtin.Slice.sliceAdjust lo hi 1 (n:Int)=(((sIx n 0 lo:Nat):Int),((sIx n n hi:Nat):Int)):=by
 have h1: ¬ ((1:Int) < 0):=by omega
 unfold Builtin.Slice.sliceAdjust;simp only[h1,if_false];refine Prod.ext ?_ ?_
 ·cases lo with
  | none=>rfl
  | some v=>exact zdJ v n 0
 ·cases hi with
  | none=>rfl
  | some v=>exact zdJ v n n
theorem zn9 (i j:Nat):Builtin.Slice.slicePlaces (i:Int) (j:Int) 1=j - i:=by
 unfold Builtin.Slice.slicePlaces;have h1:(1:Int) > 0:=by omega
 simp only[h1,if_true,Int.ediv_one]
 split <;> omega
theorem zh9 {v:Value}{o:Option Int}{Q:Option Int->Shared->Prop}(p:IsPart v o)(h:Q o s):wpAny (model prog w) A (Builtin.Slice.slicePartIndex v) Q E s:=by
 cases p with
 | none=>exact slicePart_none h
 | int i t=>exact slicePart_int h
theorem sliceApplied_gen {sl:Addr}{vl vu:Value}{lo hi:Option Int}{n:Nat}{Q:Int×Int×Nat->Shared->Prop}(hs:s.heap.IsSliceOf sl vl vu .none)(pl:IsPart vl lo)(pu:IsPart vu hi)
  (h:Q (((sIx n 0 lo:Nat):Int),1,sIx n n hi - sIx n 0 lo) s):wpAny (model prog w) A (Builtin.Slice.sliceApplied (.ref sl) (pure (n:Int))) Q E s:=by
 obtain⟨os,hos,hcs,hds⟩:=id hs;unfold Builtin.Slice.sliceApplied Builtin.Slice.sliceFields;refine wpAny_bind (wpAny_bind (wpAny_field hos hds (x:=vl) rfl (wpAny_bind (wpAny_field hos hds (x:=vu) rfl (wpAny_bind (wpAny_field hos hds (x:= .none) rfl (wpAny_pure ?_)))))));refine wpAny_bind (slicePart_none ?_);show wpAny _ _ (if((1:Int)==0)=true then _ else _) _ _ s;rw[if_neg (by decide)];refine wpAny_bind (zh9 pl (wpAny_bind (zh9 pu (wpAny_bind (wpAny_pure ?_)))));show wpAny _ _ (match Builtin.Slice.sliceAdjust lo hi 1 (n:Int)with | (lo,hi)=>pure (lo,(1:Int),Builtin.Slice.slicePlaces lo hi 1)) _ _ s;rw[zjd lo hi n];show wpAny _ _ (pure (((sIx n 0 lo:Nat):Int),(1:Int),Builtin.Slice.slicePlaces ((sIx n 0 lo:Nat):Int) ((sIx n n hi:Nat):Int) 1)) _ _ s;rw[zn9];exact wpAny_pure h
theorem zn7 (xs:Array Value)(i k:Nat):((List.range k).filterMap λ(m:Nat)=>xs[((i:Int)+(m:Int) * 1).toNat]?).toArray=((xs.toList.drop i).take k).toArray:=by
 have e:(λ(m:Nat)=>xs[((i:Int)+(m:Int) * 1).toNat]?)=λm=>xs[i+m]?:=by
  funext m
  have:((i:Int)+(m:Int) * 1).toNat=i+m:=by omega
  rw[this]
 rw[e];have:=pick_run xs i k;rw[List.filterMap_map]at this;have e2:((λx=>xs[x]?) ∘ λx=>i+x)=λm=>xs[i+m]?:=rfl;rw[e2]at this;rw[this]
theorem getItem_tuple_cut {t sl:Addr}{items:Array Value}{vl vu:Value}{lo hi:Option Int}{Q:Value->Shared->Prop}(ht:IsTup s.heap t items)(hs:s.heap.IsSliceOf sl vl vu .none)(pl:IsPart vl lo)(pu:IsPart vu hi)
  (hw: ¬ (sIx items.size 0 lo=0/\sIx items.size items.size hi=items.size))
  (h:Q (.ref s.heap.objs.size) {s with heap:=s.heap.push {cls:= .type "tuple",data:= .seq ((items.toList.drop (sIx items.size 0 lo)).take (sIx items.size items.size hi - sIx items.size 0 lo)).toArray}})
  (hsz:items.size<=sizeLine):wpAny (model prog w) A (getItem (.ref t) (.ref sl)) Q E s:=by
 have htake:sizeOk (.seq ((items.toList.drop (sIx items.size 0 lo)).take (sIx items.size items.size hi - sIx items.size 0 lo)).toArray):=by
  show((items.toList.drop (sIx items.size 0 lo)).take (sIx items.size items.size hi - sIx items.size 0 lo)).toArray.size<=sizeLine;rw[List.size_toArray,List.length_take,List.length_drop,Array.length_toList];omega
 have hj:sIx items.size items.size hi<=items.size:=zoT _ _ (Nat.le_refl _) hi;obtain⟨os,hos,hcs,hds⟩:=id hs;have hTs:s.TypeIs (.ref sl) "slice" :=⟨os,hos,hcs⟩;unfold getItem
 try with_reducible refine wpAny_holding ?_
 first | refine wpAny_bind (wpAny_pure ?_) | skip
 refine wpAny_bind (wpAny_sequenceKey ht.typeIs (by decide) ?_);refine wpAny_bind (wpAny_callSpecial?_slot (name:=Str.ofString "__getitem__") ht.typeIs PyProof.Rows.slot_tuple_getitem
  (wpAny_call_entry PyProof.Rows.slot_tuple_getitem ht.typeIs entry_tuple_getitem ?_ (args_tuple_getitem _ _)))
 show wpAny _ _ (Builtin.Tuple.tupleItemsOf (.ref t) >>= _) _ _ s;refine wpAny_bind (tupleItemsOf_ ht ?_);refine wpAny_bind (wpAny_typeOf hTs ?_);rw[if_pos (by decide)];refine wpAny_bind (sliceApplied_gen hs pl pu ?_);have hno: ¬ ((((sIx items.size 0 lo:Nat):Int)==0&&(1:Int)==1&&(sIx items.size items.size hi - sIx items.size 0 lo)==items.size)=true):=by
  intro q;rw[Bool.and_eq_true,Bool.and_eq_true]at q;have q1:((sIx items.size 0 lo:Nat):Int)=0:=eq_of_beq q.1.1;have q2:sIx items.size items.size hi - sIx items.size 0 lo=items.size:=eq_of_beq q.2;exact hw ⟨by omega,by omega⟩
 show wpAny _ _ (if(((sIx items.size 0 lo:Nat):Int)==0&&(1:Int)==1&&(sIx items.size items.size hi - sIx items.size 0 lo)==items.size)=true then _ else _) _ _ s;rw[if_neg hno,zn7]
 first
  | exact wpAny_bind (m:=Builtin.Tuple.tupleExact _) (wpAny_newObj_type (wpAny_pure ⟨_,rfl,wpAny_pure h⟩) htake)
  | exact wpAny_bind (m:=Builtin.Tuple.tupleExact _) (wpAny_newObj_type (wpAny_bind (wpAny_pure (wpAny_pure ⟨_,rfl,wpAny_pure h⟩))) htake)
  | exact wpAny_bind (wpAny_bind (m:=Builtin.Tuple.tupleExact _) (wpAny_newObj_type (wpAny_pure (wpAny_pure ⟨_,rfl,wpAny_pure h⟩)) htake))
  | exact wpAny_bind (wpAny_bind (m:=Builtin.Tuple.tupleExact _) (wpAny_newObj_type (wpAny_pure ⟨_,rfl,wpAny_pure h⟩) htake))
end
end HT
namespace L2
open PySem PySem.Spec PyProof.Rows
abbrev TO:=St->Hp->(Option Int->Hp->Prop)->Prop
structure PO (X:Cx)(e:Option Expr)(t:TO):Prop where
 run:
  ∀(pins:List (Addr×Obj)) (s:Shared) (σ:St) (H:Hp) (Q:Option Int->Hp->Prop),z6 X pins σ H s->t σ H Q->
   wpAny (model X.prog X.w) X.A (evalPart e X.env) (λu s'=> ∃o H',z6 X pins σ H' s'/\IsPart u o/\Q o H') X.xe s
instance {X:Cx} {e:Option Expr} {t:TO} :CoeFun (PO X e t) λ_=>
 ∀(pins:List (Addr×Obj)) (s:Shared) (σ:St) (H:Hp) (Q:Option Int->Hp->Prop),z6 X pins σ H s->t σ H Q->
  wpAny (model X.prog X.w) X.A (evalPart e X.env) (λu s'=> ∃o H',z6 X pins σ H' s'/\IsPart u o/\Q o H') X.xe s
  :=⟨PO.run⟩
def zpY:TO:=λ_ H Q=>Q none H
def zqb (t:TE):TO:=λσ H Q=>t σ H λx H1=> ∃i,x= .int i/\Q (some i) H1
section
variable {X:Cx} {e:Expr} {te:TE} {lo hi:Option Expr} {tl th:TO} {pos p2:Pos}
theorem znA:PO X none zpY:=by
 constructor;intro pins s σ H Q I h;rw[evalPart_none];exact wpAny_pure ⟨none,H,I,.none,h⟩
theorem znB (h:PE X e te):PO X (some e) (zqb te):=by
 constructor;intro pins s σ H Q I hw;rw[evalPart_some];refine zJ (h pins s σ H _ I hw) λu s1 ⟨x,H1,I1,r1,q1⟩=> ?_;obtain⟨i,rfl,q⟩:=q1;obtain⟨t,rfl⟩:=r1;exact⟨some i,H1,I1,.int i t,q⟩
def mB (X:Cx)(r:V->Option Int->Option Int->Hp->VK->Prop):Prop:=
 ∀(pins:List (Addr×Obj)) (s:Shared) (σ:St) (H:Hp) (x:V) (v vl vu:Value) (lo hi:Option Int) (sl:Addr) (Q:VK),z6 X pins σ H s->zL x v->s.heap.IsSliceOf sl vl vu .none->IsPart vl lo->IsPart vu hi->r x lo hi H Q->
  ∃T id,typeLookup (.type T) "__getitem__" =pure (some (.builtin id))/\s.TypeIs v T/\wpAny (model X.prog X.w) X.A (getItem v (.ref sl)) (EP X pins σ Q) X.xe s
def tSl (r:V->Option Int->Option Int->Hp->VK->Prop)(te:TE)(tl th:TO):TE:=λσ H Q=>te σ H λx H1=>tl σ H1 λl H2=>th σ H2 λu H3=>r x l u H3 Q
theorem znv {r:V->Option Int->Option Int->Hp->VK->Prop}(hr:mB X r)(he:PE X e te)(hl:PO X lo tl)(hu:PO X hi th):PE X (.Subscript e (.Slice lo hi none p2) pos) (tSl r te tl th):=by
 constructor;intro pins s σ H Q I h;refine Subscript_ (zJ (he pins s σ H _ I h) λv s1 ⟨x,H1,I1,r1,q1⟩=> ?_);refine wpAny_Slice (zJ (hl pins s1 σ H1 _ I1 q1) λvl s2 ⟨l,H2,I2,pl,q2⟩=>zJ (hu pins s2 σ H2 _ I2 q2) λvu s3 ⟨u,H3,I3,pu,q3⟩=> ?_);rw[evalPart_none];refine wpAny_pure ?_;have I4:z6 X pins σ H3 {s3 with heap:=s3.heap.push {cls:= .type "slice",data:= .fields #[vl,vu,.none]}} :=I3.kept (t':=s3.toks) λb ob q=>Heap.get?_push_of_some _ q;obtain⟨T,id,hT,ht,hg⟩:=hr pins {s3 with heap:=s3.heap.push {cls:= .type "slice",data:= .fields #[vl,vu,.none]}} σ H3 x v vl vu l u s3.heap.objs.size Q I4 r1 (Heap.IsSliceOf.new ..) pl pu q3;show wpAny (model X.prog X.w) X.A (subscriptTail e (.Slice lo hi none p2) v (.ref s3.heap.objs.size)) (EP X pins σ Q) X.xe {s3 with heap:=s3.heap.push {cls:= .type "slice",data:= .fields #[vl,vu,.none]}};exact tail_any (ops:= [.ref s3.heap.objs.size,v]) ht hT hg (by with_unfolding_all rfl)
def rE (xs:List V)(lo hi:Option Int):List V:=(xs.drop (HT.sIx xs.length 0 lo)).take (HT.sIx xs.length xs.length hi - HT.sIx xs.length 0 lo)
theorem j0 (xs:List V)(lo hi:Option Int):(rE xs lo hi).length<=xs.length:=by
 unfold rE;rw[List.length_take,List.length_drop];omega
def zoF (K:Frag):V->Option Int->Option Int->Hp->VK->Prop:=λx lo hi H Q=> ∃a xs,x= .ref a/\xQ K H a xs/\
 ¬ (HT.sIx xs.length 0 lo=0/\HT.sIx xs.length xs.length hi=xs.length)/\∀p,H p=none->Q (.ref p) (upd H p (.tup (rE xs lo hi)))
theorem zpw:mB X (zoF X.K):=by
 intro pins s σ H x v vl vu lo hi sl Q I rx hs pl pu h;obtain⟨a,xs,rfl,hx,hw,q⟩:=h;cases rx;obtain⟨its,r,ht,hz⟩:=I.tuple hx;have hlen:its.toArray.size=xs.length:=by rw[List.size_toArray];exact r.length.symm
 refine⟨"tuple",_,PyProof.Rows.slot_tuple_getitem.lookup,ht.typeIs,?_⟩;refine HT.getItem_tuple_cut ht hs pl pu (by rw[hlen];exact hw) ?_ (by rw[hlen];exact hz);rw[hlen];refine⟨.ref s.heap.objs.size,_,I.laid (t':=s.toks) (o:= .tup (rE xs lo hi)) (λb ob q=>Heap.get?_push_of_some _ q) (Nat.le_refl _) ?_,rfl,q _ (I.hok.fresh (Nat.le_refl _))⟩;exact⟨Nat.le_trans (j0 xs lo hi) hz,_,(r.drop (HT.sIx xs.length 0 lo)).take (HT.sIx xs.length xs.length hi - HT.sIx xs.length 0 lo),tD.new _ _⟩
def zoz (K:Frag):R2:=λx y H Q=> ∃a b xs ys,x= .ref a/\y= .ref b/\xQ K H a xs/\xQ K H b ys/\xs≠ []/\xs.length+ys.length<=sizeLine/\
 (ys= []->Q (.ref a) H)/\(ys≠ []->∀p,H p=none->Q (.ref p) (upd H p (.tup (xs++ys))))
theorem zI.nil_iff {xs:List V}{us:List Value}(r:zI xs us):us= []↔xs= []:=by
 cases r with
 | nil=>simp
 | cons _ _=>simp
theorem zmK:y1 X (binaryOp .Add) (zoz X.K):=by
 intro pins s σ H x y v u Q I rx ry h;obtain⟨a,b,xs,ys,rfl,rfl,ha,hb,hx,hz,q1,q2⟩:=h;cases rx;cases ry;obtain⟨its,r1,p1,_⟩:=I.tuple ha;obtain⟨its2,r2,p2,_⟩:=I.tuple hb;refine HT.cat_tup p1 p2 (λz=>hx (r1.nil_iff.mp z)) (λz=>⟨.ref a,H,I,rfl,q1 (r2.nil_iff.mp z)⟩) (λz=> ?_) (by rw[<- r1.length,<- r2.length];exact hz);refine⟨.ref s.heap.objs.size,_,I.laid (t':=s.toks) (o:= .tup (xs++ys)) (λb ob q=>Heap.get?_push_of_some _ q) (Nat.le_refl _) ?_,rfl,q2 (λw=>z (r2.nil_iff.mpr w)) _ (I.hok.fresh (Nat.le_refl _))⟩;exact⟨by rw[List.length_append];exact hz,_,r1.append r2,tD.new _ _⟩
end
def wN (n:Nat)(i:Int):Option Nat:=if 0<=i then(if i < n then some i.toNat else none)else if -(n:Int)<=i then some (i+n).toNat else none
def atI {α:Type}(xs:List α)(i:Int):Option α:=(wN xs.length i).bind λj=>xs[j]?
theorem zfS {n:Nat}{i:Int}{j:Nat}(h:wN n i=some j):seqIndex? i n=some j/\j < n/\ -(n:Int)<=i/\i < n:=by
 unfold wN at h;by_cases h0:0<=i
 ·rw[if_pos h0]at h
  by_cases h1:i < n
  ·rw[if_pos h1]at h
   have e:i.toNat=j:=Option.some.inj h;exact⟨by rw[seqIndex_of h0 h1,e],by omega,by omega,h1⟩
  ·rw[if_neg h1]at h;cases h
 ·rw[if_neg h0]at h
  by_cases h1: -(n:Int)<=i
  ·rw[if_pos h1]at h
   have e:(i+n).toNat=j:=Option.some.inj h;exact⟨by rw[seqIndex_neg (by omega) h1,e],by omega,h1,by omega⟩
  ·rw[if_neg h1]at h;cases h
theorem f8 {α:Type}{xs:List α}{i:Int}{v:α}(h:atI xs i=some v): ∃j,seqIndex? i xs.length=some j/\xs[j]?=some v/\j < xs.length/\ -(xs.length:Int)<=i/\i < xs.length:=by
 unfold atI at h;cases e:wN xs.length i with
 | none=>rw[e]at h;cases h
 | some j=>
  rw[e]at h;obtain⟨h1,h2,h3,h4⟩:=zfS e;exact⟨j,h1,h,h2,h3,h4⟩
theorem sC {α:Type}{xs:List α}{j:Nat}{v:α}(h:xs[j]?=some v):atI xs (j:Int)=some v:=by
 have hj:j < xs.length:=(List.getElem?_eq_some_iff.mp h).1;have e:wN xs.length (j:Int)=some j:=by
  unfold wN;rw[if_pos (by omega),if_pos (by omega)];simp
 unfold atI;rw[e];exact h
def zdo (b:Expr):Prop:= ∀o i,subscripted b false o i=operate [o,i] (getItem o i)
def qK (X:Cx)(r:R2):Prop:=
 ∀(value slice:Expr) (pins:List (Addr×Obj)) (s:Shared) (σ:St) (H:Hp) (x y:V) (v u:Value) (Q:VK),z6 X pins σ H s->zL x v->zL y u->r x y H Q->
  subscripted slice false v u=operate [v,u] (getItem v u)->wpAny (model X.prog X.w) X.A (subscriptTail value slice v u) (EP X pins σ Q) X.xe s
def uR (X:Cx)(id:String)(r:V->List V->Hp->VK->Prop):Prop:=
 ∀(pins:List (Addr×Obj)) (s:Shared) (σ:St) (H:Hp) (x:V) (xs:List V) (v:Value) (us:List Value) (Q:VK),z6 X pins σ H s->zL x v->zI xs us->r x xs H Q->
  wpAny (model X.prog X.w) X.A (call (.builtin id) (v::us)) (EP X pins σ Q) X.xe s
section
variable {X:Cx} {a b:Expr} {ta tb:TE} {pos:Pos}
theorem znr {r:R2}(hr:qK X r)(ha:PE X a ta)(hb:PE X b tb)(hs:zdo b):PE X (.Subscript a b pos) (nN r ta tb):=by
 constructor;intro pins s σ H Q I h;exact Subscript_ (fJ ha hb I h λv u s2 x y H2 I2 rx ry q=>hr a b pins s2 σ H2 x y v u Q I2 rx ry q (hs _ _))
def zo4 (K:Frag):R2:=λx y H Q=> ∃p xs i v,x= .ref p/\y= .int i/\yS K H p xs/\atI xs i=some v/\Q v H
def zo7 (K:Frag):R2:=λx y H Q=> ∃p xs i v,x= .ref p/\y= .int i/\xQ K H p xs/\atI xs i=some v/\Q v H
def zo6:R2:=λx y H Q=> ∃z i c,x= .str z/\y= .int i/\z.length<=sizeLine/\atI z.cps.toList i=some c/\Q (.str ⟨#[c]⟩) H
theorem zfU:qK X (zo4 X.K):=by
 intro value slice pins s σ H x y v u Q I rx ry h hs;obtain⟨p,xs,i,z,rfl,rfl,hq,he,q⟩:=h;cases rx;obtain⟨t,rfl⟩:=ry;obtain⟨its,r,pl,hz⟩:=I.list hq;obtain⟨j,h1,h2,h3,h4,h5⟩:=f8 he;obtain⟨w,ew,rw'⟩:=r.get h2;have hl:=r.length;have hn:=oN;have fin:EP X pins σ Q w s:=⟨z,H,I,rw',q⟩;by_cases h0:0<=i
 ·have hj:i.toNat=j:=by
   rw[seqIndex_of h0 h5]at h1;exact Option.some.inj h1
  exact item_listR pl.isList h0 (by omega) (by rw[hj];simpa using ew) fin hs
 ·have hj:(i+(its.toArray.size:Int)).toNat=j:=by
   rw[seqIndex_neg (by omega) h4]at h1;rw[List.size_toArray,<- hl];exact Option.some.inj h1
  exact subscriptTail_builtinR (x:=w) pl.isList.typeIs slot_list_getitem.lookup
   (wpAny_getItem_list_neg (Q:=λr s'=>r=w/\EP X pins σ Q r s') pl.isList (by omega) (by rw[List.size_toArray] <;> omega) (by omega) (by rw[hj];simpa using ew) ⟨rfl,fin⟩) hs
theorem zlc:qK X (zo7 X.K):=by
 intro value slice pins s σ H x y v u Q I rx ry h hs;obtain⟨p,xs,i,z,rfl,rfl,hq,he,q⟩:=h;cases rx;obtain⟨t,rfl⟩:=ry;obtain⟨its,r,pl,hz⟩:=I.tuple hq;obtain⟨j,h1,h2,h3,h4,h5⟩:=f8 he;obtain⟨w,ew,rw'⟩:=r.get h2;have hl:=r.length;have hn:=oN;have fin:EP X pins σ Q w s:=⟨z,H,I,rw',q⟩;exact subscriptTail_builtinR (x:=w) pl.typeIs slot_tuple_getitem.lookup
  (getItem_tuple (j:=j) (Q:=λr s'=>r=w/\EP X pins σ Q r s') pl (by omega) (by omega) (by rw[List.size_toArray,<- hl];exact h1) (by simpa using ew) ⟨rfl,fin⟩) hs
theorem zlb:qK X zo6:=by
 intro value slice pins s σ H x y v u Q I rx ry h hs;obtain⟨z,i,c,rfl,rfl,hz,he,q⟩:=h;obtain⟨t,rfl⟩:=rx;obtain⟨t',rfl⟩:=ry;obtain⟨j,h1,h2,h3,h4,h5⟩:=f8 he;have hl:z.cps.toList.length=z.length:=by simp[Str.length]
 rw[hl]at h1 h4 h5;have hn:=oN;exact tail_any (typeIs_str s z t) slot_str_getitem.lookup (getItem_str (c:=c) (by
  have e1:decide (i < -(2 ^ 63:Int))=false:=decide_eq_false (by omega);have e2:decide (i≥2 ^ 63)=false:=decide_eq_false (by omega);rw[e1,e2,Bool.or_false]) (by rw[h1];simpa using h2) ⟨.str ⟨#[c]⟩,H,I.tok _,⟨_,rfl⟩,q⟩) hs
theorem zlI (its:List Value)(n j:Nat)(u:Value):Obj.mapSeq (·.setIfInBounds j u) {cls:= .type "list",data:= .seq its.toArray n} = {cls:= .type "list",data:= .seq (its.set j u).toArray n} :=by
 simp[Obj.mapSeq]
theorem z6.lst {pins:List (Addr×Obj)}{σ:St}{H:Hp}{s:Shared}{p:Addr}{xs:List V}(I:z6 X pins σ H s)(h:H p=some (.lst xs)):
  ∃(its:List Value) (n:Nat),zI xs its/\s.heap.get? p=some {cls:= .type "list",data:= .seq its.toArray n} /\xs.length<=sizeLine:=by
 obtain⟨z,its,n,r,e⟩:=I.hok p _ h;exact⟨its,n,r,e,z⟩
theorem z6.lstUpd {pins:List (Addr×Obj)}{σ:St}{H:Hp}{s:Shared}{p:Addr}{xs ys:List V}{its its':List Value}{n n':Nat}{f:Obj->Obj}(I:z6 X pins σ H s)(h:H p=some (.lst xs))
  (ho:s.heap.get? p=some {cls:= .type "list",data:= .seq its.toArray n}) (hf:f {cls:= .type "list",data:= .seq its.toArray n} = {cls:= .type "list",data:= .seq its'.toArray n'}) (r:zI ys its') (hz:ys.length<=sizeLine) (t:Nat):
  z6 X pins σ (upd H p (.lst ys)) {s with heap:=s.heap.update p f,toks:=t} :=by
 have e:(s.heap.update p f).get? p=some {cls:= .type "list",data:= .seq its'.toArray n'} :=by
  rw[Heap.get?_update_self f ho (by rw[hf] <;> rfl),hf]
 refine I.write (x:=p) (e:=p) (by rw[h];trivial) (.inl rfl) (λb u hb q=>(Heap.get?_update_other _ _ (Ne.symm hb)).trans q) ⟨_,e⟩ ?_;exact⟨hz,its',n',r,e⟩
def zoC:V->V->V->Hp->(Hp->Prop)->Prop:=λo i v H Q=> ∃p xs k j,o= .ref p/\i= .int k/\H p=some (.lst xs)/\wN xs.length k=some j/\Q (upd H p (.lst (xs.set j v)))
theorem zpp:gQ X zoC:=by
 intro pins s σ H o i v ov iv u Q I ro ri rv h;obtain⟨p,xs,k,j,rfl,rfl,hp,hj,q⟩:=h;cases ro;obtain⟨t,rfl⟩:=ri;obtain⟨its,n,r,ho,hz⟩:=I.lst hp;obtain⟨h1,h2,h3,h4⟩:=zfS hj;have hl:=r.length;have hn:=oN;have I':z6 X pins σ (upd H p (.lst (xs.set j v))) {s with heap:=s.heap.update p (Obj.mapSeq (·.setIfInBounds j u))} :=
  I.lstUpd hp ho (zlI its n j u) (r.set rv j) (by rw[List.length_set];exact hz) s.toks
 by_cases h0:0<=k
 ·have hk:k.toNat=j:=by
   rw[seqIndex_of h0 h4]at h1;exact Option.some.inj h1
  exact PySem.W.ki_setAt ho h0 (by omega) (by rw[List.size_toArray,<- hl];exact h4) (by rw[hk];exact⟨_,I',q⟩)
 ·have hk:(k+(its.toArray.size:Int)).toNat=j:=by
   rw[seqIndex_neg (by omega) h3]at h1;rw[List.size_toArray,<- hl];exact Option.some.inj h1
  exact PySem.W.ki_setBack ho (by omega) (by rw[List.size_toArray,<- hl];exact h3) (by omega) (by rw[hk];exact⟨_,I',q⟩)
theorem zpy (lo hi:Option Int)(n:Nat):(sliceBounds lo hi none n).1=((HT.sIx n 0 lo:Nat):Int)/\(sliceBounds lo hi none n).2.1=((HT.sIx n n hi:Nat):Int)/\(sliceBounds lo hi none n).2.2=1:=by
 refine⟨?_,?_,rfl⟩
 ·cases lo with
  | none=>simp[sliceBounds,HT.sIx]
  | some i=>
   simp only[sliceBounds,HT.sIx,Option.getD_none,show(1:Int) > 0 by decide,if_true];by_cases h:i < 0
   ·simp only[h,if_true] <;> omega
   ·simp only[h,if_false] <;> omega
 ·cases hi with
  | none=>simp[sliceBounds,HT.sIx]
  | some i=>
   simp only[sliceBounds,HT.sIx,Option.getD_none,show(1:Int) > 0 by decide,if_true];by_cases h:i < 0
   ·simp only[h,if_true] <;> omega
   ·simp only[h,if_false] <;> omega
theorem zpx (its:List Value)(lo hi:Option Int):slicePick its.toArray lo hi none=((its.drop (HT.sIx its.length 0 lo)).take (HT.sIx its.length its.length hi - HT.sIx its.length 0 lo)).toArray:=by
 obtain⟨h1,h2,h3⟩:=zpy lo hi its.toArray.size;unfold slicePick;rw[h1,h2,h3];simp only[sliceRange_one,pick_run,List.size_toArray] <;> rfl
def zoD (K:Frag):V->Option Int->Option Int->Hp->VK->Prop:=λx lo hi H Q=> ∃a xs,x= .ref a/\yS K H a xs/\∀p,H p=none->Q (.ref p) (upd H p (.lst (rE xs lo hi)))
theorem zpu:mB X (zoD X.K):=by
 intro pins s σ H x v vl vu lo hi sl Q I rx hs pl pu h;obtain⟨a,xs,rfl,hx,q⟩:=h;cases rx;obtain⟨its,r,ht,hz⟩:=I.list hx;have hlen:=r.length;refine⟨"list",_,slot_list_getitem.lookup,ht.isList.typeIs,?_⟩;refine wpAny_getItem_list_slice ht.isList hs pl pu .none (by simp) ?_ (by rw[List.size_toArray] <;> omega);rw[zpx,<- hlen];refine⟨.ref s.heap.objs.size,_,I.laid (t':=s.toks) (o:= .lst (rE xs lo hi)) (λb ob q=>Heap.get?_push_of_some _ q) (Nat.le_refl _) ?_,rfl,q _ (I.hok.fresh (Nat.le_refl _))⟩;exact⟨Nat.le_trans (j0 xs lo hi) hz,_,0,(r.drop (HT.sIx xs.length 0 lo)).take (HT.sIx xs.length xs.length hi - HT.sIx xs.length 0 lo),Heap.get?_push_size _ rfl⟩
def tJ:V->Bool
 | .non=>true
 | .bl _=>true
 | .int _=>true
 | .str _=>true
 | _=>false
def tI:V->V->Bool
 | .non,.non=>true
 | .bl a,.bl b=>a==b
 | .bl a,.int b=>(if a then 1 else 0)==b
 | .int a,.bl b=>a==(if b then 1 else 0)
 | .int a,.int b=>a==b
 | .str a,.str b=>a==b
 | _,_=>false
theorem zke {A:Around}{s:Shared}{y x:V}{u v:Value}(ry:zL y u)(rx:zL x v)(fy:tJ y=true)(fx:tJ x=true):SeqAt.EqAt A s u v (tI y x):=by
 cases y with
 | non=>
  cases ry;cases x with
  | non=>cases rx;exact SeqAt.EqAt.same _
  | bl b=>cases rx;exact SeqAt.EqAt.none_bool b
  | int b=>obtain⟨t,rfl⟩:=rx;exact SeqAt.EqAt.none_int b t
  | str b=>obtain⟨t,rfl⟩:=rx;exact SeqAt.EqAt.none_str b t
  | _=>exact absurd (show false=true from fx) Bool.false_ne_true
 | bl a=>
  cases ry;cases x with
  | non=>cases rx;exact SeqAt.EqAt.bool_none a
  | bl b=>cases rx;exact SeqAt.EqAt.bool_bool a b
  | int b=>obtain⟨t,rfl⟩:=rx;exact SeqAt.EqAt.bool_int a b t
  | str b=>obtain⟨t,rfl⟩:=rx;exact SeqAt.EqAt.bool_str a b t
  | _=>exact absurd (show false=true from fx) Bool.false_ne_true
 | int a=>
  obtain⟨t',rfl⟩:=ry;cases x with
  | non=>cases rx;exact SeqAt.EqAt.int_none a t'
  | bl b=>cases rx;exact SeqAt.EqAt.int_bool a t' b
  | int b=>obtain⟨t,rfl⟩:=rx;exact SeqAt.EqAt.int_int a t' b t
  | str b=>obtain⟨t,rfl⟩:=rx;exact SeqAt.EqAt.int_str a t' b t
  | _=>exact absurd (show false=true from fx) Bool.false_ne_true
 | str a=>
  obtain⟨t',rfl⟩:=ry;cases x with
  | non=>cases rx;exact SeqAt.EqAt.str_none a t'
  | bl b=>cases rx;exact SeqAt.EqAt.str_bool a t' b
  | int b=>obtain⟨t,rfl⟩:=rx;exact SeqAt.EqAt.str_int a t' b t
  | str b=>obtain⟨t,rfl⟩:=rx;exact SeqAt.EqAt.str_str a t' b t
  | _=>exact absurd (show false=true from fx) Bool.false_ne_true
 | _=>exact absurd (show false=true from fy) Bool.false_ne_true
def vK (x:V)(u:Value):Bool:=match u with
 | .none=>tI .non x
 | .bool b=>tI (.bl b) x
 | .int i _=>tI (.int i) x
 | .str z _=>tI (.str z) x
 | _=>false
theorem zdX {x y:V}{u:Value}(r:zL y u)(f:tJ y=true):vK x u=tI y x:=by
 cases y with
 | non=>cases r;rfl
 | bl b=>cases r;rfl
 | int i=>obtain⟨t,rfl⟩:=r;rfl
 | str z=>obtain⟨t,rfl⟩:=r;rfl
 | _=>exact absurd (show false=true from f) Bool.false_ne_true
theorem mG {x:V} : ∀{xs:List V} {us:List Value},zI xs us->xs.all tJ=true->us.any (vK x)=xs.any λy=>tI y x
 | _,_,.nil,_=>rfl
 | y::xs,u::us,.cons r t,f=>by
  rw[List.all_cons,Bool.and_eq_true]at f;rw[List.any_cons,List.any_cons,zdX r f.1,mG t f.2]
theorem mV {A:Around}{s:Shared}{x:V}{v:Value}(rx:zL x v)(fx:tJ x=true): ∀{xs:List V} {us:List Value},zI xs us->xs.all tJ=true->∀u∈us,SeqAt.EqAt A s u v (vK x u)
 | _,_,.nil,_=>λu hu=>by cases hu
 | y::xs,u::us,.cons r t,f=>λu' hu=>by
  rw[List.all_cons,Bool.and_eq_true]at f;rcases List.mem_cons.mp hu with rfl | hu
  ·rw[zdX r f.1];exact zke r rx f.1 fx
  ·exact mV rx fx t f.2 u' hu
def rK (x:V)(xs:List V):Bool:=xs.any λy=>tI y x
def rIn (K:Frag)(neg:Bool):R2:=λx y H Q=> ∃p xs,y= .ref p/\(yS K H p xs∨xQ K H p xs)/\tJ x=true/\xs.all tJ=true/\Q (.bl (if neg then !rK x xs else rK x xs)) H
theorem zmP:y1 X (compareOp .In) (rIn X.K false):=by
 intro pins s σ H x y v u Q I rx ry h;obtain⟨p,xs,rfl,hq,fx,fs,q⟩:=h;cases ry;rcases hq with hq | hq
 ·obtain⟨its,r,pl,hz⟩:=I.list hq
  refine SeqAt.in_listAt (vK x) pl.isList (λw hw=>mV rx fx r fs w (by simpa using hw)) ⟨.bl _,H,I,rfl,?_⟩;rw[show its.toArray.any (vK x)=its.any (vK x) by simp,mG r fs];exact q
 ·obtain⟨its,r,pl,hz⟩:=I.tuple hq
  refine SeqAt.in_tupleAt (vK x) pl (λw hw=>mV rx fx r fs w (by simpa using hw)) ⟨.bl _,H,I,rfl,?_⟩;rw[show its.toArray.any (vK x)=its.any (vK x) by simp,mG r fs];exact q
theorem zmW:y1 X (compareOp .NotIn) (rIn X.K true):=by
 intro pins s σ H x y v u Q I rx ry h;obtain⟨p,xs,rfl,hq,fx,fs,q⟩:=h;cases ry;rcases hq with hq | hq
 ·obtain⟨its,r,pl,hz⟩:=I.list hq
  refine SeqAt.notIn_listAt (vK x) pl.isList (λw hw=>mV rx fx r fs w (by simpa using hw)) ⟨.bl _,H,I,rfl,?_⟩;rw[show its.toArray.any (vK x)=its.any (vK x) by simp,mG r fs];exact q
 ·obtain⟨its,r,pl,hz⟩:=I.tuple hq
  refine SeqAt.notIn_tupleAt (vK x) pl (λw hw=>mV rx fx r fs w (by simpa using hw)) ⟨.bl _,H,I,rfl,?_⟩;rw[show its.toArray.any (vK x)=its.any (vK x) by simp,mG r fs];exact q
theorem zmX:y1 X (compareOp .NotIn) (λx y H Q=> ∃i j,x= .str i/\y= .str j/\Q (.bl (!(!(Builtin.Str.occurrences j i 0 j.length 1).isEmpty))) H):=by
 intro pins s σ H x y v u Q I rx ry h;obtain⟨i,j,rfl,rfl,q⟩:=h;obtain⟨t,rfl⟩:=rx;obtain⟨t',rfl⟩:=ry;exact notIn_str ⟨.bl _,H,I,rfl,q⟩
theorem fO:xK X (.type "list") (λxs H Q=> ∃p ys,xs= [.ref p]/\(yS X.K H p ys∨xQ X.K H p ys)/\∀l,H l=none->Q (.ref l) (upd H l (.lst ys))):=by
 intro pins s σ H xs us Q I r h;obtain⟨p,ys,rfl,hq,q⟩:=h;obtain⟨u,rfl,rx⟩:=qC r;cases rx;have fin: ∀(its:List Value),zI ys its->ys.length<=sizeLine->∀(h':Heap) (c':Nat),(∀b o',s.heap.get? b=some o'->h'.get? b=some o')->
   h'.get? s.heap.objs.size=some {cls:= .type "list",dict:=none,data:= .seq its.toArray c',slots:= #[]} ->EP X pins σ Q (.ref s.heap.objs.size) {s with heap:=h'} :=λits r' hz h' c' kp e=>
  ⟨.ref s.heap.objs.size,_,I.laid (t':=s.toks) kp (Nat.le_refl _) (show x9 X.prog X.w _ h' _ (.lst ys)from⟨hz,its,c',r',e⟩),rfl,q _ (I.hok.fresh (Nat.le_refl _))⟩
 rcases hq with hq | hq
 ·obtain⟨its,r',pl,hz⟩:=I.list hq
  have hlen:=r'.length;obtain⟨o,ho,hc,n,hd⟩:=pl.isList;exact call_list_seq p (.inl rfl) ho hc hd (λh' c' kp e=>fin its r' hz h' c' kp e) (by simp only[List.size_toArray] <;> omega)
 ·obtain⟨its,r',pl,hz⟩:=I.tuple hq
  have hlen:=r'.length;obtain⟨o,ho,hc,n,hd⟩:=pl;exact call_list_seq p (.inr rfl) ho hc hd (λh' c' kp e=>fin its r' hz h' c' kp e) (by simp only[List.size_toArray] <;> omega)
theorem fP:xK X (.type "tuple") (λxs H Q=> ∃p ys,xs= [.ref p]/\((yS X.K H p ys/\∀l,H l=none->Q (.ref l) (upd H l (.tup ys)))∨(xQ X.K H p ys/\Q (.ref p) H))):=by
 intro pins s σ H xs us Q I r h;obtain⟨p,ys,rfl,h⟩:=h;obtain⟨u,rfl,rx⟩:=qC r;cases rx;rcases h with⟨hq,q⟩ | ⟨hq,q⟩
 ·obtain⟨its,r',pl,hz⟩:=I.list hq
  have hlen:=r'.length;refine call_tuple_list pl.isList (λh' kp=> ?_) (by simp only[List.size_toArray] <;> omega);have I1:z6 X pins σ H {s with heap:=h'} :=I.kept (t':=s.toks) kp;have I2:z6 X pins σ (upd H h'.objs.size (.tup ys)) {s with heap:=h'.push {cls:= .type "tuple",data:= .seq its.toArray}} :=
   I1.laid (t':=s.toks) (λb o e=>Heap.get?_push_of_some _ e) (Nat.le_refl _) (show x9 X.prog X.w _ _ _ (.tup ys)from⟨hz,its,r',tD.new _ _⟩)
  exact⟨.ref h'.objs.size,_,I2,rfl,q _ (I1.hok.fresh (Nat.le_refl _))⟩
 ·obtain⟨its,r',pl,hz⟩:=I.tuple hq
  exact call_tuple_same pl ⟨.ref p,H,I,rfl,q⟩
def tyV (K:Frag)(T:String)(x:V)(H:Hp):Prop:=match x with
 | .str _=>T= "str"
 | .int _=>T= "int"
 | .ref p=>(T= "list" /\∃xs,yS K H p xs)∨(T= "tuple" /\∃o,K.lookup p=some o/\o.cls= .type "tuple" /\o.dict=none)∨
   (T= "dict" /\((∃kvs,H p=some (.dK kvs))∨∃kvs,H p=some (.dT kvs)))∨(T= "set" /\∃S n,H p=some (.set S n))
 | _=>False
theorem zig {pins:List (Addr×Obj)}{σ:St}{H:Hp}{s:Shared}{T:String}{x:V}{v:Value}(I:z6 X pins σ H s)(r:zL x v)(ty:tyV X.K T x H):
  s.TypeIs v T/\∀a,v= .ref a->∃ob,s.heap.get? a=some ob/\ob.dict=none:=by
 cases x with
 | str z=>
  obtain⟨t,rfl⟩:=r;cases(show T= "str" from ty);exact⟨typeIs_str s z t,λ_ e=>nomatch e⟩
 | int i=>
  obtain⟨t,rfl⟩:=r;cases(show T= "int" from ty);exact⟨typeIs_int s i t,λ_ e=>nomatch e⟩
 | ref p=>
  cases r;rcases ty with⟨rfl,xs,hq⟩ | ⟨rfl,o,hk,hc,hd⟩ | ⟨rfl,hk⟩ | ⟨rfl,S,n,hk⟩
  ·obtain⟨its,_,pl,_⟩:=I.list hq
   refine⟨pl.isList.typeIs,λa e=> ?_⟩;cases e;obtain⟨o,n,e,c,hd,_⟩:=pl;exact⟨o,e,hd⟩
  ·refine⟨⟨o,I.kIn p o hk,hc⟩,λa e=> ?_⟩
   cases e;exact⟨o,I.kIn _ o hk,hd⟩
  ·have z: ∃o,s.heap.get? p=some o/\o.ExactDict:=by
    rcases hk with⟨kvs,hk⟩ | ⟨kvs,hk⟩
    ·obtain⟨_,_,_,_,o,_,_,e,ex,_⟩:=I.hok p _ hk
     exact⟨o,e,ex⟩
    ·obtain⟨_,_,_,_,o,_,_,e,ex,_⟩:=I.hok p _ hk
     exact⟨o,e,ex⟩
   obtain⟨o,e,ex⟩:=z;refine⟨⟨o,e,ex.1⟩,λa e2=> ?_⟩;cases e2;exact⟨o,e,ex.2.1⟩
  ·obtain⟨o,_,_,_,e,ex,_⟩:=I.hok p _ hk
   refine⟨⟨o,e,ex.1⟩,λa e2=> ?_⟩;cases e2;exact⟨o,e,ex.2.1⟩
 | _=>exact False.elim ty
def tBM (K:Frag)(T:String)(r:V->List V->Hp->VK->Prop)(to:TE)(t:TA):TE:=λσ H Q=>to σ H λx H1=>tyV K T x H1/\t σ H1 λxs H2=>r x xs H2 Q
variable {o e:Expr} {es:List Expr} {to:TE} {t:TA} {name:Str} {apos cpos:Pos} {T id:String} {r:V->List V->Hp->VK->Prop}
theorem zni (pa:PlainAttrs T)(slot:Slot T name id)(hty:typeOf (.builtin id)=pure (.type "method_descriptor"))(hm:uR X id r)(ho:PE X o to)(ha:PA X (e::es) t)
  (hbase:attributeBase o name X.env (eval o X.env)=eval o X.env:=by rfl)
  (hfew:((backTo cpos (starEach (e::es) X.env)).all (λx=> !x.1)&&(backToKw cpos (keywordEach [] X.env)).all (λx=>x.1.isSome)
   &&decide ((e::es).length+([]:List Keyword).length+(if([]:List Keyword).isEmpty then 0 else 1) < 30))=true:=by rfl)
  (hline:(apos.endLine==cpos.line)=true:=by rfl) (hs:starEach (e::es) X.env=(false,eval e X.env)::starEach es X.env:=by rfl) (hplain:(backTo cpos (starEach es X.env)).any (·.1)=false:=by rfl):
  PE X (.Call (.Attribute o name apos) (e::es) [] cpos) (tBM X.K T r to t):=by
 constructor;intro pins s σ H Q I h;refine wpAny_Call_method_late hbase hfew hline rfl (zJ (ho pins s σ H _ I h) λv s1 ⟨x,H1,I1,r1,ty,q1⟩=> ?_);obtain⟨h1,h2⟩:=zig I1 r1 ty;refine⟨T,id,pa,slot,hty,h1,h2,?_⟩;have hA:=ha cpos pins s1 σ H1 _ I1 q1;rw[hs]at hA⊢
 refine Calls.callWith_builtin (by show(false||(backTo cpos (starEach es X.env)).any (·.1))=false;rw[hplain] <;> rfl) (Calls.evalArgs_plain ?_);exact zJ hA λus s2 ⟨vs,H2,I2,r2,q2⟩=>hm pins s2 σ H2 x vs v us Q I2 r1 r2 q2
end
theorem zI.one: ∀{x:V} {us:List Value},zI [x] us->∃u,us= [u]/\zL x u
 | _,_,.cons r .nil=>⟨_,rfl,r⟩
theorem zI.two {x y:V}{us:List Value}(h:zI [x,y] us): ∃u v,us= [u,v]/\zL x u/\zL y v:=by
 cases h with | cons r t=>cases t with | cons q t2=>cases t2;exact⟨_,_,rfl,r,q⟩
section
variable {X:Cx} {pins:List (Addr×Obj)} {σ:St} {H:Hp} {s:Shared} {l b:Addr} {xs ys zs:List V}
theorem z6.lnew {its:List Value}{t':Nat}(I:z6 X pins σ H s)(hv:zI ys its)(hz:ys.length<=sizeLine):
  z6 X pins σ (upd H s.heap.objs.size (.lst ys)) {s with heap:=s.heap.push {cls:= .type "list",data:= .seq its.toArray},toks:=t'} :=
 I.laid (λ_ _ q=>Heap.get?_push_of_some _ q) (Nat.le_refl _) ⟨hz,its,0,hv,Heap.get?_push_size _ rfl⟩
theorem z6.fresh (I:z6 X pins σ H s):H s.heap.objs.size=none:=I.hok.fresh (Nat.le_refl _)
end
end L2
namespace Att
open PySem PySem.W PySem.Calls PyProof.Rows
theorem zkQ {P:Params}{h:Heap} : ∀(ns:List Int) (vs:List Value),WellAll P h vs (ns.map WData.int)->IntsAre vs ns:=by
 intro ns
 induction ns with
 | nil=>
  intro vs w;rw[List.map_nil]at w;cases w;exact .nil
 | cons n ns ih=>
  intro vs w;rw[List.map_cons]at w;cases w with
  | cons a b=>
   cases a;exact .cons _ _ (ih _ b)
theorem zpl {l:OpenLaw}{n:Nat}(hn:l.most=some n){P:Params}{h:Heap}{args:List WData}{vals:List Value}
  (hpre:l.row.toRowW.claim.pre args=true) (hwl:WellAll P h vals args):
  ∃a vs ns,vals= [Value.ref a]/\args= [WData.list (ns.map WData.int)]/\h.get? a=some {cls:= .type "list",data:= .seq vs.toArray} /\IntsAre vs ns/\ns.length<=n:=by
 have hsh:WShape.hasAll [] args [.list .int]=true:=(pre_splitW hpre).1;have hc:l.pre.holds [] {args:=args} =true:=(pre_splitW hpre).2;obtain⟨d,r,rfl,h1,h2⟩:=hasAllW_cons hsh;obtain rfl:=hasAllW_nil h2;obtain⟨xs,rfl,h3⟩:=hasW_list h1;obtain⟨ns,rfl⟩:=items_int h3;have hlen:ns.length<=n:=by
  unfold OpenLaw.pre at hc;have h4:(WTm.not (.lt (.lit (.int (n:Int))) (.len (.arg 0)))).holds [] {args:= [.list (ns.map .int)]} =true:=by
   have h4:=(holds_andW hc).1;rw[hn]at h4;exact h4
  have h5:=condW_of h4 (w_not (w_lt w_lit (w_len_list (w_arg rfl))));rw[List.length_map]at h5;refine Nat.le_of_not_lt λq=> ?_;have q':(n:Int) < ((ns.length:Nat):Int):=by omega
  first
   | (rw[decide_eq_true q']at h5;exact absurd h5 (by decide))
   | (simp at h5;omega)
 cases hwl with
 | cons w1 w2=>
  cases w2;cases w1 with
  | list ho hall=>exact⟨_,_,ns,rfl,rfl,ho,zkQ ns _ hall,hlen⟩
theorem znC (l:OpenLaw)(args:List WData):l.row.toRowW.claim.post args (.bool true) args=true:=
 postW_of (r:=l.row.toRowW) (X:=(true==true))
  (show WShape.has [] (.bool true) .bool=true by first | rfl | decide | simp[WShape.has,WShape.arms,WShape.armsAll])
  (show(WTm.eq .res (.lit (.bool true))).value [] {args:=args,res:=some (.bool true),after:=args} =some (.bool (true==true))from w_eq_bool (w_res rfl) w_lit) rfl
theorem attach_call {l:OpenLaw}{n:Nat}{q:Program}{loose:List Str}{XP:(Str->Option Value)->Heap->Prop}{YP:World->Heap->Prop}{d:DefRec}
  (hn:l.most=some n) (hdf:d.params.defaults= [])
  (call: ∀(w:World) (s₀ s₁:Shared) (mg mb:Str->Option Value) (fa:Addr) (o:Obj) (pm cd doc:Value) (a:Addr) (vs:List Value) (ns:List Int),
   Ground q loose [] XP w s₀ mg mb s₁.heap->YP w s₁.heap->
   s₁.heap.get? fa=some o->o.data= .func (docDef d.name d.params d.body d.scope pm cd doc)->s₁.heap.CodeRec cd d.name->mg d.name=some (.ref fa)->
   s₁.heap.get? a=some {cls:= .type "list",data:= .seq vs.toArray} ->IntsAre vs ns->ns.length<=n->s₁.gens= #[]->
   codeAny (model l.prog w) callerA (.call (.ref fa) ⟨[.ref a],[]⟩) (λr s'=>r= .ok (.ret (.bool true))/\OldK s₁.heap s'.heap/\s'.os=s₁.os/\AllBare s'.gens) s₁):
  WalkO q loose XP YP l.row.toRowW d [] (λf vs=>PySem.call f vs):=by
 intro w s₀ s₁ mg mb G Y fa o pm cd doc dV kV ho hd hcd hD hmg hg args vals as hpre hlay hrd hwl hlo;obtain rfl:dV= .none:=Dflts.none hD hdf;obtain rfl:kV= .none:=Dflts.noKw hD;obtain⟨a,vs,ns,rfl,rfl,hobj,hints,hlen⟩:=zpl hn hpre hwl;refine enter_call (codeAny_mono (call w s₀ s₁ mg mb fa o pm cd doc a vs ns G Y ho (fd_plain hd) hcd hmg hobj hints hlen hg) λr s' hq=> ?_);obtain⟨rfl,h2,h3,h4⟩:=hq;exact⟨.inl ⟨.bool true,.bool true,[],rfl,λ_=>rfl,.bool true,znC l _,λ_=>⟨List.Pairwise.nil,λ_ hm=>(nomatch hm)⟩⟩,h2,h3,h4⟩
end Att
namespace L2
open PySem PySem.Spec PyProof.Rows
theorem zi6: ∀{vs:List Value} {ns:List Int},IntsAre vs ns->zI (ns.map V.int) vs
 | _,_,.nil=> .nil
 | _,_,.cons n t h=> .cons ⟨t,rfl⟩ (zi6 h)
def gP (H:Hp):Prop:= ∀b,H b=none∨∃o xs,H b=some (.frz o (.lst xs))
theorem zlp {P:Program}{w:World}{K:Frag}{mg mb:Str->Option Value}{CX:wL}{k:Nat}{fa a:Addr}{fd:FuncData}{x:Str}{sp:Sp}{s₁:Shared}{vs:List Value}{ns:List Int}
  (KX:K.In s₁.heap) (hns:s₁.heap.Ns mainGlobals mg) (hb:s₁.heap.Ns builtinsNs mb) (hbb: ∀x:Str,x≠ "__name__" ->mb x=bootBuiltins x) (hlim:s₁.heap.NoLimit) (hg:s₁.gens= #[])
  (ha:s₁.heap.get? a=some {cls:= .type "list",data:= .seq vs.toArray}) (hi:IntsAre vs ns) (hl:ns.length<=sizeLine) (hr:zF k callerA)
  (F: ∀base:Heap,K.In base->base.Ns mainGlobals mg->zZ P w K mg base CX k fa fd [x] sp) (hbind: ∀(s:Shared) (u:Value),BindsTo s fd ⟨[u],[]⟩ [(x,u)])
  (hsp: ∀H:Hp,gP H->yS K H a (ns.map V.int)->sp [.ref a] H (λv _=>v= .bl true) λ_ _ _=>False)
  (hCX: ∀H e s',CX [] H s₁ (λ_ _ _=>False) e s'->False):
  codeAny (model P w) callerA (.call (.ref fa) ⟨[.ref a],[]⟩) (λr s'=>r= .ok (.ret (.bool true))/\OldK s₁.heap s'.heap/\s'.os=s₁.os/\AllBare s'.gens) s₁:=by
 have rv:=zi6 hi;have lenV:=hi.length;have core: ∀H:Hp,gP H->yS K H a (ns.map V.int)->yQ P w H s₁.heap->(∀b,H b≠none->b=a)->(H a≠none->K.lookup a=none)->
   codeAny (model P w) callerA (.call (.ref fa) ⟨[.ref a],[]⟩) (λr s'=>r= .ok (.ret (.bool true))/\OldK s₁.heap s'.heap/\s'.os=s₁.os/\AllBare s'.gens) s₁:=by
  intro H hO hS hok hA hK;have base_of: ∀{b:Addr} {o:Obj},s₁.heap.get? b=some o->H b=none->(sE s₁.heap H).get? b=some o:=λe n=>zkE e n;have noA: ∀{b:Addr} {o:Obj} {es:Array DictEntry} {ep:Nat},s₁.heap.get? b=some o->o.data= .dict es ep->H b=none:=λ{b o es ep} e d=>by
   cases q:H b with
   | none=>rfl
   | some u=>
    have e':b=a:=hA b (by rw[q];simp);subst e';rw[ha]at e;cases e;have d':Data.seq vs.toArray _=Data.dict es ep:=d;cases d'
  have nsK: ∀{b:Addr} {m:Str->Option Value},s₁.heap.Ns b m->(sE s₁.heap H).Ns b m:=λ{b m} ⟨o,es,ep,e,d,r⟩=>⟨o,es,ep,base_of e (noA e d),d,r⟩;have hKb:K.In (sE s₁.heap H):=λb o e=>base_of (KX b o e) (by
   cases q:H b with
   | none=>rfl
   | some u=>
    have e':b=a:=hA b (by rw[q];simp);subst e';rw[hK (by rw[q];simp)]at e;cases e)
  have hM:Mod K mg (sE s₁.heap H):=⟨hKb,nsK hns,⟨mb,nsK hb,hbb⟩,let⟨mc,h1,h2⟩:=hlim;⟨mc,nsK h1,h2⟩⟩;have e0:uD P w K mg (sE s₁.heap H) callerA [] s₁ H:=⟨rfl,hM,λb o e=>zmv e,Nat.le_of_eq (zkF _ _),trivial,λb hb=>absurd (show b∈([]:List Addr)from hb) (by simp),hok,.of_eq hg⟩;refine codeAny_mono ((F _ hKb (nsK hns)).run callerA [] s₁ H ⟨[.ref a],[]⟩ [.ref a] [.ref a] _ _ hr e0 (hbind s₁ (.ref a)) (.cons rfl .nil) (hsp H hO hS)) λr s' h=> ?_;cases r with
  | error e=>exact(hCX H e s' h).elim
  | ok fl=>
   cases fl with
   | next=>exact False.elim h
   | brk=>exact False.elim h
   | cont=>exact False.elim h
   | ret u=>
    obtain⟨v,H',os,bare,un,hok',r',q⟩:=h;have q':v= .bl true:=q;subst q';obtain rfl:u=Value.bool true:=r';refine⟨rfl,OldK.of_keep λb o e=> ?_,os,bare⟩;cases q:H b with
    | none=>exact un.keep b o e q (by intro z;exact absurd (show b∈([]:List Addr)from z) (by simp)) (by simp)
    | some u=>
     rcases hO b with z | ⟨ob,xs,z⟩
     ·rw[q]at z;cases z
     ·have z2:=un.frzs b ob _ z
      obtain⟨e1,_⟩:=hok b _ z;obtain⟨e2,_⟩:=hok' b _ z2;rw[e]at e1;cases e1;exact e2
 cases hk:K.lookup a with
 | some o=>
  have e:=KX a o hk;rw[ha]at e;cases e;refine core (λ_=>none) (λ_=> .inl rfl) (.inr ⟨_,vs.toArray,_,hk,rfl,rfl,rfl,by rw[List.size_toArray,lenV];exact hl,by simpa using rv,rfl⟩) (λb u z=>by have z':(none:Option HO)=some u:=z;cases z') (λb z=>absurd rfl z) λz=>absurd rfl z
 | none=>
  refine core (λb=>if b=a then some (.frz {cls:= .type "list",data:= .seq vs.toArray} (.lst (ns.map V.int)))else none) (λb=> ?_) (.inl (.inr ⟨{cls:= .type "list",data:= .seq vs.toArray},if_pos rfl⟩)) (λb u z=> ?_) (λb z=> ?_) λ_=>hk
  ·by_cases hb:b=a
   ·exact .inr ⟨_,_,if_pos hb⟩
   ·exact .inl (if_neg hb)
  ·by_cases hb:b=a
   ·have z':=(if_pos hb).symm.trans z
    cases z';subst hb;exact⟨ha,by rw[List.length_map];exact hl,vs,_,rv,ha⟩
   ·have z':=(if_neg hb).symm.trans z
    cases z'
  ·by_cases hb:b=a
   ·exact hb
   ·exact absurd (if_neg hb) z
theorem walk_of {l:PySem.W.OpenLaw}{n k:Nat}{q:Program}{loose:List Str}{XP:(Str->Option Value)->Heap->Prop}{YP:World->Heap->Prop}{d:DefRec}{K:Params->Frag}{CX:World->wL}{sp:World->Sp}{x:Str}
  (hn:l.most=some n) (hn2:n<=sizeLine) (hdf:d.params.defaults= []) (hr:zF k callerA)
  (hY: ∀(w:World) (h:Heap),YP w h->(K w.params).In h)
  (F: ∀(w:World) (mg:Str->Option Value) (fa:Addr) (h:Heap),(K w.params).In h->h.Ns mainGlobals mg->mg d.name=some (.ref fa)->
   ∃fd:FuncData,(∀(s:Shared) (u:Value),BindsTo s fd ⟨[u],[]⟩ [(x,u)])/\
    ∀base:Heap,(K w.params).In base->base.Ns mainGlobals mg->zZ l.prog w (K w.params) mg base (CX w) k fa fd [x] (sp w))
  (hsp: ∀(w:World) (H:Hp) (a:Addr) (ns:List Int),ns.length<=n->gP H->yS (K w.params) H a (ns.map V.int)->sp w [.ref a] H (λv _=>v= .bl true) λ_ _ _=>False)
  (hCX: ∀(w:World) (H:Hp) (s:Shared) (e:Value) (s':Shared),CX w [] H s (λ_ _ _=>False) e s'->False):
  PySem.W.WalkO q loose XP YP l.row.toRowW d [] (λf vs=>PySem.call f vs):=by
 refine Att.attach_call hn hdf λw s₀ s₁ mg mb fa o pm cd doc a vs ns G Y ho hd hcd hmg hobj hints hlen hg=> ?_;have KX:=hY w _ Y;obtain⟨fd,hb,hF⟩:=F w mg fa _ KX G.T.g hmg;exact zlp KX G.T.g G.T.b G.T.builtins G.T.nolimit hg hobj hints (Nat.le_trans hlen hn2) hr hF hb (λH hO hS=>hsp w H a ns hlen hO hS) λH e s'=>hCX w H s₁ e s'
def zkL (s:Stmt)(j:Nat):Stmt:=match s with
 | .ClassDef _ _ _ body _ _ _ _ _ _ _=>body.getD j (.Pass ⟨0,0,0,0⟩)
 | _=> .Pass ⟨0,0,0,0⟩
def rF (s:Stmt):Arguments:=match s with
 | .FunctionDef _ a _ _ _ _ _ _ _ _=>a
 | _=> {posonlyargs:= [],args:= [],vararg:=none,kwonlyargs:= [],kw_defaults:= [],kwarg:=none,defaults:= []}
def u6 (s:Stmt):List Stmt:=match s with
 | .FunctionDef _ _ b _ _ _ _ _ _ _=>b
 | _=> []
def zR (s:Stmt):Scope:=match s with
 | .FunctionDef _ _ _ _ _ _ sc _ _ _=>sc
 | _=> {kind:= .function,names:= [],isGenerator:=false,isCoroutine:=false}
abbrev yE:wL:=λ_ _ _ _ _ _=>False
abbrev E0:XK:=λ_ _ _=>False
theorem jU {X:Cx} :u0 yE X E0:=λ_ _ _ _ _ _ _ h=>h.elim
structure zN (K:Frag)(x qual:Str)(st:Stmt)(f:Addr)(fd:FuncData):Prop where
 ex: ∃(oc:Value) (od:Option Addr) (kV doc pm:Value) (an:Option Addr) (cdv ct:Value) (osl:Array (Option Value)),
  fd=fnOf x qual (rF st) (u6 st) (zR st) .none kV doc pm an cdv ct/\K.lookup f=some ⟨oc,od,.func fd,osl⟩/\codeIn K cdv qual=true
 kp:keepIn K (.ref f)=true
section
variable {P:Program} {w:World} {K:Frag} {mg:Str->Option Value} {base:Heap}
theorem zN.ok {x qual:Str}{st:Stmt}{f:Addr}{fd:FuncData}{N ps:List Str}{k:Nat}{sp:Sp}(F:zN K x qual st f fd)(S:yB N ps (zR st))(len: ∀vs H Q E,sp vs H Q E->vs.length=ps.length)
  (hbody: ∀(cdv:Value) (A:Around) (outer:List Env) (s:Shared) (H:Hp) (vs:List V) (Q:VK) (E:XK),zF k (A.deeper (envOfC qual (zR st) s.heap.objs.size f cdv))->sp vs H Q E->
   ∃t,yI (xT yE P w K mg base N qual (zR st) f cdv A outer s H E).nox (u6 st) t/\t {nx:=λ_ H'=>Q .non H',rt:=Q} (start N vs) H):zZ P w K mg base yE (k+1) f fd ps sp:=by
 obtain⟨oc,od,kV,doc,pm,an,cdv,ct,osl,rfl,lk,hcd⟩:=F.ex;refine zfG lk hcd S len λA outer s H vs Q E hr hsp=> ?_;obtain⟨t,h,q⟩:=hbody cdv A outer s H vs Q E hr hsp;exact⟨t,h.nox,q⟩
theorem zN.binds {x qual:Str}{st:Stmt}{f:Addr}{fd:FuncData}{ps:List Str}(F:zN K x qual st f fd)
  (h: ∀(kV doc pm:Value) (an:Option Addr) (cdv ct:Value) (us:List Value),us.length=ps.length->bindArgs (fnOf x qual (rF st) (u6 st) (zR st) .none kV doc pm an cdv ct) ⟨us,[]⟩=pure (ps.zip us)):zS K fd ps []:=by
 obtain⟨oc,od,kV,doc,pm,an,cdv,ct,osl,rfl,lk,hcd⟩:=F.ex;exact .all (h kV doc pm an cdv ct)
theorem oG {x qual:Str}{st:Stmt}{f:Addr}{oc:Value}{od an:Option Addr}{osl:Array (Option Value)}{kV doc pm cdv ct:Value}(l:K.lookup f=some ⟨oc,od,.func (fnOf x qual (rF st) (u6 st) (zR st) .none kV doc pm an cdv ct),osl⟩)
  (c:codeIn K cdv qual=true) (k:keepIn K (.ref f)=true):zN K x qual st f (fnOf x qual (rF st) (u6 st) (zR st) .none kV doc pm an cdv ct):=⟨⟨oc,od,kV,doc,pm,an,cdv,ct,osl,rfl,l,c⟩,k⟩
end
section
variable {X:Cx}
theorem pv (i:Nat){x:Str}{pos:Pos}(hN:X.N[i]?=some x:=by rfl)(hv:qO X.env.scope x:=by first | exact Or.inl rfl | exact Or.inr (Or.inl rfl) | exact Or.inr (Or.inr rfl))(hd:(x==("__debug__" :Str))=false:=by decide)
  (hcd:(x==("__classdict__" :Str))=false:=by decide):PE X (.Name x pos) (zcA i):=pK hN hv hd hcd
end
theorem xD {c A B:Prop}[Decidable c](h1:c->A)(h2: ¬ c->B):if c then A else B:=by
 by_cases h:c
 ·rw[if_pos h]
  exact h1 h
 ·rw[if_neg h]
  exact h2 h
section
variable {κ:Type} [DecidableEq κ]
def vW (kvs:List (κ×V))(k:κ):Option V:=(kvs.find? λkv=>decide (kv.1=k)).map (·.2)
def wX (kvs:List (κ×V))(k:κ)(v:V):List (κ×V):=
 if(kvs.any λkv=>decide (kv.1=k))=true then kvs.map (λkv=>if kv.1=k then(kv.1,v)else kv)else kvs++ [(k,v)]
theorem gA {p:κ×V}{r:List (κ×V)}{k:κ}(e:p.1=k):vW (p::r) k=some p.2:=by simp[vW,List.find?_cons,e]
theorem g9 {p:κ×V}{r:List (κ×V)}{k:κ}(e: ¬ p.1=k):vW (p::r) k=vW r k:=by simp[vW,List.find?_cons,e]
theorem zi2 (k:κ): ∀kvs:List (κ×V),(kvs.any λkv=>decide (kv.1=k))=(vW kvs k).isSome
 | []=>rfl
 | p::r=>by
  rw[List.any_cons];by_cases e:p.1=k
  ·simp only[gA e,decide_eq_true e,Bool.true_or,Option.isSome_some]
  ·rw[g9 e,decide_eq_false e,Bool.false_or];exact zi2 k r
theorem jH (kvs:List (κ×V))(k:κ)(v:V):(wX kvs k v).length<=kvs.length+1:=by
 unfold wX
 split
 ·rw[List.length_map];omega
 ·rw[List.length_append,List.length_cons,List.length_nil];omega
theorem xS.isSome_eq {o:Option V}{u:Option Value}(r:xS o u):o.isSome=u.isSome:=by
 cases o with
 | none=>cases u with
  | none=>rfl
  | some _=>exact(show False from r).elim
 | some _=>cases u with
  | none=>exact(show False from r).elim
  | some _=>rfl
theorem xS.getD {o:Option V}{u:Option Value}{d:V}{d':Value}(r:xS o u)(rd:zL d d'):zL (o.getD d) (u.getD d'):=by
 cases o with
 | none=>cases u with
  | none=>exact rd
  | some _=>exact(show False from r).elim
 | some _=>cases u with
  | none=>exact(show False from r).elim
  | some _=>exact r
theorem KV.val {kvs:List (κ×V)}{vs:List (κ×Value)}(r:KV kvs vs)(k:κ):xS (vW kvs k) (valueAt vs k):=by
 unfold KV at r
 induction r with
 | nil=>exact True.intro
 | @cons p q ps qs h t ih=>
  obtain⟨h1,h2⟩:=h;by_cases e:p.1=k
  ·have e':q.1=k:=h1.symm.trans e
   have b:valueAt (q::qs) k=some q.2:=by simp[valueAt,List.find?_cons,e']
   rw[gA e,b];exact h2
  ·have e': ¬ q.1=k:=λz=>e (h1.trans z)
   have b:valueAt (q::qs) k=valueAt qs k:=by simp[valueAt,List.find?_cons,e']
   rw[g9 e,b];exact ih
theorem KV.any {kvs:List (κ×V)}{vs:List (κ×Value)}(r:KV kvs vs)(k:κ):(kvs.any λkv=>decide (kv.1=k))=vs.any λkv=>decide (kv.1=k):=by
 unfold KV at r
 induction r with
 | nil=>rfl
 | cons h t ih=>rw[List.any_cons,List.any_cons,ih,h.1]
theorem KV.repl {kvs:List (κ×V)}{vs:List (κ×Value)}(r:KV kvs vs)(k:κ){y:V}{u:Value}(ry:zL y u):
  KV (kvs.map λkv=>if kv.1=k then(kv.1,y)else kv) (vs.map λkv=>if kv.1=k then(kv.1,u)else kv):=by
 unfold KV at r⊢
 induction r with
 | nil=>exact .nil
 | @cons p q ps qs h t ih=>
  rw[List.map_cons,List.map_cons];refine .cons ?_ ih;obtain⟨h1,h2⟩:=h;by_cases e:p.1=k
  ·rw[if_pos e,if_pos (h1.symm.trans e)];exact⟨h1,ry⟩
  ·rw[if_neg e,if_neg (λz=>e (h1.trans z))];exact⟨h1,h2⟩
theorem KV.put {kvs:List (κ×V)}{vs:List (κ×Value)}(r:KV kvs vs)(k:κ){y:V}{u:Value}(ry:zL y u):KV (wX kvs k y) (stored vs k u):=by
 unfold wX stored;rw[r.any k];by_cases e:(vs.any λkv=>decide (kv.1=k))=true
 ·rw[if_pos e,if_pos e];exact r.repl k ry
 ·rw[if_neg e,if_neg e];exact Paired.snoc r ⟨rfl,ry⟩
theorem KV.length {kvs:List (κ×V)}{vs:List (κ×Value)}(r:KV kvs vs):kvs.length=vs.length:=Paired.length r
end
theorem rM {P:Program}{w:World}{k:zC}{u:Value}(r:zL (kV k) u):(xY P w).is k u=true:=by
 cases k with
 | inl i=>obtain⟨t,e⟩:=(show ∃t,u=Value.int i t from r);subst e;exact zlO P w i t
 | inr x=>obtain⟨t,e⟩:=(show ∃t,u=Value.str x t from r);subst e;exact zlP P w x t
theorem zfR {P:Program}{w:World} : ∀{ks:List zC} {us:List Value},zI (ks.map kV) us->ItemsAre (xY P w) ks us
 | [],_,r=>by rw[List.map_nil]at r;cases r;exact .nil
 | k::ks,_,r=>by
  rw[List.map_cons]at r;cases r with
  | cons h t=>exact .cons (rM h) (zfR t)
abbrev KT (H:Hp):List (List zC×V)->List (List zC×Addr×Value)->Prop:=Paired λp q=>p.1=q.1/\H q.2.1=some (.tup (p.1.map kV))/\zL p.2 q.2.2
theorem KT.val {H:Hp}{kvs:List (List zC×V)}{xs:List (List zC×Addr×Value)}(r:KT H kvs xs)(k:List zC):xS (vW kvs k) ((atKey xs k).map (·.2)):=by
 induction r with
 | nil=>exact True.intro
 | @cons p q ps qs h t ih=>
  obtain⟨h1,_,h2⟩:=h;by_cases e:p.1=k
  ·have e':q.1=k:=h1.symm.trans e
   have b:atKey (q::qs) k=some q.2:=by simp[atKey,List.find?_cons,e']
   rw[gA e,b];exact h2
  ·have e': ¬ q.1=k:=λz=>e (h1.trans z)
   have b:atKey (q::qs) k=atKey qs k:=by simp[atKey,List.find?_cons,e']
   rw[g9 e,b];exact ih
theorem KT.repl {H:Hp}{kvs:List (List zC×V)}{xs:List (List zC×Addr×Value)}(r:KT H kvs xs)(k:List zC){y:V}{u:Value}(ry:zL y u):
  KT H (kvs.map λkv=>if kv.1=k then(kv.1,y)else kv) (xs.map (putAt k u)):=by
 induction r with
 | nil=>exact .nil
 | @cons p q ps qs h t ih=>
  rw[List.map_cons,List.map_cons];refine .cons ?_ ih;obtain⟨h1,h2,h3⟩:=h;unfold putAt;by_cases e:p.1=k
  ·rw[if_pos e,if_pos (h1.symm.trans e)];exact⟨h1,h2,ry⟩
  ·rw[if_neg e,if_neg (λz=>e (h1.trans z))];exact⟨h1,h2,h3⟩
theorem KT.put {H:Hp}{kvs:List (List zC×V)}{xs:List (List zC×Addr×Value)}(r:KT H kvs xs)(k:List zC){b:Addr}{y:V}{u:Value}(hb:H b=some (.tup (k.map kV)))(ry:zL y u):
  KT H (wX kvs k y) (storedH xs k b u):=by
 have e:(kvs.any λkv=>decide (kv.1=k))=(atKey xs k).isSome:=by
  rw[zi2,(r.val k).isSome_eq,Option.isSome_map]
 unfold wX storedH;rw[e];by_cases q:(atKey xs k).isSome=true
 ·rw[if_pos q,if_pos q];exact r.repl k ry
 ·rw[if_neg q,if_neg q];exact Paired.snoc r ⟨rfl,hb,ry⟩
theorem KT.keeps {H H':Hp}{kvs:List (List zC×V)}{xs:List (List zC×Addr×Value)}(r:KT H kvs xs)(ht: ∀b ys,H b=some (.tup ys)->H' b=some (.tup ys)):KT H' kvs xs:=
 Paired.mapP r λ_ _ z=>⟨z.1,ht _ _ z.2.1,z.2.2⟩
section
variable {P:Program} {w:World} {H:Hp} {h:Heap} {a:Addr}
theorem zhr {u:HO}(ok:yQ P w H h)(e:Rd H a u):x9 P w H h a u:=e.ok ok
theorem rG {kvs:List (zC×V)}(ok:yQ P w H h)(e:Rd H a (.dK kvs)):kvs.length<=sizeLine/\(a==sysModules)=false/\∃vs,KV kvs vs/\h.DictOf (xY P w) a vs:=
 show x9 P w H h a (.dK kvs)from zhr ok e
theorem eB {kvs:List (zC×V)}(ok:yQ P w H h)(e:H a=some (.dK kvs)):kvs.length<=sizeLine/\(a==sysModules)=false/\∃vs,KV kvs vs/\h.DictOf (xY P w) a vs:=rG ok (.inl e)
theorem pA {ks:List zC}(ok:yQ P w H h)(e:H a=some (.tup (ks.map kV))):(tupleKind (xY P w)).is h ks a:=by
 obtain⟨_,its,r,o,h1,h2,n,h3,_⟩:=(show x9 P w H h a (.tup (ks.map kV))from ok a _ e);exact⟨o,its.toArray,n,h1,h2,h3,by simpa using zfR r⟩
theorem qV {kvs:List (List zC×V)}(ok:yQ P w H h)(e:Rd H a (.dT kvs)):kvs.length<=sizeLine/\(a==sysModules)=false/\
  ∃xs,KT H kvs xs/\h.DictOfH (tupleKind (xY P w)) a xs:=by
 obtain⟨z,y,xs,r,o,es,ep,h1,h2,h3,h4,h5⟩:=(show x9 P w H h a (.dT kvs)from zhr ok e);refine⟨z,y,xs,r,o,es,ep,h1,h2,h3,h4,λx hx=> ?_,h5⟩;have all: ∀{l:List (List zC×V)} {m:List (List zC×Addr×Value)},KT H l m->∀x∈m,(tupleKind (xY P w)).is h x.1 x.2.1:=by
  intro l m q
  induction q with
  | nil=>intro x hx;exact nomatch hx
  | @cons p q ps qs hq t ih=>
   intro x hx;rcases List.mem_cons.mp hx with e | hx
   ·subst e
    exact pA ok (by rw[<- hq.1];exact hq.2.1)
   ·exact ih x hx
 exact all r x hx
theorem zkd {kvs:List (List zC×V)}(ok:yQ P w H h)(e:H a=some (.dT kvs)):kvs.length<=sizeLine/\(a==sysModules)=false/\
  ∃xs,KT H kvs xs/\h.DictOfH (tupleKind (xY P w)) a xs:=qV ok (.inl e)
end
def qF (H:Hp)(a:Addr)(y:V)(r:Option V):Prop:=
 (∃kvs k,Rd H a (.dK kvs)/\y=kV k/\r=vW kvs k)∨∃kvs k b,Rd H a (.dT kvs)/\y= .ref b/\H b=some (.tup (k.map kV))/\r=vW kvs k
def zi9 (H:Hp)(a:Addr)(y v:V)(H':Hp):Prop:=
 (∃kvs k,H a=some (.dK kvs)/\y=kV k/\kvs.length < sizeLine/\H'=upd H a (.dK (wX kvs k v)))∨
 ∃kvs k b,H a=some (.dT kvs)/\y= .ref b/\H b=some (.tup (k.map kV))/\kvs.length < sizeLine/\H'=upd H a (.dT (wX kvs k v))
section
variable {X:Cx} {pins:List (Addr×Obj)} {σ:St} {H:Hp} {s:Shared} {a:Addr} {y v:V} {u r:Value} {o:Option V} {A:Around} {E:Value->Shared->Prop}
theorem z6.big (I:z6 X pins σ H s):sysModules < s.heap.objs.size:=by
 have h:mainGlobals < s.heap.objs.size:=(I.mod.glob.keeps I.bk).lt;exact Nat.lt_trans (by decide) h
theorem zjP {Q:Value->Shared->Prop}(hu:A.units+1 < cLine)(I:z6 X pins σ H s)(g:qF H a y (some v))(ry:zL y u)(h: ∀w' s',z6 X pins σ H s'->zL v w'->Q w' s'):
  wpAny (model X.prog X.w) A (getItem (.ref a) u) Q E s:=by
 rcases g with⟨kvs,k,e,ey,l⟩ | ⟨kvs,k,b,e,ey,eb,l⟩
 ·subst ey
  obtain⟨z,hd,vs,rel,dd⟩:=rG I.hok e;obtain⟨w',hw,rw'⟩:=xS.some_of (v:=v) (o:=valueAt vs k) (by rw[l];exact rel.val k);exact wpAny_getItem_of (rM ry) dd.mapOf hw (h w' _ (I.tok _) rw')
 ·subst ey
  cases(show u=Value.ref b from ry);obtain⟨z,hd,xs,rel,dd⟩:=qV I.hok e;obtain⟨w',hw,rw'⟩:=xS.some_of (v:=v) (o:=(atKey xs k).map (·.2)) (by rw[l];exact rel.val k);obtain⟨p,hp,hp2⟩:=Option.map_eq_some_iff.mp hw;refine wpAny_getItem_heap (tupleKind_room_in1 hu) (pA I.hok eb) dd hp ?_;rw[hp2];exact h w' _ (I.tok _) rw'
theorem zjQ {Q:Value->Shared->Prop}(hu:A.units+1 < cLine)(I:z6 X pins σ H s)(g:qF H a y o)(ry:zL y u)(h: ∀s',z6 X pins σ H s'->Q (.bool o.isSome) s'):
  wpAny (model X.prog X.w) A (compareOp .In u (.ref a)) Q E s:=by
 rcases g with⟨kvs,k,e,ey,l⟩ | ⟨kvs,k,b,e,ey,eb,l⟩
 ·subst ey
  obtain⟨z,hd,vs,rel,dd⟩:=rG I.hok e;refine wpAny_in_of (rM ry) hd dd.mapOf ?_;rw[<- (rel.val k).isSome_eq,<- l];exact h _ (I.tok _)
 ·subst ey
  cases(show u=Value.ref b from ry);obtain⟨z,hd,xs,rel,dd⟩:=qV I.hok e;refine wpAny_in_heap (tupleKind_room_in1 hu) (pA I.hok eb) hd dd ?_;have q:=(rel.val k).isSome_eq;rw[Option.isSome_map]at q;rw[<- q,<- l];exact h _ (I.tok _)
theorem zjS {Q:Value->Shared->Prop}(hu:A.units+1 < cLine)(I:z6 X pins σ H s)(g:qF H a y o)(ry:zL y u)(h: ∀s',z6 X pins σ H s'->Q (.bool (!o.isSome)) s'):
  wpAny (model X.prog X.w) A (compareOp .NotIn u (.ref a)) Q E s:=by
 rcases g with⟨kvs,k,e,ey,l⟩ | ⟨kvs,k,b,e,ey,eb,l⟩
 ·subst ey
  obtain⟨z,hd,vs,rel,dd⟩:=rG I.hok e;refine wpAny_notIn_of (rM ry) hd dd.mapOf ?_;rw[<- (rel.val k).isSome_eq,<- l];exact h _ (I.tok _)
 ·subst ey
  cases(show u=Value.ref b from ry);obtain⟨z,hd,xs,rel,dd⟩:=qV I.hok e;refine wpAny_notIn_heap (tupleKind_room_in1 hu) (pA I.hok eb) hd dd ?_;have q:=(rel.val k).isSome_eq;rw[Option.isSome_map]at q;rw[<- q,<- l];exact h _ (I.tok _)
theorem e8 {h':Heap}{t':Nat}{ob:HO}(I:z6 X pins σ H s)(mu:nY (H a))(hs:Heap.SameBut a s.heap h')(he: ∃q,h'.get? a=some q)(new:x9 X.prog X.w (upd H a ob) h' a ob):
  z6 X pins σ (upd H a ob) {s with heap:=h',toks:=t'} :=
 I.write (x:=a) (e:=a) mu (.inl rfl) (λb q hb z=>(hs.2 b hb).trans z) he new
theorem zdP {P:Program}{w:World}{H':Hp}{h':Heap}{kvs:List (zC×V)}{vs:List (zC×Value)}(z:kvs.length<=sizeLine)(hd:(a==sysModules)=false)(rel:KV kvs vs)(dd:h'.DictOf (xY P w) a vs):
  x9 P w H' h' a (.dK kvs):=⟨z,hd,vs,rel,dd⟩
theorem zjT {H':Hp}{Q:Unit->Shared->Prop}(hu:A.units+1 < cLine)(I:z6 X pins σ H s)(g:zi9 H a y v H')(ry:zL y u)(rv:zL v r)(h: ∀s',z6 X pins σ H' s'->Q () s'):
  wpAny (model X.prog X.w) A (setItem (.ref a) u r) Q E s:=by
 rcases g with⟨kvs,k,e,ey,l,eH⟩ | ⟨kvs,k,b,e,ey,eb,l,eH⟩
 ·subst ey eH
  obtain⟨z,hd,vs,rel,dd⟩:=eB I.hok e;have hz:vs.length<=sizeLine:=by rw[<- rel.length];exact z
  have hl:(wX kvs k v).length<=sizeLine:=by have:=jH kvs k v;omega
  refine wpAny_setItem_pairs (hsz:=hz) (rM ry) dd λh' dd' hs=>h _ ?_;have he: ∃q,h'.get? a=some q:=let⟨q,_,_,hq,_⟩:=dd';⟨q,hq⟩;exact e8 I (by rw[e];exact True.intro) hs he (zdP hl hd (rel.put k rv) dd')
 ·subst ey eH
  cases(show u=Value.ref b from ry);obtain⟨z,hd,xs,rel,dd⟩:=zkd I.hok e;have hz:xs.length<=sizeLine:=by rw[<- Paired.length rel];exact z
  have hl:(wX kvs k v).length<=sizeLine:=by have:=jH kvs k v;omega
  refine wpAny_setItem_heap (hsz:=hz) (tupleKind_room_in1 hu) (pA I.hok eb) dd λh' dd' hs=>h _ ?_;obtain⟨q,es,ep,hq,h2,h3,h4,_,h5⟩:=dd';refine e8 I (by rw[e];exact True.intro) hs ⟨q,hq⟩ ⟨hl,hd,_,(rel.put k eb rv).keeps λc ys ec=> ?_,q,es,ep,hq,h2,h3,h4,h5⟩;rw[zU (oS ec e (λz=>nomatch z))];exact ec
end
section
variable {X:Cx} {pins:List (Addr×Obj)} {σ:St} {H:Hp} {s:Shared} {a:Addr} {kvs:List (zC×V)} {k:zC} {u:Value} {A:Around} {E:Value->Shared->Prop}
theorem zjR {Q:Value->Shared->Prop}(I:z6 X pins σ H s)(e:Rd H a (.dK kvs))(h: ∀t s',z6 X pins σ H s'->Q (.int kvs.length t) s'):wpAny (model X.prog X.w) A (call (.builtin "len") [.ref a]) Q E s:=by
 obtain⟨z,hd,vs,rel,dd⟩:=rG I.hok e;refine call_len_dict hd dd (by rw[<- rel.length];rw[sizeLine_eq]at z;omega) ?_;rw[<- rel.length];exact h _ _ (I.tok _)
end
theorem zka {X:Cx}{pins:List (Addr×Obj)}{σ:St}{H:Hp}{s:Shared}{a:Addr}{y:V}{o:Option V}(I:z6 X pins σ H s)(g:qF H a y o):s.TypeIs (.ref a) "dict" :=by
 rcases g with⟨kvs,k,e,_,_⟩ | ⟨kvs,k,b,e,_,_,_⟩
 ·obtain⟨_,_,vs,_,dd⟩:=rG I.hok e
  exact dd.typeIs
 ·obtain⟨_,_,xs,_,dd⟩:=qV I.hok e
  exact dd.typeIs
theorem zkc {P:Program}{w:World}{H:Hp}(h:Heap)(hb:sysModules < h.objs.size):x9 P w H (h.push {cls:= .type "dict",data:= .dict #[]}) h.objs.size (.dK []):=
 ⟨Nat.zero_le _,beq_eq_false_iff_ne.mpr (Ne.symm (Nat.ne_of_lt hb)),[],.nil,Heap.DictOf.new h⟩
def iZ:List (TE×TE)->St->Hp->(List (V×V)->Hp->Prop)->Prop
 | [],_,H,Q=>Q [] H
 | (tk,tv)::r,σ,H,Q=>tk σ H λx H1=>tv σ H1 λy H2=>iZ r σ H2 λps H3=>Q ((x,y)::ps) H3
abbrev VV:List (V×V)->List (Value×Value)->Prop:=Paired λp q=>zL p.1 q.1/\zL p.2 q.2
def r9 (X:Cx)(pos:Pos)(keys:List (Option Expr))(values:List Expr)(trs:List (TE×TE)):Prop:=
 ∀(pins:List (Addr×Obj)) (s:Shared) (σ:St) (H:Hp) (Q:List (V×V)->Hp->Prop),z6 X pins σ H s->iZ trs σ H Q->
  wpAny (model X.prog X.w) X.A (evalPairs (pairTrees keys values X.env pos)) (λvs s'=> ∃ps H',z6 X pins σ H' s'/\VV ps vs/\Q ps H') X.xe s
theorem znE {X:Cx}{pos:Pos} :r9 X pos [] [] []:=λpins s σ H Q I h=>pairTrees_nil_walk ⟨[],H,I,.nil,h⟩
theorem znD {X:Cx}{pos:Pos}{k v:Expr}{ks:List (Option Expr)}{vs:List Expr}{tk tv:TE}{trs:List (TE×TE)}(hk:PE X k tk)(hv:PE X v tv)(hr:r9 X pos ks vs trs):
  r9 X pos (some k::ks) (v::vs) ((tk,tv)::trs):=λpins s σ H Q I h=>
 pairTrees_cons_walk (zJ (hk pins s σ H _ I h) λu s1 ⟨x,H1,I1,rx,q1⟩=>zJ (hv pins s1 σ H1 _ I1 q1) λw2 s2 ⟨y,H2,I2,ry,q2⟩=>
  zJ (hr pins s2 σ H2 _ I2 q2) λws s3 ⟨ps,H3,I3,rel,q3⟩=>⟨(x,y)::ps,H3,I3,.cons ⟨rx,ry⟩ rel,q3⟩)
def pF (kvs more:List (zC×V)):List (zC×V):=more.foldl (λacc kv=>wX acc kv.1 kv.2) kvs
theorem KV.merge: ∀{more:List (zC×V)} {rs:List (zC×Value)} {kvs:List (zC×V)} {vs:List (zC×Value)},KV more rs->KV kvs vs->KV (pF kvs more) (merged vs rs):=by
 intro more rs kvs vs r;unfold KV at r
 induction r generalizing kvs vs with
 | nil=>intro q;exact q
 | @cons p q ps qs h t ih=>
  intro r0;have e:KV (wX kvs p.1 p.2) (stored vs q.1 q.2):=by
   have:=r0.put p.1 h.2;rw[<- h.1];exact this
  exact ih e
theorem zby: ∀(more kvs:List (zC×V)),(pF kvs more).length<=kvs.length+more.length
 | [],kvs=>by show kvs.length<=kvs.length+0;omega
 | p::r,kvs=>by
  have h1:=zby r (wX kvs p.1 p.2);have h2:=jH kvs p.1 p.2;show(pF (wX kvs p.1 p.2) r).length<=_;rw[List.length_cons];omega
theorem zdB {P:Program}{w:World} : ∀{kvs:List (zC×V)} {ws:List (Value×Value)},VV (kvs.map λkv=>(kV kv.1,kv.2)) ws->∃rs,Carries (xY P w) ws rs/\KV kvs rs
 | [],_,r=>by rw[List.map_nil]at r;cases r;exact⟨[],True.intro,.nil⟩
 | p::kvs,_,r=>by
  rw[List.map_cons]at r;cases r with
  | @cons a b as bs h t=>
   obtain⟨rs,c,q⟩:=zdB (P:=P) (w:=w) t;obtain⟨b1,b2⟩:=b;exact⟨(p.1,b2)::rs,⟨rM h.1,rfl,c⟩,.cons ⟨rfl,h.2⟩ q⟩
def zpM (trs:List (TE×TE)):TE:=λσ H Q=> ∀p,H p=none->iZ trs σ (upd H p (.dK [])) λps H2=>H2 p=some (.dK [])/\∃kvs:List (zC×V),ps=kvs.map (λkv=>(kV kv.1,kv.2))/\kvs.length<=15/\Q (.ref p) (upd H2 p (.dK (pF [] kvs)))
theorem znn {X:Cx}{pos:Pos}{keys:List (Option Expr)}{values:List Expr}{trs:List (TE×TE)}(h:r9 X pos keys values trs)(hall:keys.all (·.isSome)=true)(hl:keys.length=values.length)(h0:keys≠ [])
  (h15:keys.length<=15):PE X (.Dict keys values pos) (zpM trs):=by
 constructor;intro pins s σ H Q I q;have hn:=I.hok.fresh (Nat.le_refl s.heap.objs.size);have I1:=I.laid (a:=s.heap.objs.size) (o:= .dK []) (h':=s.heap.push {cls:= .type "dict",data:= .dict #[]}) (t':=s.toks) (λ_ _ q=>Heap.get?_push_of_some _ q) (Nat.le_refl _) (zkc s.heap I.big);refine wpAny_Dict_walk (knd:=xY X.prog X.w) hall hl h0 h15 (zJ (h pins _ σ _ _ I1 (q _ hn)) λws s2 ⟨ps,H2,I2,rel,e,kvs,ep,lk,q2⟩=> ?_);subst ep;obtain⟨rs,c,rk⟩:=zdB (P:=X.prog) (w:=X.w) rel;obtain⟨z,hd,vs0,r0,dd⟩:=eB I2.hok e;cases r0;refine⟨rs,c,dd,λh' dd' hs=>⟨.ref s.heap.objs.size,_,?_,rfl,q2⟩⟩;have hz:(pF [] kvs).length<=sizeLine:=by
  have h1:=zby kvs [];rw[List.length_nil]at h1;rw[sizeLine_eq];omega
 have he: ∃q,h'.get? s.heap.objs.size=some q:=let⟨q,_,_,hq,_⟩:=dd';⟨q,hq⟩;exact e8 I2 (by rw[e];exact True.intro) hs he (zdP hz hd (rk.merge .nil) dd')
section
variable {X:Cx} {pins:List (Addr×Obj)} {σ:St} {H:Hp} {s:Shared} {a:Addr} {y d:V} {u r:Value} {o:Option V} {A:Around} {E:Value->Shared->Prop}
theorem zjN {Q:Value->Shared->Prop}(hu:A.units+1 < cLine)(I:z6 X pins σ H s)(g:qF H a y o)(ry:zL y u)(h: ∀w' s',z6 X pins σ H s'->zL (o.getD .non) w'->Q w' s'):
  wpAny (model X.prog X.w) A (call (.builtin "dict.get") [.ref a,u]) Q E s:=by
 rcases g with⟨kvs,k,e,ey,l⟩ | ⟨kvs,k,b,e,ey,eb,l⟩
 ·subst ey
  obtain⟨z,hd,vs,rel,dd⟩:=rG I.hok e;refine call_meetsIn PySem.F.slot_dict_get dd.typeIs PySem.F.entry_dict_get (PySem.F.args_dict_get_2 _ _) (meets_dict_get (xY X.prog X.w) a (rM ry) hd) ⟨_,dd.mapOf,h _ _ (I.tok _) ?_⟩;rw[l];exact(rel.val k).getD rfl
 ·subst ey
  cases(show u=Value.ref b from ry);obtain⟨z,hd,xs,rel,dd⟩:=qV I.hok e;refine call_meetsIn PySem.F.slot_dict_get dd.typeIs PySem.F.entry_dict_get (PySem.F.args_dict_get_2 _ _) (meetsH_dict_get (tupleKind (xY X.prog X.w)) a b hd) ⟨tupleKind_room_in1 hu,k,xs,pA I.hok eb,dd,h _ _ (I.tok _) ?_⟩;rw[l];exact(rel.val k).getD rfl
theorem zjO {Q:Value->Shared->Prop}(hu:A.units+1 < cLine)(I:z6 X pins σ H s)(g:qF H a y o)(ry:zL y u)(rd:zL d r)(h: ∀w' s',z6 X pins σ H s'->zL (o.getD d) w'->Q w' s'):
  wpAny (model X.prog X.w) A (call (.builtin "dict.get") [.ref a,u,r]) Q E s:=by
 rcases g with⟨kvs,k,e,ey,l⟩ | ⟨kvs,k,b,e,ey,eb,l⟩
 ·subst ey
  obtain⟨z,hd,vs,rel,dd⟩:=rG I.hok e;refine call_meetsIn PySem.F.slot_dict_get dd.typeIs PySem.F.entry_dict_get (PySem.F.args_dict_get_3 _ _ _) (meets_dict_get_default (xY X.prog X.w) a (rM ry) hd r) ⟨_,dd.mapOf,h _ _ (I.tok _) ?_⟩;rw[l];exact(rel.val k).getD rd
 ·subst ey
  cases(show u=Value.ref b from ry);obtain⟨z,hd,xs,rel,dd⟩:=qV I.hok e;refine call_meetsIn PySem.F.slot_dict_get dd.typeIs PySem.F.entry_dict_get (PySem.F.args_dict_get_3 _ _ _) (meetsH_dict_get_default (tupleKind (xY X.prog X.w)) a b hd r) ⟨tupleKind_room_in1 hu,k,xs,pA I.hok eb,dd,h _ _ (I.tok _) ?_⟩;rw[l];exact(rel.val k).getD rd
end
section
variable {X:Cx}
theorem zj6:xK X (.builtin "len") (λxs H Q=> ∃a kvs,xs= [V.ref a]/\H a=some (.dK kvs)/\Q (.int kvs.length) H):=by
 intro pins s σ H xs us Q I r h;obtain⟨a,kvs,rfl,ha,q⟩:=h;obtain⟨u,rfl,ru⟩:=qC r;cases ru;exact zjR I (.inl ha) λt s' I'=>⟨.int kvs.length,H,I',⟨t,rfl⟩,q⟩
end
set_option maxHeartbeats 4000000
theorem zbo {X:Cx}{pins:List (Addr×Obj)}{σ:St}{H:Hp}{s:Shared}{D:Addr}{o:HO}(I:z6 X pins σ H s)(hn:H D=none)(hs:X.s₀.heap.objs.size<=D)(hL:D≠X.env.locals)
  (hc: ∀x c,X.env.cells.lookup x=some c->c≠D) (hp: ∀p∈X.pn++pins,p.1≠D) (new:x9 X.prog X.w (upd H D o) s.heap D o):z6 X pins σ (upd H D o) s:=by
 have low: ∀{b:Addr} {u:Obj},X.s₀.heap.get? b=some u->b≠D:=λe=>Nat.ne_of_lt (Nat.lt_of_lt_of_le (Heap.lt_size e) hs);refine⟨I.ok,I.os,I.bare,⟨I.base.keep,I.base.slot,λb u e n hx=> ?_,I.base.there,λb xs e=> ?_,λb u v e=> ?_,λb ps e=> ?_⟩,I.loc,I.cell,?_,λx c e=> ?_,λp hm=> ?_,λb u e=> ?_,I.len⟩
 ·rw[zU (low e)];exact I.base.free b u e n hx
 ·have q:=I.base.tups b xs e
  rw[zU (xZ q hn)];exact q
 ·have q:=I.base.frzs b u v e
  rw[zU (xZ q hn)];exact q
 ·obtain⟨more,q⟩:=I.base.tbls b ps e
  exact⟨more,by rw[zU (xZ q hn)];exact q⟩
 ·rw[zU (Ne.symm hL)];exact I.free
 ·rw[zU (hc x c e)];exact I.freeC x c e
 ·obtain⟨e,n,r⟩:=I.pin p hm
  exact⟨e,by rw[zU (hp p hm)];exact n,r⟩
 ·by_cases hb:b=D
  ·subst hb;rw[xC]at e;cases e;exact new
  ·rw[zU hb]at e
   exact(I.hok b u e).stay (λc v _ q=>q) (λc q=>by rw[zU (xZ q hn)];exact q) λc xs q=>by rw[zU (xZ q hn)];exact q
theorem zk0 {α β:Type}{l:List α}{f:α->β->Sem (ForInStep β)}{g:α->β->β}(h: ∀x∈l,∀b,f x b=pure (.yield (g x b)))(b:β):forIn l b f=pure (l.foldl (λb x=>g x b) b):=by
 induction l generalizing b with
 | nil=>rfl
 | cons x l ih=>
  rw[List.forIn_cons,h x List.mem_cons_self,pure_bind];exact ih (λy hy=>h y (List.mem_cons_of_mem _ hy)) _
def qU (cells:List (Str×Addr))(p:Str×NameKind)(cs:List (Str×Addr)):List (Str×Addr):=if p.2== .free then(p.1,(cells.lookup p.1).getD 0)::cs else cs
def vJ (names:List (Str×NameKind))(cells:List (Str×Addr)):List (Str×Addr):=names.foldl (λcs p=>qU cells p cs) []
theorem fX {scope:Scope}{env:Env}(h: ∀p∈scope.names,p.2= .free->∃c,env.cells.lookup p.1=some c):closureFor scope env=pure (vJ scope.names env.cells):=by
 unfold closureFor;dsimp only;rw[zk0 (g:=λp cs=>qU env.cells p cs) (λp hp cs=> ?_)]
 ·rfl
 ·obtain⟨n,k⟩:=p
  unfold qU;by_cases hk:k= .free
  ·obtain⟨c,e⟩:=h _ hp hk
   subst hk;simp only[cellOf,e,beq_self_eq_true,if_true,Option.getD_some]
   rfl
  ·have:(k==NameKind.free)=false:=by simpa using hk
   simp only[this,Bool.false_eq_true,if_false]
theorem zgn {cells:List (Str×Addr)} : ∀(names:List (Str×NameKind)) (acc:List (Str×Addr)) (p:Str×Addr),p∈names.foldl (λcs q=>qU cells q cs) acc->p∈acc∨((p.1,NameKind.free)∈names/\p.2=(cells.lookup p.1).getD 0)
 | [],acc,p,h=> .inl h
 | q::r,acc,p,h=>by
  rw[List.foldl_cons]at h;rcases zgn r _ p h with h | ⟨h1,h2⟩
  ·unfold qU at h
   obtain⟨n,k⟩:=q
   split at h
   ·rename_i hk
    rcases List.mem_cons.mp h with e | h
    ·refine .inr ⟨?_,by rw[e]⟩
     have hk':k= .free:=by simpa using hk
     rw[e,hk'];exact List.mem_cons_self
    ·exact .inl h
   ·exact .inl h
  ·exact .inr ⟨List.mem_cons_of_mem _ h1,h2⟩
theorem zdG {cells:List (Str×Addr)}{x:Str} : ∀(names:List (Str×NameKind)) (acc:List (Str×Addr)),((x,NameKind.free)∈names∨∃c,(x,c)∈acc)->∃c,(x,c)∈names.foldl (λcs q=>qU cells q cs) acc
 | [],acc,h=>by
  rcases h with h | h
  ·cases h
  ·exact h
 | q::r,acc,h=>by
  rw[List.foldl_cons];refine zdG r _ ?_;rcases h with h | ⟨c,h⟩
  ·rcases List.mem_cons.mp h with e | h
   ·refine .inr ⟨(cells.lookup x).getD 0,?_⟩
    rw[<- e];show _∈(if(NameKind.free==NameKind.free)=true then _ else _);rw[if_pos (by rfl)];exact List.mem_cons_self
   ·exact .inl h
  ·refine .inr ⟨c,?_⟩
   unfold qU
   split
   ·exact List.mem_cons_of_mem _ h
   ·exact h
theorem zgh {β:Type}{x:Str} : ∀{l:List (Str×β)} {c:β},(x,c)∈l->∃d,l.lookup x=some d
 | [],_,h=>nomatch h
 | (y,d)::r,c,h=>by
  rw[List.lookup_cons];by_cases e:x=y
  ·subst e;exact⟨d,by simp⟩
  ·rcases List.mem_cons.mp h with q | q
   ·cases q;exact absurd rfl e
   ·obtain⟨d',q'⟩:=zgh q
    have:(x==y)=false:=by simpa using e
    rw[this];exact⟨d',q'⟩
theorem zdH {names:List (Str×NameKind)}{cells:List (Str×Addr)}{x:Str}{c:Addr}(h:(vJ names cells).lookup x=some c):(x,NameKind.free)∈names/\c=(cells.lookup x).getD 0:=by
 rcases zgn names [] (x,c) (PySem.mem_of_lookup h)with h | h
 ·cases h
 ·exact h
theorem zdI {names:List (Str×NameKind)}{cells:List (Str×Addr)}{x:Str}(h:(x,NameKind.free)∈names):(vJ names cells).lookup x=some ((cells.lookup x).getD 0):=by
 obtain⟨c,hc⟩:=zdG (cells:=cells) names [] (.inl h);obtain⟨d,hd⟩:=zgh hc;rw[show(vJ names cells).lookup x=some d from hd,(zdH hd).2]
abbrev yF (X:Cx)(scope:Scope)(Nc:List Str)(C:Addr)(s:Shared)(H:Hp)(fp:List Addr)(pins:List (Addr×Obj)):Cx:=
 {X with N:=Nc,s₀:=s,H₀:=H,env:=compEnvC scope (vJ scope.names X.env.cells) C X.env,outer:=X.stack,stack:=X.stack,ex:=fp,fn:=λ_=>false,pn:=X.pn++pins,xe:=λ_ _=>False}
structure uQ (X:Cx)(scope:Scope)(N' own:List Str):Prop where
 kind:scope.kind= .function
 nocell: ∀y∈scope.names,y.2≠ .cell
 names: ∀y∈scope.names,y.2= .local->scope.names.lookup y.1=some .local
 frees: ∀y∈scope.names,y.2= .free->X.env.scope.names.lookup y.1=some .cell∨X.env.scope.names.lookup y.1=some .free
 len:N'.length=X.N.length
 pre: ∀(i:Nat) (y:Str),N'[i]?=some y->X.N[i]?=some y∨(y,NameKind.free)∉scope.names
 nol: ∀y∈N',scope.names.lookup y≠some .local
theorem i5 {env:Env}{x:Str} : ∀{names:List (Str×NameKind)} {k:NameKind},
  (names.map λ(n,k)=>if(k==NameKind.free&&env.scope.kind== .function&&env.kindOf n==some .cell)then(n,NameKind.cell)else(n,k)).lookup x=some k->
  names.lookup x=some k∨(k= .cell/\names.lookup x=some .free)
 | [],k,h=>by simp at h
 | (n,j)::r,k,h=>by
  have h':List.lookup x ((if(j==NameKind.free&&env.scope.kind== .function&&env.kindOf n==some .cell)=true then(n,NameKind.cell)else(n,j))::
   r.map λ(n,k)=>if(k==NameKind.free&&env.scope.kind== .function&&env.kindOf n==some .cell)then(n,NameKind.cell)else(n,k))=some k:=h
  cases hx:x==n with
  | true=>
   by_cases hc:(j==NameKind.free&&env.scope.kind== .function&&env.kindOf n==some .cell)=true
   ·rw[if_pos hc]at h'
    simp only[List.lookup_cons,hx]at h'⊢
    simp only[Bool.and_eq_true,beq_iff_eq]at hc;cases h';exact .inr ⟨rfl,by rw[hc.1.1]⟩
   ·rw[if_neg hc]at h'
    simp only[List.lookup_cons,hx]at h'⊢
    exact .inl h'
  | false=>
   have q:(r.map λ(n,k)=>if(k==NameKind.free&&env.scope.kind== .function&&env.kindOf n==some .cell)then(n,NameKind.cell)else(n,k)).lookup x=some k:=by
    by_cases hc:(j==NameKind.free&&env.scope.kind== .function&&env.kindOf n==some .cell)=true
    ·rw[if_pos hc]at h';simpa only[List.lookup_cons,hx]using h'
    ·rw[if_neg hc]at h';simpa only[List.lookup_cons,hx]using h'
   simp only[List.lookup_cons,hx];exact i5 q
section
variable {X:Cx} {pins:List (Addr×Obj)} {σ:St} {H:Hp} {s:Shared} {scope:Scope} {N' own:List Str}
theorem uQ.cells (S:uQ X scope N' own)(I:z6 X pins σ H s): ∀p∈scope.names,p.2= .free->∃c,X.env.cells.lookup p.1=some c:=λp hp hk=>I.ok.has p.1 (S.frees p hp hk)
theorem uV (S:uQ X scope N' own)(I:z6 X pins σ H s){x:Str}{c:Addr}(h:(vJ scope.names X.env.cells).lookup x=some c):X.env.cells.lookup x=some c:=by
 obtain⟨hm,e⟩:=zdH h;obtain⟨d,hd⟩:=S.cells I _ hm rfl;rw[hd]at e;rw[hd,e]
 rfl
theorem zbn (S:uQ X scope N' own)(I:z6 X pins σ H s){C D:Addr}{oD:Obj}{fp:List Addr}{h4:Heap}{tk:Nat}{m:Str->Option Value}(k: ∀b u,s.heap.get? b=some u->h4.get? b=some u)(hC:s.heap.objs.size<=C)(hD:s.heap.objs.size<=D)(hDC:D≠C)(eD:h4.get? D=some oD)(cD: ∀v,oD.data≠ .cell v)
  (ns:h4.Ns C m) (ff: ∀b∈fp,t6 X pins H b) (fl: ∀b∈fp,b < s.heap.objs.size):
  z6 (yF X scope (N'++own) C s H fp pins) [(D,oD)] (σ++List.replicate own.length none) H {s with heap:=h4,toks:=tk} :=by
 have nostk: ∀{b:Addr},s.heap.objs.size<=b->b∉yX X.stack:=λ{b} hb hm=>by
  rcases List.mem_cons.mp (I.stkSub b hm)with e | hm
  ·rw[e]at hb;exact absurd (Nat.lt_of_lt_of_le I.lt hb) (Nat.lt_irrefl _)
  ·exact I.nofs hb hm
 have lk: ∀x,((compEnvC scope (vJ scope.names X.env.cells) C X.env).kindOf x=some .cell∨(compEnvC scope (vJ scope.names X.env.cells) C X.env).kindOf x=some .free)->(x,NameKind.free)∈scope.names:=λx hx=>by
  have q:scope.names.lookup x=some .cell∨scope.names.lookup x=some .free:=by
   rcases hx with hx | hx
   ·rcases i5 (env:=X.env) (names:=scope.names) hx with q | ⟨_,q⟩
    ·exact .inl q
    ·exact .inr q
   ·rcases i5 (env:=X.env) (names:=scope.names) hx with q | ⟨z,_⟩
    ·exact .inr q
    ·cases z
  rcases q with q | q
  ·exact absurd rfl (S.nocell _ (PySem.mem_of_lookup q))
  ·exact PySem.mem_of_lookup q
 refine⟨⟨I.ok.mod,S.kind,I.ok.glob,I.ok.blt,hC,λx y c h1 h2=> ?_,λx hx=> ?_,λx c h=> ?_,I.ok.hd,I.ok.frames,.inl rfl,λb hb=>⟨?_,λx c h=> ?_⟩,I.bs,Nat.le_trans I.ok.bsz I.sz,λb o e hb=> ?_,λb hb hm=> ?_,I.stack,I.stkFree⟩,
  rfl,I.bare,Un.kept k,⟨m,ns,λi x v e1 e2 e3=> ?_⟩,λx c h=> ?_,I.hok.fresh hC,λx c h=> ?_,λp hp=> ?_,I.hok.kept k,?_⟩
 ·exact I.ok.inj x y c (uV S I h1) (uV S I h2)
 ·exact⟨_,zdI (lk x hx)⟩
 ·cases h
 ·have:=fl b hb;intro e;rw[e]at this;exact absurd (Nat.lt_of_lt_of_le this hC) (Nat.lt_irrefl _)
 ·exact(ff b hb).2.2.2.2.1 x c (uV S I h)
 ·rcases(ff b hb).2.2.2.1 with z | z
  ·exact I.ok.noex b o e z
  ·exact absurd (Nat.lt_of_lt_of_le (Heap.lt_size e) (Nat.le_trans I.ok.bsz z)) (Nat.lt_irrefl _)
 ·rcases List.mem_cons.mp (I.stkSub b hm)with e | hm
  ·exact(ff b hb).2.1 e
  ·exact(ff b hb).2.2.1 hm
 ·-- names
  have hi:i < σ.length:=by
   by_cases hi:i < σ.length
   ·exact hi
   ·rw[List.getElem?_append_right (by omega),List.getElem?_replicate]at e2
    split at e2 <;> cases e2
  rw[List.getElem?_append_left hi]at e2;have hN:N'[i]?=some x:=by
   have e1':(N'++own)[i]?=some x:=e1;rw[List.getElem?_append_left (by rw[S.len,<- I.len];exact hi)]at e1';exact e1'
  have e3':((compEnvC scope (vJ scope.names X.env.cells) C X.env).kindOf x=some .cell∨(compEnvC scope (vJ scope.names X.env.cells) C X.env).kindOf x=some .free)∨(compEnvC scope (vJ scope.names X.env.cells) C X.env).kindOf x=some .local:=by
   rcases e3 with z | z | z
   ·exact .inr z
   ·exact .inl (.inl z)
   ·exact .inl (.inr z)
  rcases e3' with e3' | e3'
  ·have hm:=lk x e3'
   rcases S.pre i x hN with hX | hX
   ·have fr:=S.frees _ hm rfl
    obtain⟨m0,hn0,hl0⟩:=I.loc;obtain⟨u,r,l⟩:=hl0 i x v hX e2 (by rcases fr with z | z;exact .inr (.inl z);exact .inr (.inr z));refine⟨u,r,.inr ⟨e3',?_⟩⟩;rcases l with⟨z,_⟩ | ⟨_,c,ec,⟨o,ho,hd⟩⟩
    ·rcases fr with f | f <;> (have z':X.env.scope.names.lookup x=some .local:=z;rw[f]at z';cases z')
    ·refine⟨c,?_,⟨o,k _ _ ho,hd⟩⟩
     show(vJ scope.names X.env.cells).lookup x=some c;rw[zdI hm,ec]
     rfl
   ·exact absurd hm hX
  ·-- a local of the block among the outer names:hidden
   rcases i5 (env:=X.env) (names:=scope.names) e3' with q | ⟨z,_⟩
   ·exact absurd q (S.nol x (List.mem_of_getElem? hN))
   ·cases z
 ·obtain⟨v,o,ho,hd⟩:=I.cell x c (uV S I h)
  exact⟨v,o,k _ _ ho,hd⟩
 ·exact I.freeC x c (uV S I h)
 ·have hp':p∈(X.pn++pins)++ [(D,oD)]:=hp
  rcases List.mem_append.mp hp' with hp' | hp'
  ·obtain⟨e,n,ne,nf,d⟩:=I.pin p hp'
   refine⟨k _ _ e,n,Nat.ne_of_lt (Nat.lt_of_lt_of_le (Heap.lt_size e) hC),λhm=> ?_,d⟩;rcases List.mem_cons.mp (I.stkSub p.1 hm)with z | z
   ·exact ne z
   ·exact nf z
  ·have e:p=(D,oD):=by simpa using hp'
   subst e;exact⟨eD,I.hok.fresh hD,hDC,nostk hD,cD⟩
 ·show(σ++List.replicate own.length none).length=(N'++own).length
  rw[List.length_append,List.length_append,List.length_replicate,S.len,I.len]
abbrev fZ (ifs:List Expr)(env:Env):Sem Bool:=forIn ifs true λc r=>if r=true then do let ok <- isTrue c env (eval c env);pure (ForInStep.yield ok)else pure (ForInStep.yield r)
theorem fY {prog:Program}{w:World}{A:Around}{R:Result->Shared->Prop}{s:Shared}{elt target iter:Expr}{ifs:List Expr}{scope:Scope}{pos:Pos}{it acc:Value}{env:Env}(I:Nat->Shared->Prop)
  (turn: ∀n s,I n s->wpAny (model prog w) A (pyNext it) (λr s₁=>match r with
   | none=>R (.ok .next) s₁
   | some v=>wpAny (model prog w) A (letOwnedTupleGo target it v) (λ_ s₁'=>wpAny (model prog w) A (assign target env v) (λ_ s₂=>
     wpAny (model prog w) A (fZ ifs env) (λok s₃=>
      if ok=true then wpAny (model prog w) A (eval elt env) (λx s₄=>
       wpAny (model prog w) A (call (.builtin "list.append") [acc,x]) (λ_ s₅=> ∃m,m < n/\I m s₅) (notedBy (model prog w) A env λe s'=>R (.error e) s') s₄) (notedBy (model prog w) A env λe s'=>R (.error e) s') s₃
      else ∃m,m < n/\I m s₃) (notedBy (model prog w) A env λe s'=>R (.error e) s') s₂) (notedBy (model prog w) A env λe s'=>R (.error e) s') s₁') (notedBy (model prog w) A env λe s'=>R (.error e) s') s₁) (notedBy (model prog w) A env λe s'=>R (.error e) s') s)
  (n:Nat) (h:I n s):
  codeAny (model prog w) A (.compLoop (.ListComp elt [⟨target,iter,ifs,0⟩] scope pos) 0 it acc env) R s:=by
 refine codeAny_loop rfl I (λn s hI=> ?_) n h;show wpAny _ A ((compTurn (.ListComp elt [⟨target,iter,ifs,0⟩] scope pos) 0 it acc env).onRaise (λx=>do noteFrame x env;theTreesLotGoes x)) _ _ s;refine wpAny_noted ?_;rw[compTurn_list];refine wpAny_bind (wpAny_standAt (wpAny_bind (wpAny_mono (turn n s hI) (λr s₁ h₁=> ?_) λ_ _ h'=>h')));cases r with
 | none=>exact wpAny_pure h₁
 | some v=>
  refine wpAny_bind (wpAny_mono h₁ (λ_ s₁' h₁'=> ?_) λ_ _ h'=>h');refine wpAny_bind (wpAny_mono h₁' (λ_ s₂ h₂=>wpAny_bind (wpAny_mono h₂ (λok s₃ h₃=> ?_) λ_ _ h'=>h')) λ_ _ h'=>h');cases ok with
  | false=>exact wpAny_pure ⟨rfl,h₃⟩
  | true=>
   exact wpAny_bind (wpAny_bind (wpAny_mono h₃ (λx s₄ h₄=>wpAny_bind (wpAny_mono h₄ (λ_ s₅ h₅=>wpAny_pure (wpAny_pure ⟨rfl,h₅⟩)) λ_ _ h'=>h')) λ_ _ h'=>h'))
structure PF (X:Cx)(ifs:List Expr)(t:TT):Prop where
 run:
  ∀(pins:List (Addr×Obj)) (s:Shared) (σ:St) (H:Hp) (Q:Bool->Hp->Prop),z6 X pins σ H s->t σ H Q->wpAny (model X.prog X.w) X.A (fZ ifs X.env) (TP X pins σ Q) X.xe s
instance {X:Cx} {ifs:List Expr} {t:TT} :CoeFun (PF X ifs t) λ_=>
 ∀(pins:List (Addr×Obj)) (s:Shared) (σ:St) (H:Hp) (Q:Bool->Hp->Prop),z6 X pins σ H s->t σ H Q->wpAny (model X.prog X.w) X.A (fZ ifs X.env) (TP X pins σ Q) X.xe s
  :=⟨PF.run⟩
def zqh:TT:=λ_ H Q=>Q true H
theorem zn0 {X:Cx} :PF X [] zqh:=⟨λ_ _ _ H _ I h=>wpAny_tests_nil ⟨H,I,h⟩⟩
theorem zn1 {X:Cx}{c:Expr}{t:TT}(h:PT X c t):PF X [c] t:=⟨λpins s σ H Q I q=>wpAny_tests_one (h pins s σ H Q I q)⟩
theorem sJ {α:Type}{M:Model}{A:Around}{E:Value->Shared->Prop}{s:Shared}{t:Sem α}{Q Q':α->Shared->Prop}(h:wpAny M A t Q (λ_ _=>False) s)(k: ∀a s,Q a s->Q' a s):wpAny M A t Q' E s:=wpAny_mono h k λ_ _ z=>z.elim
def zcV (own:Nat)(J:It)(g:TG)(tt:TT)(te:TE)(Q:VK)(σ:St)(H1:Hp):Prop:= ∃W:Nat->Nat->List V->St->Hp->Prop,(∃m,W 0 m [] (σ++List.replicate own none) H1)/\∀i m ys σ' H',W i m ys σ' H'->
 (J.stop i H'/\ys.length<=sizeLine/\∀D,H' D=none->Q (.ref D) (upd H' D (.lst ys)))∨
 (J.go i H'/\ys.length < sizeLine/\∃N:List V->St->Hp->Prop,(∀ys σ3 H3,N ys σ3 H3->∃m',m' < m/\W (i+1) m' ys σ3 H3)/\
  ∀x H2,J.yld i H' x H2->g x σ' H2 λσ3 H3=>tt σ3 H3 λb H4=>if b=true then te σ3 H4 λy H5=>N (ys++ [y]) σ3 H5 else N ys σ3 H4)
def iY (own:Nat)(wi:TI)(g:TG)(tt:TT)(te:TE):TE:=λσ H Q=>wi σ H λJ H1=>zcV own J g tt te Q σ H1
theorem znl {elt target iter:Expr}{ifs:List Expr}{pos:Pos}{wi:TI}{g:TG}{tt:TT}{te:TE}(S:uQ X scope N' own)(hc:X.calm=true)(hi:PI X target iter wi)
  (hg: ∀C s H fp pins,PG (yF X scope (N'++own) C s H fp pins) target g) (ht: ∀C s H fp pins,PF (yF X scope (N'++own) C s H fp pins) ifs tt) (he: ∀C s H fp pins,PE (yF X scope (N'++own) C s H fp pins) elt te)
  (hs: ∀x,foldedSetIterable iter X.env x=pure x:=by intro _;rfl):
  PE X (.ListComp elt [⟨target,iter,ifs,0⟩] scope pos) (iY own.length wi g tt te):=by
 constructor;intro pins s σ H Q I h;rw[eval_ListComp];refine wpAny_comprehension_free (use:=none) rfl hs (fX (S.cells I)) S.kind S.names ?_;refine zJ (hi pins s σ H _ I h) λv s1 h1=>zJ h1 λitv s2 h2=> ?_;obtain⟨it,fp,tn,J,H2,e,I2,T,st2,f2,W,⟨m0,w0⟩,turn⟩:=h2;subst e;have fl: ∀b∈fp,b < s2.heap.objs.size:=λb hb=>by obtain⟨o,e,_⟩:=T.obj _ _ st2 b hb;exact Heap.lt_size e
 refine wpAny_newObj_type (wpAny_newFunctionEnv S.nocell (by intro y hy;simp at hy) (λh4 ns4 sb4=> ?_) S.kind);dsimp only at ns4 sb4⊢
 generalize hH3:s2.heap.push {cls:= .type "list",dict:=none,data:= .seq ([]:List Value).toArray} =h3 at ns4 sb4⊢
 have hC:h3.objs.size=s2.heap.objs.size+1:=by rw[<- hH3,Heap.size_push]
 have hDC:s2.heap.objs.size≠h3.objs.size:=by rw[hC];exact Nat.ne_of_lt (Nat.lt_succ_self _)
 have hCle:s2.heap.objs.size<=h3.objs.size:=by rw[hC];exact Nat.le_succ _
 have eD3:h3.get? s2.heap.objs.size=some {cls:= .type "list",data:= .seq ([]:List Value).toArray} :=hH3▸Heap.get?_push_size _ rfl;have k4: ∀b u,s2.heap.get? b=some u->h4.get? b=some u:=λb u e=>
  (sb4.2 b (Nat.ne_of_lt (Nat.lt_of_lt_of_le (Heap.lt_size e) hCle))).trans (Heap.get?_push_of_some _ (hH3▸Heap.get?_push_of_some _ e))
 have eD4:h4.get? s2.heap.objs.size=some {cls:= .type "list",data:= .seq ([]:List Value).toArray} :=(sb4.2 _ hDC).trans (Heap.get?_push_of_some _ eD3);generalize hDd:s2.heap.objs.size=D at *;generalize hCd:h3.objs.size=C at *;have I4:=zbn S I2 (C:=C) (D:=D) (fp:=fp) (h4:=h4) (tk:=s2.toks+([]:List (Str×Value)).length) k4 (by rw[hDd];exact hCle) (by rw[hDd];exact Nat.le_refl _) hDC eD4 (by intro v z;cases z) ns4 f2 (by rw[hDd];exact fl);have lowC: ∀(b:Addr) (u:Obj),s2.heap.get? b=some u->b≠C:=λb u e=>Nat.ne_of_lt (Nat.lt_of_lt_of_le (Heap.lt_size e) (by rw[hDd];exact hCle));have nofp: ∀b∈fp,b∉yX X.stack:=λb hb hm=>by
  rcases List.mem_cons.mp (I2.stkSub b hm)with z | z
  ·exact(f2 b hb).2.1 z
  ·exact(f2 b hb).2.2.1 z
 have fpD: ∀b∈fp,b≠D:=λb hb=>Nat.ne_of_lt (fl b hb);have stat: ∀{H':Hp} {o:Obj},(∀b∈fp,H' b=none)->∀b∈fp,t6 (yF X scope (N'++own) C s2 H2 fp pins) [(D,o)] H' b:=λ{H' o} hn b hb=>
  ⟨hn b hb,Nat.ne_of_lt (Nat.lt_of_lt_of_le (fl b hb) hCle),nofp b hb,.inl hb,λx c e=>(f2 b hb).2.2.2.2.1 x c (uV S I2 e),λp hp=>by
   have hp':p∈(X.pn++pins)++ [(D,o)]:=hp;rcases List.mem_append.mp hp' with z | z
   ·exact(f2 b hb).2.2.2.2.2 p z
   ·have e:p=(D,o):=by simpa using z
    rw[e];exact Ne.symm (fpD b hb)⟩
 have loop: ∀s3:Shared,z6 (yF X scope (N'++own) C s2 H2 fp pins) [(D,{cls:= .type "list",data:= .seq ([]:List Value).toArray})] (σ++List.replicate own.length none) H2 s3->tn 0 s3.heap->
   codeAny (model X.prog X.w) X.A (.compLoop (.ListComp elt [⟨target,iter,ifs,0⟩] scope pos) 0 (.ref it) (.ref D) (compEnvC scope (vJ scope.names X.env.cells) C X.env))
    (compPost (model X.prog X.w) X.A X.xe none (EP X pins σ Q) (.ref D) C) s3:=by
  intro s3 I3 st3;refine fY (λn s'=> ∃(i:Nat) (ys:List V) (σ':St) (H':Hp) (vals:List Value) (cnt:Nat),z6 (yF X scope (N'++own) C s2 H2 fp pins) [(D,{cls:= .type "list",data:= .seq vals.toArray cnt})] σ' H' s'/\
   tn i s'.heap/\(∀b∈fp,H' b=none)/\zI ys vals/\W i n ys σ' H') ?_ m0 ⟨0,[],_,H2,[],0,I3,st3,λb hb=>(f2 b hb).1,.nil,w0⟩
  rintro n s3 ⟨i,ys,σ3,H3,vals,cnt,I3,st3,fr3,rv,w3⟩;rcases turn i n ys σ3 H3 w3 with⟨stop,hz,q⟩ | ⟨go,hz,N,hN,step⟩
  ·refine zJ (T.done (yF X scope (N'++own) C s2 H2 fp pins) rfl rfl rfl hc i _ s3 σ3 H3 _ I3 (stat fr3) st3 stop) λr s4 ⟨hr,I4⟩=> ?_
   subst hr;obtain⟨m,ns,_⟩:=id I4.loc;refine⟨m,ns,λh' sb=> ?_⟩;have u4:Un (yX X.stack) fp H2 H3 s2.heap s4.heap:=I4.base;have nC:H3 C=none:=I4.free;have keepC: ∀(b:Addr) (u:Obj),b≠C->s4.heap.get? b=some u->h'.get? b=some u:=λb u hb e=>(sb.2 b hb).trans e;have u':Un (yX X.stack) fp H2 H3 s2.heap h':=
    ⟨λb o e n hb hx=>keepC b o (lowC b o e) (u4.keep b o e n hb hx),λb o e n hb hx=>let⟨sl,q⟩:=u4.slot b o e n hb hx;⟨sl,keepC _ _ (lowC b o e) q⟩,u4.free,λb o e hx=>let⟨o',q⟩:=u4.there b o e hx;⟨o',keepC _ _ (lowC b o e) q⟩,u4.tups,u4.frzs,u4.tbls⟩
   have hok':yQ X.prog X.w H3 h':=λb u e=>(I4.hok b u e).stay (λc v hc' q=>keepC c v (by
    rintro rfl;rcases hc' with z | z
    ·rw[<- z,nC]at e;cases e
    ·rw[nC]at z;cases z) q) (λ_ q=>q) λ_ _ q=>q
   have I5:z6 X pins σ H3 {s4 with heap:=h'} :=I2.call' (ch:=fp) (s':= {s4 with heap:=h'}) I4.os u' hok' I4.bare λb hb=>⟨(f2 b hb).2.2.2.1,(f2 b hb).2.1,(f2 b hb).2.2.2.2.1,(f2 b hb).2.2.2.2.2⟩;obtain⟨eD,nD,_⟩:=I4.pin (D,_) (List.mem_append_right _ List.mem_cons_self);refine⟨.ref D,upd H3 D (.lst ys),zbo I5 nD (by rw[<- hDd];exact I2.sz) ?_ ?_ ?_ ⟨hz,vals,cnt,rv,keepC D _ hDC eD⟩,rfl,q D nD⟩
   ·have:=I2.lt;rw[hDd]at this;exact Nat.ne_of_gt this
   ·intro x c e z
    obtain⟨v,o,ho,_⟩:=I2.cell x c e;have:=Heap.lt_size ho;rw[hDd,z]at this;exact Nat.lt_irrefl _ this
   ·intro p hp z
    have:=Heap.lt_size (I2.pin p hp).1;rw[hDd,z]at this;exact Nat.lt_irrefl _ this
  ·refine zJ (T.item (yF X scope (N'++own) C s2 H2 fp pins) rfl rfl rfl hc i _ s3 σ3 H3 _ I3 (stat fr3) st3 go) λr s4 ⟨u,hr,h4⟩=> ?_
   subst hr;refine zJ h4 λ_ s5 ⟨x,H5,I5,r5,y5,st5,fr5⟩=> ?_;have I5':=I5.pinned (stat fr5) (T.obj _ _ st5);have keepT: ∀{σ7:St} {H7:Hp} {s7:Shared} {pl:List (Addr×Obj)},z6 (yF X scope (N'++own) C s2 H2 fp pins) (pl++uC fp s5.heap) σ7 H7 s7->tn (i+1) s7.heap/\∀b∈fp,H7 b=none:=λ{σ7 H7 s7 pl} I7=>
    ⟨T.keep _ _ _ st5 λb hb o e=>(I7.pin (b,o) (List.mem_append_right _ (List.mem_append_right _ (rR hb e)))).1,λb hb=>by
     obtain⟨o,e,d⟩:=T.obj _ _ st5 b hb;exact(I7.pin (b,o) (List.mem_append_right _ (List.mem_append_right _ (rR hb e)))).2.1⟩
   refine sJ (hg C s2 H2 fp pins _ s5 σ3 H5 x u _ I5' r5 (step x H5 y5)) λ_ s6 ⟨σ6,H6,I6,q6⟩=> ?_;refine sJ (ht C s2 H2 fp pins _ s6 σ6 H6 _ I6 q6) λb s7 ⟨H7,I7,q7⟩=> ?_;cases b with
   | false=>
    obtain⟨m',hm,w7⟩:=hN _ _ _ q7;obtain⟨t7,fr7⟩:=keepT I7;exact⟨m',hm,i+1,ys,σ6,H7,vals,cnt,I7.unpinned,t7,fr7,rv,w7⟩
   | true=>
    refine sJ (he C s2 H2 fp pins _ s7 σ6 H7 _ I7 q7) λy s8 ⟨yv,H8,I8,r8,q8⟩=> ?_;obtain⟨m',hm,w8⟩:=hN _ _ _ q8;obtain⟨eD,nD,neD,nfD,cD⟩:=I8.pin (D,_) (List.mem_append_right _ (List.mem_append_left _ List.mem_cons_self));have hvl:=rv.length;refine call_meets F.slot_list_append ⟨_,eD,rfl⟩ F.entry_list_append (F.args_list_append_2 _ _) (PySem.list_append D vals.toArray cnt y (by rw[List.size_toArray];omega)) ⟨eD,?_⟩;have I8':z6 (yF X scope (N'++own) C s2 H2 fp pins) (uC fp s5.heap) σ6 H8 s8:=I8.pins_of λp hp=>I8.pin p (List.mem_append_right _ (List.mem_append_right _ hp));have hno: ∀p∈(X.pn++pins)++uC fp s5.heap,p.1≠D:=λp hp=>by
     rcases List.mem_append.mp hp with z | z
     ·intro q
      have:=Heap.lt_size (I2.pin p z).1;rw[hDd,q]at this;exact Nat.lt_irrefl _ this
     ·exact fpD _ (jP z).1
    have I9:=I8'.turned (t':=s8.toks) (it:=D) (h':=s8.heap.update D (Obj.mapSeq λx=>x.push y)) (λb o hb e=>(Heap.get?_update_other s8.heap _ (Ne.symm hb)).trans e) nD neD (.inr (by show s2.heap.objs.size<=D;rw[hDd];exact Nat.le_refl _))
     (λx c e z=>by
      obtain⟨v,o,ho,_⟩:=I2.cell x c (uV S I2 e);have:=Heap.lt_size ho;rw[hDd,z]at this;exact Nat.lt_irrefl _ this) hno
    obtain⟨t9,fr9⟩:=keepT (pl:= []) I9;have qD: ∃n',(s8.heap.update D (Obj.mapSeq λx=>x.push y)).get? D=some {cls:= .type "list",data:= .seq (vals++ [y]).toArray n'} :=by
     have q:=PySem.IsL.update (l:=D) (items:=vals.toArray) (n:=cnt) (h:=s8.heap) eD λx=>x.push y;have e:vals.toArray.push y=(vals++ [y]).toArray:=by simp
     rw[<- e];exact⟨_,q⟩
    obtain⟨n',qD⟩:=qD;refine⟨m',hm,i+1,ys++ [yv],σ6,H8,vals++ [y],n',I9.pins_of λp hp=> ?_,t9,fr9,rv.append (.cons r8 .nil),w8⟩;have e:=List.mem_singleton.mp hp;rw[e];exact⟨qD,nD,neD,nfD,by intro v z;cases z⟩
 have t4:tn 0 h4:=T.keep _ _ _ st2 λb _ o e=>k4 b o e;exact codeAny_compStart_list (loop _ I4 t4) (T.self _ 0 _ _ _ t4 (loop _ I4 t4))
end
set_option maxHeartbeats 4000000
def kJ (x:Str):It:=⟨λi _=>i < x.cps.size,λi H v H'=>H'=H/\∃c,x.cps[i]?=some c/\v= .str ⟨#[c]⟩,λi _=>i=x.cps.size⟩
theorem zif {P:Program}{w:World}{K:Frag}{tg:Expr}{n:String}(it:Addr)(x:Str)(t:Tok)(hn: ["enumerate","zip","dict_itemiterator","dict_reverseitemiterator","odict_iterator","itertools.zip_longest","itertools.pairwise"].contains n=false)
  (W: ∀A:Around,A.handled=none->Walks P w A it [it] [it] x.cps.size (SignAt x) (λi h=>h.IsStrIter it n x t i))
  (hself: ∀(A:Around) (i:Nat) (s:Shared) (Q:Value->Shared->Prop) (E:Value->Shared->Prop),s.heap.IsStrIter it n x t i->Q (.ref it) s->wpAny (model P w) A (pyIter (.ref it)) Q E s):
  pZ P w K tg (kJ x) [it] it (λi h=>h.IsStrIter it n x t i) where
 mem:=by simp
 obj:=λi h st b hb=>by
  have e:b=it:=by simpa using hb
  subst e;obtain⟨o,e,c,d⟩:=st;exact⟨o,e,λv z=>by rw[d]at z;cases z⟩
 keep:=λi h h' st k=>by
  obtain⟨o,e,r⟩:=st;exact⟨o,k it (by simp) o e,r⟩
 item:=by
  intro X hP hw hK hc i pins s σ H E I hf st hg;subst hP hw hK;obtain⟨f0,f1,f2,f3,f4,f5⟩:=hf it (by simp);refine(W X.A (I.ok.hd hc)).item i s _ _ hg st λv h' tk hv st' kk=> ?_;obtain⟨c,u,ec,rfl⟩:=hv;have I1:z6 X pins σ H {s with heap:=h',toks:=tk} :=I.turned (λb o hb e=>kk b o (by simpa using hb) e) f0 f1 f3 f4 f5;obtain⟨o,e,c',d⟩:=id st';exact⟨_,rfl,jB (s:= {s with heap:=h',toks:=tk}) e c' d hn ⟨.str ⟨#[c]⟩,H,I1,⟨u,rfl⟩,⟨rfl,c,ec,rfl⟩,st',λb hb=>(hf b hb).1⟩⟩
 done:=by
  intro X hP hw hK hc i pins s σ H E I hf st hg;subst hP hw hK;obtain⟨f0,f1,f2,f3,f4,f5⟩:=hf it (by simp);have hg':i=x.cps.size:=hg;subst hg';exact(W X.A (I.ok.hd hc)).done s _ _ st λh' tk kk=>⟨rfl,I.turned (λb o hb e=>kk b o (by simpa using hb) e) f0 f1 f3 f4 f5⟩
 self:=hself
section
variable {X:Cx} {tg:Expr}
theorem zd8 {bs:List Bool} : ∀{us:List Value},zI (bs.map V.bl) us->LSm.BoolsAre us bs:=by
 induction bs with
 | nil=>intro us r;rw[List.map_nil]at r;cases r;exact .nil
 | cons n ns ih=>
  intro us r;rw[List.map_cons]at r;cases r with
  | cons r1 r2=>
   have e:_=Value.bool n:=r1;subst e;exact .cons n (ih r2)
theorem zpH {bs:List Str} : ∀{us:List Value},zI (bs.map V.str) us->StrsAre us bs:=by
 induction bs with
 | nil=>intro us r;rw[List.map_nil]at r;cases r;exact .nil
 | cons n ns ih=>
  intro us r;rw[List.map_cons]at r;cases r with
  | cons r1 r2=>
   obtain⟨t,e⟩:=r1;subst e;exact .cons n t (ih r2)
theorem zj3 (hc:X.calm=true):xK X (.builtin "all") (λxs H Q=> ∃(l:Addr) (bs:List Bool),xs= [.ref l]/\yS X.K H l (bs.map V.bl)/\Q (.bl (bs.all id)) H):=by
 intro pins s σ H xs us Q I r h;obtain⟨l,bs,rfl,hl,q⟩:=h;obtain⟨u,rfl,ru⟩:=qC r;cases ru;obtain⟨its,rv,p,_⟩:=I.list hl;have hlt:l < s.heap.objs.size:=p.lt;refine call_all_walk (wpAny_pyIter_list p.isList ?_);refine⟨s.heap.objs.size,[s.heap.objs.size,l],[s.heap.objs.size],its.toArray.size,_,_,λi=>(bs[i]?).getD true,rfl,Walks.list (A:=X.A.in1) (I.ok.hd hc) _ l (Nat.ne_of_lt hlt) its.toArray,
  ⟨⟨_,Heap.get?_push_size _ rfl,rfl,rfl⟩,p.isList.push _⟩,λi v s' Q' E' hP hQ=> ?_,λh' tk hk=> ?_⟩
 ·obtain⟨b,e,rfl⟩:=(zd8 rv).get i v (by simpa using hP)
  simp only[e,Option.getD_some]at hQ;exact wpAny_truthy_bool hQ
 ·have e:((List.range its.toArray.size).all λi=>(bs[i]?).getD true)=bs.all id:=by
   rw[List.size_toArray,(zd8 rv).length];exact LSm.range_all bs
  rw[e];exact⟨.bl (bs.all id),H,I.kept (LSm.kept_iter hk),rfl,q⟩
theorem zj4:xK X (.builtin "isinstance") (λxs H Q=>(∃b,xs= [.bl b,.ty "bool"]/\Q (.bl true) H)∨∃i,xs= [.int i,.ty "bool"]/\Q (.bl false) H):=by
 intro pins s σ H xs us Q I r h;rcases h with⟨b,rfl,q⟩ | ⟨i,rfl,q⟩
 ·obtain⟨u,v,rfl,ru,rv⟩:=zI.two r
  cases ru;cases rv;exact IsiPair.bool_bool ⟨.bl true,H,I,rfl,q⟩
 ·obtain⟨u,v,rfl,ru,rv⟩:=zI.two r
  obtain⟨t,rfl⟩:=ru;cases rv;exact IsiPair.int_bool ⟨.bl false,H,I.tok _,rfl,q⟩
def zo8 (K:Frag):V->List V->Hp->VK->Prop:=λx vs H Q=> ∃(sep:Str) (l:Addr) (ys:List Str),x= .str sep/\vs= [.ref l]/\yS K H l (ys.map V.str)/\(ys.map (·.length)).sum+ys.length * sep.length<=16777216/\Q (.str (Txt.join sep ys)) H
theorem zlT:uR X "str.join" (zo8 X.K):=by
 intro pins s σ H x xs v us Q I rx rv h;obtain⟨sep,l,ys,rfl,rfl,hl,hz,q⟩:=h;obtain⟨t,rfl⟩:=rx;obtain⟨u,rfl,ru⟩:=zI.one rv;cases ru;obtain⟨its,r,p,_⟩:=I.list hl;exact join_list p.isList (by simpa using zpH r) hz λt' k=>⟨.str (Txt.join sep ys),H,I.tok _,⟨t',rfl⟩,q⟩
def zoE:V->Option Int->Option Int->Hp->VK->Prop:=λx lo hi H Q=> ∃z,x= .str z/\z.length<=sizeLine/\((Txt.slice z lo hi).length<=z.length->Q (.str (Txt.slice z lo hi)) H)
theorem zpv:mB X zoE:=by
 intro pins s σ H x v vl vu lo hi sl Q I rx hs pl pu h;obtain⟨z,rfl,hz,q⟩:=h;obtain⟨t,rfl⟩:=rx;obtain⟨o,e,c,d⟩:=hs;have fin: ∀t' k,EP X pins σ Q (.str (Txt.slice z lo hi) t') {s with toks:=k} :=λt' k=>⟨.str (Txt.slice z lo hi),H,I.tok k,⟨t',rfl⟩,q (Txt.slice_le z _ _)⟩;refine⟨"str",_,F.slot_str_getitem.lookup,typeIs_str _ _ _,?_⟩;cases pl with
 | none=>
  cases pu with
  | none=>exact wpAny_getItem_str_slice (l:=none) (u:=none) (st:=none) ⟨o,e,c,d⟩ rfl (post_val_or_str ⟨Nat.le_trans (Txt.slice_le z _ _) hz,fin⟩)
  | int j uj=>exact wpAny_getItem_str_slice (l:=none) (u:=some (j,uj)) (st:=none) ⟨o,e,c,d⟩ rfl (post_val_or_str ⟨Nat.le_trans (Txt.slice_le z _ _) hz,fin⟩)
 | int i ui=>
  cases pu with
  | none=>exact wpAny_getItem_str_slice (l:=some (i,ui)) (u:=none) (st:=none) ⟨o,e,c,d⟩ rfl (post_val_or_str ⟨Nat.le_trans (Txt.slice_le z _ _) hz,fin⟩)
  | int j uj=>exact wpAny_getItem_str_slice (l:=some (i,ui)) (u:=some (j,uj)) (st:=none) ⟨o,e,c,d⟩ rfl (post_val_or_str ⟨Nat.le_trans (Txt.slice_le z _ _) hz,fin⟩)
end
set_option maxHeartbeats 4000000
def zdE (fsc scope:Scope)(N N':List Str):Bool:=
 scope.kind== .function&&scope.names.all (λy=>y.2 != .cell&&(y.2 != .local||scope.names.lookup y.1==some .local)&&(y.2 != .free||(fsc.names.lookup y.1==some .cell||fsc.names.lookup y.1==some .free)))
  &&N'.length==N.length&&(N'.zip N).all (λp=>p.1==p.2|| !(scope.names.any λq=>q.1==p.1&&q.2== .free))&&N'.all (λy=>scope.names.lookup y !=some .local)
theorem uW {X:Cx}{scope fsc:Scope}{N N' own:List Str}(hX:X.env.scope=fsc)(hN:X.N=N)(h:zdE fsc scope N N'=true):uQ X scope N' own:=by
 unfold zdE at h;simp only[Bool.and_eq_true,List.all_eq_true,beq_iff_eq,bne_iff_ne,Bool.or_eq_true,ne_eq]at h;obtain⟨⟨⟨⟨h1,h2⟩,h3⟩,h4⟩,h5⟩:=h;subst hX hN;refine⟨h1,λy hy=>(h2 y hy).1.1,λy hy e=> ?_,λy hy e=> ?_,h3,λi y e=> ?_,λy hy=>h5 y hy⟩
 ·rcases(h2 y hy).1.2 with z | z
  ·exact absurd e z
  ·exact z
 ·rcases(h2 y hy).2 with z | z
  ·exact absurd e z
  ·exact z
 ·have hi:i < N'.length:=(List.getElem?_eq_some_iff.mp e).1
  have e2:X.N[i]?=some X.N[i]:=List.getElem?_eq_getElem (by omega);have m:(y,X.N[i])∈N'.zip X.N:=by
   refine List.mem_iff_getElem?.mpr ⟨i,?_⟩;rw[List.getElem?_zip_eq_some];exact⟨e,e2⟩
  rcases h4 _ m with z | z
  ·left
   rw[e2];have z':y=X.N[i]:=z;rw[<- z']
  ·right
   intro q;have z':(!(scope.names.any λq=>q.1==y&&q.2== .free))=true:=z;rw[Bool.not_eq_true',List.any_eq_false]at z';exact z' _ q (by simp)
theorem zjk {α:Type}(xs:List α){d:Int}(h0:0<=d)(h1:d < xs.length): ∃y,y∈xs/\atI xs d=some y:=by
 have hn:d.toNat < xs.length:=by omega
 refine⟨xs[d.toNat],List.getElem_mem hn,?_⟩;unfold atI wN;rw[if_pos h0,if_pos h1];exact List.getElem?_eq_getElem hn
set_option maxHeartbeats 4000000
set_option maxHeartbeats 4000000
set_option maxHeartbeats 4000000
theorem zi5: ∀{xs:List V} {us:List Value},xs.length=us.length->(∀(j:Nat) (v:Value) (x:V),us[j]?=some v->xs[j]?=some x->zL x v)->zI xs us
 | [],[],_,_=> .nil
 | x::xs,u::us,h,r=> .cons (r 0 u x rfl rfl) (zi5 (by simpa using h) λj v y a b=>r (j+1) v y a b)
theorem zlo {kvs:List (zC×V)}{vs:List (zC×Value)}(r:KV kvs vs):kvs.length=vs.length:=Paired.length r
theorem zfY: ∀{kvs:List (zC×V)} {vs:List (zC×Value)} {i:Nat} {k:zC} {x:Value},KV kvs vs->vs[i]?=some (k,x)->∃y,kvs[i]?=some (k,y)
 | _,_,0,k,x,.cons (a:=p) r _,h=>by
  rw[List.getElem?_cons_zero]at h;rw[Option.some.inj h]at r;have e:p.1=k:=r.1;exact⟨p.2,by rw[List.getElem?_cons_zero,<- e]⟩
 | _,_,i+1,k,x,.cons _ r,h=>by
  obtain⟨y,e⟩:=zfY (i:=i) r (by simpa using h);exact⟨y,by simpa using e⟩
set_option maxHeartbeats 4000000
set_option maxHeartbeats 4000000
section
variable {X:Cx} {pins:List (Addr×Obj)} {σ:St} {H:Hp} {s:Shared}
theorem zgK {α β:Type}{R:α->β->Prop} : ∀{l:List α} {m:List β} {j:Nat} {a:α} {b:β},Paired R l m->l[j]?=some a->m[j]?=some b->R a b
 | _,_,0,a,b,.cons r _,h1,h2=>by
  rw[List.getElem?_cons_zero]at h1 h2;rw[<- Option.some.inj h1,<- Option.some.inj h2];exact r
 | _,_,j+1,a,b,.cons _ r,h1,h2=>zgK (j:=j) r (by simpa using h1) (by simpa using h2)
theorem zi4 {xs:List V}{its:List Value}(r:zI xs its){j:Nat}(h:j < its.toArray.size): ∃x,xs[j]?=some x/\zL x its.toArray[j]:=by
 have hj:j < xs.length:=by rw[r.length];simpa using h
 obtain⟨u,e,ru⟩:=r.get (i:=j) (x:=xs[j]) (by simp[hj]);refine⟨xs[j],by simp[hj],?_⟩;have:its[j]?=some its.toArray[j]:=by simp
 rw[this]at e;rw[Option.some.inj e];exact ru
end
set_option maxHeartbeats 4000000
section
variable {X:Cx}
theorem zgF:y1 X (binaryOp .Mult) (λx y H Q=> ∃(z:Str) (n:Int),x= .str z/\y= .int n/\((n=0/\Q (.str Str.empty) H)∨(n=1/\Q (.str z) H))):=by
 intro pins s σ H x y v u Q I rx ry h;obtain⟨z,n,rfl,rfl,h⟩:=h;obtain⟨t,rfl⟩:=rx;obtain⟨t',rfl⟩:=ry;rcases h with⟨rfl,q⟩ | ⟨rfl,q⟩
 ·exact PySem.P.mul_str_none (by decide) (by decide) ⟨.str Str.empty,H,I.tok _,⟨_,rfl⟩,q⟩
 ·refine PySem.P.mul_str (by decide) (λ_ h=>by cases h) (λ_ h=>by cases h) ?_
  rw[if_neg (by decide),if_pos (show((1:Int)==1||z.length==0)=true from rfl)];exact⟨.str z,H,I,⟨_,rfl⟩,q⟩
end
set_option maxHeartbeats 4000000
section
variable {prog:Program} {w:World} {A:Around} {E:Value->Shared->Prop} {s:Shared}
theorem zk5 {t sl:Addr}{items:Array Value}{vl vu:Value}{lo hi:Option Int}{Q:Value->Shared->Prop}(ht:IsTup s.heap t items)(hs:s.heap.IsSliceOf sl vl vu .none)(pl:IsPart vl lo)(pu:IsPart vu hi)
  (hw:HT.sIx items.size 0 lo=0/\HT.sIx items.size items.size hi=items.size) (h:Q (.ref t) s):wpAny (model prog w) A (getItem (.ref t) (.ref sl)) Q E s:=by
 obtain⟨os,hos,hcs,hds⟩:=id hs;have hTs:s.TypeIs (.ref sl) "slice" :=⟨os,hos,hcs⟩;unfold getItem
 try with_reducible refine wpAny_holding ?_
 first | refine wpAny_bind (wpAny_pure ?_) | skip
 refine wpAny_bind (wpAny_sequenceKey ht.typeIs (by decide) ?_);refine wpAny_bind (wpAny_callSpecial?_slot (name:=Str.ofString "__getitem__") ht.typeIs PyProof.Rows.slot_tuple_getitem
  (wpAny_call_entry PyProof.Rows.slot_tuple_getitem ht.typeIs entry_tuple_getitem ?_ (args_tuple_getitem _ _)))
 show wpAny _ _ (Builtin.Tuple.tupleItemsOf (.ref t) >>= _) _ _ s;refine wpAny_bind (tupleItemsOf_ ht ?_);refine wpAny_bind (wpAny_typeOf hTs ?_);rw[if_pos (by decide)];refine wpAny_bind (HT.sliceApplied_gen hs pl pu ?_);have hyes:((((HT.sIx items.size 0 lo:Nat):Int)==0&&(1:Int)==1&&(HT.sIx items.size items.size hi - HT.sIx items.size 0 lo)==items.size)=true):=by
  rw[hw.1,hw.2];simp
 show wpAny _ _ (if(((HT.sIx items.size 0 lo:Nat):Int)==0&&(1:Int)==1&&(HT.sIx items.size items.size hi - HT.sIx items.size 0 lo)==items.size)=true then _ else _) _ _ s;rw[if_pos hyes];unfold Builtin.Tuple.tupleIsExact;refine wpAny_bind (wpAny_bind (wpAny_typeOf ht.typeIs (wpAny_pure ?_)));rw[if_pos (by decide)];refine wpAny_bind (wpAny_rule ?_)
 first
  | exact wpAny_pure ⟨_,rfl,wpAny_pure h⟩
  | exact wpAny_bind (wpAny_pure (wpAny_pure ⟨_,rfl,wpAny_pure h⟩))
  | exact wpAny_bind (wpAny_pure ⟨_,rfl,wpAny_pure h⟩)
end
set_option maxHeartbeats 4000000
set_option maxHeartbeats 4000000
def zde (f:Addr)(o:Obj):Heap->Prop:=λh=>h.get? f=some o
def zcU (c:Addr)(q:Str):Heap->Prop:=λh=> ∃o vs t,h.get? c=some o/\o.data= .fields vs/\vs[1]?=some (.str q t)
def less (H:Hp)(c:Addr):Hp:=λb=>if b=c then none else H b
def fD (H K:Hp)(c:Addr):Hp:=λb=>if b=c then K c else H b
set_option maxHeartbeats 4000000
set_option maxHeartbeats 4000000
set_option maxHeartbeats 4000000
section
variable {X:Cx} {pins:List (Addr×Obj)} {σ:St} {H:Hp} {s:Shared} {scope:Scope} {N' own:List Str}
theorem znO {elt target iter:Expr}{ifs:List Expr}{pos spos pos':Pos}{i0:Nat}{x:Str}{wi:TI}{g:TG}{tt:TT}{te:TE}(hN:X.N.Nodup)(hi0:X.N[i0]?=some x)(hx:uE X.env.scope x)(S:uQ X scope N' own)(hc:X.calm=true)(hi:PI X target iter wi)
  (hg: ∀C s H fp pins,PG (yF X scope (N'++own) C s H fp pins) target g) (ht: ∀C s H fp pins,PF (yF X scope (N'++own) C s H fp pins) ifs tt) (he: ∀C s H fp pins,PE (yF X scope (N'++own) C s H fp pins) elt te)
  (hs: ∀x,foldedSetIterable iter X.env x=pure x:=by intro _;rfl) (hsw:swapsWith (.ListComp elt [⟨target,iter,ifs,0⟩] scope pos) (some (.Name x pos')) spos.line X.env=pure true:=by rfl)
  (hf:X.fn x=true∨X.env.scope.names.lookup x=some .local:=by first | exact .inl rfl | exact .inr rfl | assumption):
  PS X (.Assign [.Name x pos'] (.ListComp elt [⟨target,iter,ifs,0⟩] scope pos) spos) (nM (iY own.length wi g tt te) (oH i0)):=by
 refine⟨?_⟩;intro pins s σ H D0 I h;rw[exec_Assign_Name_used _ _ _ _ hsw];refine wpAny_bind (wpAny_standAt (wpAny_bind ?_));show wpAny _ X.A (do let _ <- comprehension (.ListComp elt [⟨target,iter,ifs,0⟩] scope pos) scope X.env _ (newList []) false (eval iter X.env) (some (assign (.Name x pos') X.env))) _ _ s;refine wpAny_bind (wpAny_mono (wpAny_comprehension_free (use:=some (assign (.Name x pos') X.env)) (Q:=λ_ s'=>SP X pins D0 .next s') rfl hs (fX (S.cells I)) S.kind S.names ?_) (λ_ s' hq=>wpAny_pure (wpAny_pure hq)) λ_ _ e=>e);refine zJ (hi pins s σ H _ I h) λv s1 h1=>zJ h1 λitv s2 h2=> ?_;obtain⟨it,fp,tn,J,H2,e,I2,T,st2,f2,W,⟨m0,w0⟩,turn⟩:=h2;subst e;have fl: ∀b∈fp,b < s2.heap.objs.size:=λb hb=>by obtain⟨o,e,_⟩:=T.obj _ _ st2 b hb;exact Heap.lt_size e
 refine wpAny_newObj_type (wpAny_newFunctionEnv S.nocell (by intro y hy;simp at hy) (λh4 ns4 sb4=> ?_) S.kind);dsimp only at ns4 sb4⊢
 generalize hH3:s2.heap.push {cls:= .type "list",dict:=none,data:= .seq ([]:List Value).toArray} =h3 at ns4 sb4⊢
 have hC:h3.objs.size=s2.heap.objs.size+1:=by rw[<- hH3,Heap.size_push]
 have hDC:s2.heap.objs.size≠h3.objs.size:=by rw[hC];exact Nat.ne_of_lt (Nat.lt_succ_self _)
 have hCle:s2.heap.objs.size<=h3.objs.size:=by rw[hC];exact Nat.le_succ _
 have eD3:h3.get? s2.heap.objs.size=some {cls:= .type "list",data:= .seq ([]:List Value).toArray} :=hH3▸Heap.get?_push_size _ rfl;have k4: ∀b u,s2.heap.get? b=some u->h4.get? b=some u:=λb u e=>
  (sb4.2 b (Nat.ne_of_lt (Nat.lt_of_lt_of_le (Heap.lt_size e) hCle))).trans (Heap.get?_push_of_some _ (hH3▸Heap.get?_push_of_some _ e))
 have eD4:h4.get? s2.heap.objs.size=some {cls:= .type "list",data:= .seq ([]:List Value).toArray} :=(sb4.2 _ hDC).trans (Heap.get?_push_of_some _ eD3);generalize hDd:s2.heap.objs.size=D at *;generalize hCd:h3.objs.size=C at *;have I4:=zbn S I2 (C:=C) (D:=D) (fp:=fp) (h4:=h4) (tk:=s2.toks+([]:List (Str×Value)).length) k4 (by rw[hDd];exact hCle) (by rw[hDd];exact Nat.le_refl _) hDC eD4 (by intro v z;cases z) ns4 f2 (by rw[hDd];exact fl);have lowC: ∀(b:Addr) (u:Obj),s2.heap.get? b=some u->b≠C:=λb u e=>Nat.ne_of_lt (Nat.lt_of_lt_of_le (Heap.lt_size e) (by rw[hDd];exact hCle));have nofp: ∀b∈fp,b∉yX X.stack:=λb hb hm=>by
  rcases List.mem_cons.mp (I2.stkSub b hm)with z | z
  ·exact(f2 b hb).2.1 z
  ·exact(f2 b hb).2.2.1 z
 have fpD: ∀b∈fp,b≠D:=λb hb=>Nat.ne_of_lt (fl b hb);have stat: ∀{H':Hp} {o:Obj},(∀b∈fp,H' b=none)->∀b∈fp,t6 (yF X scope (N'++own) C s2 H2 fp pins) [(D,o)] H' b:=λ{H' o} hn b hb=>
  ⟨hn b hb,Nat.ne_of_lt (Nat.lt_of_lt_of_le (fl b hb) hCle),nofp b hb,.inl hb,λx c e=>(f2 b hb).2.2.2.2.1 x c (uV S I2 e),λp hp=>by
   have hp':p∈(X.pn++pins)++ [(D,o)]:=hp;rcases List.mem_append.mp hp' with z | z
   ·exact(f2 b hb).2.2.2.2.2 p z
   ·have e:p=(D,o):=by simpa using z
    rw[e];exact Ne.symm (fpD b hb)⟩
 have loop: ∀s3:Shared,z6 (yF X scope (N'++own) C s2 H2 fp pins) [(D,{cls:= .type "list",data:= .seq ([]:List Value).toArray})] (σ++List.replicate own.length none) H2 s3->tn 0 s3.heap->
   codeAny (model X.prog X.w) X.A (.compLoop (.ListComp elt [⟨target,iter,ifs,0⟩] scope pos) 0 (.ref it) (.ref D) (compEnvC scope (vJ scope.names X.env.cells) C X.env))
    (compPost (model X.prog X.w) X.A X.xe (some (assign (.Name x pos') X.env)) (λ_ s'=>SP X pins D0 .next s') (.ref D) C) s3:=by
  intro s3 I3 st3;refine fY (λn s'=> ∃(i:Nat) (ys:List V) (σ':St) (H':Hp) (vals:List Value) (cnt:Nat),z6 (yF X scope (N'++own) C s2 H2 fp pins) [(D,{cls:= .type "list",data:= .seq vals.toArray cnt})] σ' H' s'/\
   tn i s'.heap/\(∀b∈fp,H' b=none)/\zI ys vals/\W i n ys σ' H') ?_ m0 ⟨0,[],_,H2,[],0,I3,st3,λb hb=>(f2 b hb).1,.nil,w0⟩
  rintro n s3 ⟨i,ys,σ3,H3,vals,cnt,I3,st3,fr3,rv,w3⟩;rcases turn i n ys σ3 H3 w3 with⟨stop,hz,q⟩ | ⟨go,hz,N,hN,step⟩
  ·refine zJ (T.done (yF X scope (N'++own) C s2 H2 fp pins) rfl rfl rfl hc i _ s3 σ3 H3 _ I3 (stat fr3) st3 stop) λr s4 ⟨hr,I4⟩=> ?_
   subst hr;obtain⟨m,ns,_⟩:=id I4.loc;have u4:Un (yX X.stack) fp H2 H3 s2.heap s4.heap:=I4.base;have nC:H3 C=none:=I4.free;have I5:z6 X pins σ H3 s4:=I2.call' (ch:=fp) I4.os u4 I4.hok I4.bare λb hb=>⟨(f2 b hb).2.2.2.1,(f2 b hb).2.1,(f2 b hb).2.2.2.2.1,(f2 b hb).2.2.2.2.2⟩;obtain⟨eD,nD,_⟩:=I4.pin (D,_) (List.mem_append_right _ List.mem_cons_self);have lL:X.env.locals < D:=by have:=I2.lt;rw[hDd]at this;exact this
   have lcl: ∀x c,X.env.cells.lookup x=some c->c < D:=λx c e=>by
    obtain⟨v,o,ho,_⟩:=I2.cell x c e;have:=Heap.lt_size ho;rw[hDd]at this;exact this
   have lp: ∀p∈X.pn++pins,p.1 < D:=λp hp=>by have:=Heap.lt_size (I2.pin p hp).1;rw[hDd]at this;exact this
   have lDC:D < C:=Nat.lt_of_le_of_ne hCle hDC;have I6:z6 X pins σ (upd H3 D (.lst ys)) s4:=zbo I5 nD (by rw[<- hDd];exact I2.sz) (Nat.ne_of_gt lL) (λx c e=>Nat.ne_of_lt (lcl x c e)) (λp hp=>Nat.ne_of_lt (lp p hp)) ⟨hz,vals,cnt,rv,eD⟩;refine wpAny_assign_Name (zhN I6 hN hi0 hx (v:= .ref D) rfl (λs5 I7 ⟨a,sba,ha⟩=> ?_) hf);have nCa:C≠a:=by
    rcases ha with z | z
    ·rw[z];exact Nat.ne_of_gt (Nat.lt_trans lL lDC)
    ·exact Nat.ne_of_gt (Nat.lt_trans (lcl _ _ z) lDC)
   obtain⟨oC,esC,epC,eC,rC⟩:=ns;refine⟨m,⟨oC,esC,epC,(sba.2 C nCa).trans eC,rC⟩,λh' sb=> ?_⟩;refine⟨_,_,I7.turned (t':=s5.toks) (it:=C) (λb o hb e=>(sb.2 b hb).trans e) (by rw[zU (Nat.ne_of_gt lDC)];exact nC) (Nat.ne_of_gt (Nat.lt_trans lL lDC)) (.inr (Nat.le_trans (by rw[<- hDd];exact I2.sz) (Nat.le_of_lt lDC))) (λx c e=>Nat.ne_of_lt (Nat.lt_trans (lcl x c e) lDC)) (λp hp=>Nat.ne_of_lt (Nat.lt_trans (lp p hp) lDC)),q D nD⟩
  ·refine zJ (T.item (yF X scope (N'++own) C s2 H2 fp pins) rfl rfl rfl hc i _ s3 σ3 H3 _ I3 (stat fr3) st3 go) λr s4 ⟨u,hr,h4⟩=> ?_
   subst hr;refine zJ h4 λ_ s5 ⟨x,H5,I5,r5,y5,st5,fr5⟩=> ?_;have I5':=I5.pinned (stat fr5) (T.obj _ _ st5);have keepT: ∀{σ7:St} {H7:Hp} {s7:Shared} {pl:List (Addr×Obj)},z6 (yF X scope (N'++own) C s2 H2 fp pins) (pl++uC fp s5.heap) σ7 H7 s7->tn (i+1) s7.heap/\∀b∈fp,H7 b=none:=λ{σ7 H7 s7 pl} I7=>
    ⟨T.keep _ _ _ st5 λb hb o e=>(I7.pin (b,o) (List.mem_append_right _ (List.mem_append_right _ (rR hb e)))).1,λb hb=>by
     obtain⟨o,e,d⟩:=T.obj _ _ st5 b hb;exact(I7.pin (b,o) (List.mem_append_right _ (List.mem_append_right _ (rR hb e)))).2.1⟩
   refine sJ (hg C s2 H2 fp pins _ s5 σ3 H5 x u _ I5' r5 (step x H5 y5)) λ_ s6 ⟨σ6,H6,I6,q6⟩=> ?_;refine sJ (ht C s2 H2 fp pins _ s6 σ6 H6 _ I6 q6) λb s7 ⟨H7,I7,q7⟩=> ?_;cases b with
   | false=>
    obtain⟨m',hm,w7⟩:=hN _ _ _ q7;obtain⟨t7,fr7⟩:=keepT I7;exact⟨m',hm,i+1,ys,σ6,H7,vals,cnt,I7.unpinned,t7,fr7,rv,w7⟩
   | true=>
    refine sJ (he C s2 H2 fp pins _ s7 σ6 H7 _ I7 q7) λy s8 ⟨yv,H8,I8,r8,q8⟩=> ?_;obtain⟨m',hm,w8⟩:=hN _ _ _ q8;obtain⟨eD,nD,neD,nfD,cD⟩:=I8.pin (D,_) (List.mem_append_right _ (List.mem_append_left _ List.mem_cons_self));have hvl:=rv.length;refine call_meets F.slot_list_append ⟨_,eD,rfl⟩ F.entry_list_append (F.args_list_append_2 _ _) (PySem.list_append D vals.toArray cnt y (by rw[List.size_toArray];omega)) ⟨eD,?_⟩;have I8':z6 (yF X scope (N'++own) C s2 H2 fp pins) (uC fp s5.heap) σ6 H8 s8:=I8.pins_of λp hp=>I8.pin p (List.mem_append_right _ (List.mem_append_right _ hp));have hno: ∀p∈(X.pn++pins)++uC fp s5.heap,p.1≠D:=λp hp=>by
     rcases List.mem_append.mp hp with z | z
     ·intro q
      have:=Heap.lt_size (I2.pin p z).1;rw[hDd,q]at this;exact Nat.lt_irrefl _ this
     ·exact fpD _ (jP z).1
    have I9:=I8'.turned (t':=s8.toks) (it:=D) (h':=s8.heap.update D (Obj.mapSeq λx=>x.push y)) (λb o hb e=>(Heap.get?_update_other s8.heap _ (Ne.symm hb)).trans e) nD neD (.inr (by show s2.heap.objs.size<=D;rw[hDd];exact Nat.le_refl _))
     (λx c e z=>by
      obtain⟨v,o,ho,_⟩:=I2.cell x c (uV S I2 e);have:=Heap.lt_size ho;rw[hDd,z]at this;exact Nat.lt_irrefl _ this) hno
    obtain⟨t9,fr9⟩:=keepT (pl:= []) I9;have qD: ∃n',(s8.heap.update D (Obj.mapSeq λx=>x.push y)).get? D=some {cls:= .type "list",data:= .seq (vals++ [y]).toArray n'} :=by
     have q:=PySem.IsL.update (l:=D) (items:=vals.toArray) (n:=cnt) (h:=s8.heap) eD λx=>x.push y;have e:vals.toArray.push y=(vals++ [y]).toArray:=by simp
     rw[<- e];exact⟨_,q⟩
    obtain⟨n',qD⟩:=qD;refine⟨m',hm,i+1,ys++ [yv],σ6,H8,vals++ [y],n',I9.pins_of λp hp=> ?_,t9,fr9,rv.append (.cons r8 .nil),w8⟩;have e:=List.mem_singleton.mp hp;rw[e];exact⟨qD,nD,neD,nfD,by intro v z;cases z⟩
 have t4:tn 0 h4:=T.keep _ _ _ st2 λb _ o e=>k4 b o e;exact codeAny_compStart_list (loop _ I4 t4) (T.self _ 0 _ _ _ t4 (loop _ I4 t4))
end
set_option maxHeartbeats 4000000
set_option maxHeartbeats 4000000
set_option maxHeartbeats 4000000
set_option maxHeartbeats 4000000
set_option maxHeartbeats 4000000
open PySem.W
section
variable {X:Cx}
theorem zdA (hc:X.calm=true):xK X (.type "list") (λxs H Q=> ∃(d:Addr) (kvs:List (zC×V)),xs= [.ref d]/\H d=some (.dK kvs)/\∀p,H p=none->Q (.ref p) (upd H p (.lst (kvs.map λq=>kV q.1)))):=by
 intro pins s σ H xs us Q I r h;obtain⟨d,kvs,rfl,hd,q⟩:=h;obtain⟨u,rfl,ru⟩:=qC r;cases ru;obtain⟨hz,hsys,vs,kv,dd⟩:=eB I.hok hd;have hl:=zlo kv;obtain⟨o,es0,ep,e1,e2,e3,e4,e5,e6⟩:=id dd;refine kdl_call (kdl_dict (knd:=xY X.prog X.w) (kvs:=vs) (ep:=ep) hsys) (I.ok.hd hc) ⟨o,es0,e1,e2,e3,e4,e5,e6⟩ (by rw[<- hl];exact hz) λh' tk acc c k1 k2 hacc=> ?_;refine⟨.ref s.heap.objs.size,_,I.laid (t':=tk) (o:= .lst (kvs.map λq=>kV q.1)) k1 (Nat.le_refl _) ⟨by rw[List.length_map];exact hz,acc.toList,c,zi5 ?_ λj v x hv hx=> ?_,?_⟩,rfl,q _ I.fresh⟩
 ·rw[List.length_map,hl];exact hacc.1.symm.trans (Array.length_toList).symm
 ·obtain⟨k,y,e1,e2⟩:=hacc.2 j v (by simpa using hv)
  obtain⟨z,e3⟩:=zfY kv e1;rw[List.getElem?_map,e3]at hx;have e4:kV k=x:=Option.some.inj hx;subst e4;rcases tO e2 with⟨i,t,rfl,rfl⟩ | ⟨z',t,rfl,rfl⟩
  ·exact⟨t,rfl⟩
  ·exact⟨t,rfl⟩
 ·rw[Array.toArray_toList];exact k2
end
set_option maxHeartbeats 4000000
set_option maxHeartbeats 4000000
set_option maxHeartbeats 4000000
set_option maxHeartbeats 4000000
set_option maxHeartbeats 4000000
def lZ:List (Str×Int)->Str->Int
 | [],_=>0
 | q::l,x=>if q.1=x then q.2 else lZ l x
set_option maxHeartbeats 4000000
def oX:List (Str×Int)->Str->Int->List (Str×Int)
 | [],x,m=> [(x,m)]
 | q::l,x,m=>if q.1=x then(q.1,m)::l else q::oX l x m
theorem zbL: ∀{l:List (Str×Int)} {x:Str} {m:Int},¬ x∈l.map (·.1)->oX l x m=l++ [(x,m)]
 | [],_,_,_=>rfl
 | q::l,x,m,h=>by
  rw[List.map_cons,List.mem_cons,not_or]at h;unfold oX;rw[if_neg (λe=>h.1 e.symm),zbL h.2];rfl
set_option maxHeartbeats 4000000
set_option maxHeartbeats 4000000
abbrev wM:List Value:= [.type "ValueError",.type "Exception",.type "BaseException",.type "object"]
abbrev wR (C:Addr)(od:Option Addr)(t:Addr):Obj:= {cls:= .ref C,dict:=od,data:= .fields #[.ref t,.none,.none,.none,.bool false,.none]}
section
variable {prog:Program} {w:World} {A:Around} {h:Heap} {g:Array GenState} {d:Drawn} {t:Nat} {os:OsState}
variable {nm q:Str} {C N f:Addr} {bs bm:List Value} {hdct:Bool} {sn:List Str} {sub:List Value} {ab:Bool} {col:Option Bool} {dd:Option Addr} {k0 k1 k2 k3 k5:Option Value}
theorem zkj {R:Result->Shared->Prop}{yT:List Value}(T:OwnTail h wM bm)(hC:h.get? C=some (excClassObj nm q C N bs bm hdct sn sub ab col dd k0 k1 k2 k3 k5 "ValueError.__new__"))
  (hi:PySem.W.Looks (model prog w) h (typeLookup (.ref C) "__init__") (some (.ref f))) (hb: ∀self,PySem.W.Looks (model prog w) h (bindSpecial (.ref f) self) (.ref f,[self])) (hrest:yT.length<=sizeLine)
  (hq:codeAny (model prog w) (A.under (.builtin "type.__call__" ⟨.ref C::yT,[]⟩)) (.call (.ref f) ⟨.ref (h.objs.size+1)::yT,[]⟩) (InitBack (h.objs.size+1) R)
   ⟨(h.push {cls:= .type "tuple",data:= .seq yT.toArray}).push (wR C none h.objs.size),g,d,t,os⟩):
  codeAny (model prog w) A (.call (.ref C) ⟨yT,[]⟩) R ⟨h,g,d,t,os⟩:=by
 have F:=PySem.F.excBase_ValueError;have c1:=tc_lookup;have c2:=tc_bind (.ref C);have ty:(⟨h,g,d,t,os⟩:Shared).TypeIs (.ref C) "type" :=⟨_,hC,rfl⟩;have self:(Value.ref C::bm).contains (.ref C)=true:=by simp
 refine codeAny_of_tree ?_;show wpAny _ _ (callAny (.ref C) _) _ _ _
 repeat(any_goals (first | assumption | with_reducible refine wpAny_loadPart_at hC ?_ | wp_step))
 refine⟨rfl,codeAny_call_builtin_at (Code.quiet_builtin _ (by decide+kernel)) entry_typeCall (wpAny_check_type_call_sub hC ?_)⟩
 repeat(first | with_reducible refine wpAny_loadPart_at hC ?_ | with_reducible refine wpAny_madeBy_exc hC ?_ | wp_step)
 refine codeAny_call_builtin_code (Code.quiet_builtin _ F.quiet) (wpAny_check_new_subT F T hC (codeAny_exc_new_subT F T hC ?_ hrest));have kp: ∀b o,h.get? b=some o->((h.push {cls:= .type "tuple",data:= .seq yT.toArray}).push (wR C none h.objs.size)).get? b=some o:=λb o e=>Heap.get?_push_of_some _ (Heap.get?_push_of_some _ e);have eC:=kp _ _ hC;have eX:((h.push {cls:= .type "tuple",data:= .seq yT.toArray}).push (wR C none h.objs.size)).get? (h.objs.size+1)=some {cls:= .ref C,data:= .fields #[.ref h.objs.size,.none,.none,.none,.bool false,.none]} :=by heap_get
 have i1:=hi.keeps kp;have b1:=(hb (.ref (h.objs.size+1))).keeps kp;show wpAny _ _ _ _ _ ⟨(h.push {cls:= .type "tuple",data:= .seq yT.toArray}).push {cls:= .ref C,data:= .fields #[.ref h.objs.size,.none,.none,.none,.bool false,.none]},g,d,t,os⟩;unfold isInstance
 repeat(first | (with_reducible refine wpAny_loadPart_at eX ?_;dsimp only) | (with_reducible refine wpAny_isSubtype_exc eC ?_;rw[self]) | wp_step)
 show wpAny _ _ (typeLookup (.ref C) _) _ _ _;refine PySem.W.Looks.at i1 ?_;refine wpAny_holding (wpAny_bind (PySem.W.Looks.at b1 ?_));refine wpAny_bind (wpAny_call (codeAny_mono hq λr s' z=> ?_));rcases r with e | (v | _ | _ | _) <;> first | exact z | exact z.elim | skip
 obtain⟨rfl,z⟩:=z;exact wpAny_pure (wpAny_pure z)
end
set_option maxHeartbeats 4000000
section
variable {prog:Program} {w:World} {A:Around} {E:Value->Shared->Prop} {h:Heap} {g:Array GenState} {d:Drawn} {t:Nat} {os:OsState}
variable {nm q:Str} {C N f e:Addr} {bs bm:List Value} {hdct:Bool} {sn:List Str} {sub:List Value} {ab:Bool} {col:Option Bool} {dd od:Option Addr} {k0 k1 k2 k3 k5:Option Value} {t0:Addr}
theorem zki {Q:Value->Shared->Prop}{x:Value}(T:OwnTail h wM bm)(hC:h.get? C=some (excClassObj nm q C N bs bm hdct sn sub ab col dd k0 k1 k2 k3 k5 "ValueError.__new__"))
  (he:h.get? e=some (wR C od t0))
  (hq: ∀h',(∀b o,b≠e->h.get? b=some o->h'.get? b=some o)->h'.get? e=some (wR C od h.objs.size)->Q .none ⟨h',g,d,t,os⟩):
  wpAny (model prog w) A (call (.builtin "ValueError.__init__") [.ref e,x]) Q E ⟨h,g,d,t,os⟩:=by
 have F:=PySem.F.excBase_ValueError;refine wpAny_call (codeAny_call_builtin F.init.plain F.initEntry (wpAny_check_init_subT F T hC he rfl ?_))
 wp_walk
 refine hq _ (λb o hb eb=> ?_) ?_
 ·rw[Heap.get?_update_other _ _ (Ne.symm hb)]
  exact Heap.get?_push_of_some _ eb
 ·rw[Heap.get?_update_self _ (Heap.get?_push_of_some _ he) rfl]
  rfl
end
set_option maxHeartbeats 4000000
open Builtin Builtin.ObjectAttr
theorem zoK (self:Value):PySem.refuseLoop self "__setattr__" wM=pure ():=by kernel_rfl
section
variable {prog:Program} {w:World} {A:Around} {E:Value->Shared->Prop} {s:Shared} {K:Frag} {C HE e t0:Addr} {cd:ClassData} {name:Str} {v:Value}
theorem zkk {Q:Unit->Shared->Prop}(X:K.In s.heap)(he:s.heap.get? e=some (wR C none t0))(hcl:clsIn K C=some cd)(hm:cd.mro= .ref C:: .ref HE::wM)(hd:cd.hasDict=true)
  (hs:findIn K (.ref C) "__setattr__" =some (some (.builtin "object.__setattr__"))) (ha:findIn K (.ref C) name=some none)
  (h: ∀h',(∀b o,b≠e->s.heap.get? b=some o->h'.get? b=some o)->h'.get? e=some (wR C (some s.heap.objs.size) t0)->h'.Ns1 s.heap.objs.size (λy=>if y=name then some v else none)->
   Q () {s with heap:=h',toks:=s.toks+2}):wpAny (model prog w) A (setAttr (.ref e) name v) Q E s:=by
 have J:InstAt s.heap e (wR C none t0) C none:=⟨he,rfl,rfl,trivial⟩;refine set_plain X J hs ?_;have SF:=PySem.F.store_object;have hmro:PySem.W.Looks (model prog w) s.heap (mroOf (.ref C)) cd.mro:=(looks_clsIn X hcl).andThen .now;have sub:PySem.W.Looks (model prog w) s.heap (isInstance (.ref e) (.type "object")) true:=J.type.andThen (looks_mroIn X (by unfold mroIn;rw[hcl,Option.bind_some,hm];rfl));refine codeAny_call_builtin SF.slot.plain SF.entry (@check_slot (model prog w) _ _ {s with toks:=s.toks+1} "object.__setattr__" "object" "__setattr__" (.ref e) [.str name s.toks,v] [] _ SF.kind SF.split sub (SF.args (.ref e) (.str name s.toks) v) ?_);rw[PySem.W.osa_eq,refuse_eq];refine wpAny_bind (wpAny_bind (PySem.W.Looks.here (s:= {s with toks:=s.toks+1}) J.type (wpAny_bind (PySem.W.Looks.here (s:= {s with toks:=s.toks+1}) hmro ?_))));rw[hm,refuseLoop_ref,refuseLoop_ref,zoK];refine wpAny_pure (wpAny_bind (PySem.W.Looks.here (s:= {s with toks:=s.toks+1}) J.type (wpAny_bind (PySem.W.Looks.here (s:= {s with toks:=s.toks+1}) (looks_findIn X ha) (wpAny_bind (wpAny_pure ?_))))));refine wpAny_bind (wpAny_pure (wpAny_bind (wpAny_bind (wpAny_loadPart he (wpAny_bind (PySem.W.Looks.here (s:= {s with toks:=s.toks+1}) (looks_clsIn X hcl) ?_))))));rw[hd];have lte:e < s.heap.objs.size:=Heap.lt_size he;have ne:s.heap.objs.size≠e:=Nat.ne_of_gt lte;show wpAny _ _ (alloc {cls:= .type "dict",data:= .dict #[]} >>= _) _ _ _;refine wpAny_bind (wpAny_alloc (wpAny_bind (wpAny_update (Heap.get?_push_of_some _ he) ?_)));dsimp only;generalize hh:(s.heap.push {cls:= .type "dict",data:= .dict #[]}).update e (λo=> {cls:=o.cls,dict:=some s.heap.objs.size,data:=o.data,slots:=o.slots})=h2;have e2:h2.get? e=some (wR C (some s.heap.objs.size) t0):=by
  rw[<- hh,Heap.get?_update_self _ (Heap.get?_push_of_some _ he) rfl]
 have d2:h2.get? s.heap.objs.size=some {cls:= .type "dict",data:= .dict #[]} :=by
  rw[<- hh,Heap.get?_update_other _ _ (Ne.symm ne)];exact Heap.get?_push_size _ rfl
 have k2: ∀b o,b≠e->s.heap.get? b=some o->h2.get? b=some o:=λb o hb q=>by
  rw[<- hh,Heap.get?_update_other _ _ (Ne.symm hb)];exact Heap.get?_push_of_some _ q
 have n2:h2.Ns1 s.heap.objs.size (λ_=>none):=Heap.Ns1.of_empty ⟨_,#[],_,d2,rfl,(λx hx=>absurd hx (by simp)),λ_=>rfl⟩;refine wpAny_pure (a:=some s.heap.objs.size) (wpAny_bind (wpAny_pure (wpAny_bind ?_)));refine wpAny_nsSet1 (s:= {s with heap:=h2,toks:=s.toks+1}) n2 λh' hn3 hs3=> ?_;obtain⟨oD,esD,epD,hoD,hdD,hcD⟩:=hn3.count (ns:= [name]) (PySem.Within.cons name v (λy hy=>absurd rfl hy));refine wpAny_bind (wpAny_lookBehind hoD (by rw[hdD];exact pastItsLine_dict (Nat.le_trans hcD (by show 1<=sizeLine+1;decide))) ?_);exact wpAny_pure (h _ (λb o hb q=>(hs3.2 b (Nat.ne_of_lt (Heap.lt_size q))).trans (k2 b o hb q)) ((hs3.2 e (Ne.symm ne)).trans e2) hn3)
end
set_option maxHeartbeats 4000000
theorem iR:Slot "BaseException" "__getattribute__" "BaseException.__getattribute__" :=
 .of (owner:= "BaseException") (n:= "__getattribute__") (by rw[typeLookup_type,builtinLookup_eq_fast];kernel_rfl) (by decide+kernel) (by decide+kernel) (by decide+kernel)
  (by first | exact .inl (by decide+kernel) | exact .inr (by decide+kernel)) (by rw[isSubtype_type];kernel_rfl)
theorem zfX:builtinKind "BaseException.__getattribute__" =some .slot:=by decide+kernel
theorem zhM:splitId "BaseException.__getattribute__" =some ("BaseException","__getattribute__"):=by decide+kernel
theorem zgr:(Value.builtin "BaseException.__getattribute__" ==Value.builtin "object.__getattribute__")=false:=by decide+kernel
set_option maxHeartbeats 4000000
section
variable {prog:Program} {w:World} {A:Around} {E:Value->Shared->Prop} {s:Shared} {K:Frag} {C HE e:Addr} {cd:ClassData} {ox:Obj} {odo:Option Obj}
theorem zkg {Q:Option Value->Shared->Prop}(X:K.In s.heap)(J:InstAt s.heap e ox C odo)(hcl:clsIn K C=some cd)(hm:cd.mro= .ref C:: .ref HE::wM)
  (hga:findIn K (.ref C) "__getattribute__" =some (some (.builtin "BaseException.__getattribute__"))) (hk:findIn K (.ref C) "__getattr__" =some none)
  (hf:findObj K C odo "__class__" =some (.bind (.builtin "getset_descriptor.__get__") (.builtin "object.__class__"))) (h:Q (some (.ref C)) {s with toks:=s.toks+1}):
  wpAny (model prog w) A (getAttr? (.ref e) "__class__") Q E s:=by
 obtain⟨hp,g,d,t,os⟩:=s;have L0:=J.type (M:=model prog w);have L1:=looks_findIn (M:=model prog w) X hga;have L2':=looks_find (M:=model prog w) X J hf;have L3:=looks_findIn (M:=model prog w) X hk;have mro: ∀T,wM.contains (.type T)=true->mroIn K C (.type T)=some true:=λT hT=>by
  unfold mroIn;rw[hcl,Option.bind_some,hm,if_neg (by simp)];rw[List.contains_cons,List.contains_cons,hT];simp
 have sub:PySem.W.Looks (model prog w) hp (isInstance (.ref e) (.type "BaseException")) true:=L0.andThen (looks_mroIn X (mro _ rfl));have hb:PySem.W.Looks (model prog w) hp (hookBefore (.ref C)) none:=by
  unfold hookBefore;rw[if_pos (by rfl)];exact L3
 unfold getAttr? getAttrBy? getAttrBy;refine wpAny_bind (wpAny_mkText (wpAny_bind (wpAny_attempt (wpAny_holding (wpAny_bind (L0.at (wpAny_bind (L1.at ?_))))))));dsimp only;rw[zgr,Bool.and_false,if_neg (by decide)];refine wpAny_bind (hb.at (wpAny_bind (wpAny_attempt (wpAny_holding ?_))));unfold callGetattribute;rw[Bool.false_and,if_neg (by decide)];unfold boundAndCalled;rw[iR.bind];refine wpAny_bind (wpAny_pure ?_);show wpAny _ _ (call (.builtin "BaseException.__getattribute__") [.ref e,.str "__class__" t]) _ _ _;refine wpAny_call (codeAny_call_builtin iR.plain PySem.F.entry_bexc_ga ?_);refine @check_slot (model prog w) _ _ ⟨hp,g,d,t+1,os⟩ "BaseException.__getattribute__" "BaseException" "__getattribute__" (.ref e) [.str "__class__" t] [] _ zfX zhM sub (PySem.F.args_bexc_ga (.ref e) (.str "__class__" t)) ?_;refine wpAny_bind (wpAny_pure (wpAny_bind (wpAny_pure (wpAny_bind (L0.at (wpAny_bind (L2'.at ?_)))))));show wpAny _ _ (holding [_] (call (.builtin "getset_descriptor.__get__") [.builtin "object.__class__",.ref e,.ref C]) >>= ret) _ _ _;refine wpAny_bind (wpAny_holding (wpAny_call (PySem.W.class_get (s:=⟨hp,g,d,t+1,os⟩) (ox:=ox) (od:=odo) X J (mro _ rfl) (wpAny_pure ?_))));show wpAny _ _ (handedOut (.ref C)) _ _ _;rw[PySem.W.handedOut_of rfl];exact wpAny_pure (wpAny_pure h)
end
set_option maxHeartbeats 4000000
abbrev TJ:=St->Hp->Str->VK->Prop
structure PJ (X:Cx)(es:List Expr)(t:TJ):Prop where
 run: ∀(pins:List (Addr×Obj)) (s:Shared) (σ:St) (H:Hp) (Q:VK) (out:Str),z6 X pins σ H s->t σ H out Q->wpAny (model X.prog X.w) X.A (joinParts out (evalEach es X.env)) (EP X pins σ Q) X.xe s
section
variable {X:Cx} {e e2:Expr} {es:List Expr} {te:TE} {t:TJ} {pos:Pos}
theorem zn8:PJ X [] (λ_ H out Q=>out.length<=sizeLine/\Q (.str out) H):=⟨λpins s σ H Q out I h=>joinParts_nil ⟨.str out,H,I.tok _,⟨_,rfl⟩,h.2⟩ h.1⟩
theorem zbH (he:PE X e te)(hr:PJ X es t)(hs:evalEach (e::es) X.env=eval e X.env::evalEach es X.env:=by rfl):
  PJ X (e::es) (λσ H out Q=>te σ H λv H1=> ∃y,v= .str y/\(out++y).length<=sizeLine/\t σ H1 (out++y) Q):=⟨λpins s σ H Q out I h=>by
 rw[hs];refine joinParts_cons (zJ (he pins s σ H _ I h) λv s1 ⟨x,H1,I1,r,y,ey,hz,q⟩=> ?_);subst ey;obtain⟨tk,rfl⟩:=r;exact⟨hz,hr.run pins s1 σ H1 Q _ I1 q⟩⟩
theorem zns (h:PJ X (e::e2::es) t)(hs:evalEach (e::e2::es) X.env=eval e X.env::eval e2 X.env::evalEach es X.env:=by rfl):PE X (.JoinedStr (e::e2::es) pos) (λσ H Q=>t σ H Str.empty Q):=
 ⟨λpins s σ H Q I q=>JoinedStr_many (by rw[<- hs];exact h.run pins s σ H Q _ I q)⟩
theorem znp (he:PE X e te):PE X (.FormattedValue e (-1) none pos) (λσ H Q=>te σ H λv H1=> ∃i:Int,v= .int i/\i.natAbs.log2 < 1920/\Q (.str (toString i)) H1):=
 ⟨λpins s σ H Q I h=>FormattedValue_plain (zJ (he pins s σ H _ I h) λv s1 ⟨x,H1,I1,r,i,ei,hi,q⟩=>by
  subst ei;obtain⟨tk,rfl⟩:=r;exact formatField_int_small hi ⟨.str (toString i),H1,I1.tok _,⟨_,rfl⟩,q⟩)⟩
end
def zja (e C:Addr)(od:Option Addr):Heap->Prop:=λh=> ∃t,h.get? e=some (wR C od t)
abbrev wZ (e C:Addr)(od:Option Addr):HO:= .ext (zja e C od)
theorem xok {P:Program}{w:World}{H:Hp}{h:Heap}{e C t:Addr}{od:Option Addr}(q:h.get? e=some (wR C od t)):x9 P w H h e (wZ e C od):=
 ⟨⟨t,q⟩,⟨_,q⟩,λh1 h2 ⟨t',q'⟩ k=>⟨t',k _ q'⟩⟩
theorem z6.exc {X:Cx}{pins:List (Addr×Obj)}{σ:St}{H:Hp}{s:Shared}{e C:Addr}{od:Option Addr}(I:z6 X pins σ H s)(h:H e=some (wZ e C od)): ∃t,s.heap.get? e=some (wR C od t):=(I.hok e _ h).1
structure sB (K:Frag)(HE:Addr):Prop where
 tail: ∀h:Heap,K.In h->OwnTail h wM (.ref HE::wM)
 reads:readsIn K HE (.type "type")=true
 find:findCls K (.ref HE) (.type "type") "__init__" =some (.val (.builtin "ValueError.__init__"))
 ga:specialIn K (.ref HE) "__getattribute__" =some (some (.builtin "type.__getattribute__"))
 dget:specialIn K (.builtin "object.__class__") "__get__" =some (some (.builtin "getset_descriptor.__get__"))
 dset:takesIn K (.builtin "object.__class__")=some true
theorem zqi {K:Frag}{HE NH:Addr}{oc oc2:Value}{od od2:Option Addr}{cd:ClassData}{sl sl2:Array (Option Value)}{es:Array DictEntry}{ep:Nat}(l:K.lookup HE=some ⟨oc,od,.cls cd,sl⟩)(hn:cd.ns=NH)
  (l2:K.lookup NH=some ⟨oc2,od2,.dict es ep,sl2⟩) (hk:(es.toList.all λe=>match e.key with | .str _ _=>true | _=>false)=true) (hni:nsFind es "__init__" =none) {h:Heap} (X:K.In h):OwnTail h wM (.ref HE::wM):=by
 subst hn;refine .own (X _ _ l) ⟨_,es,ep,X _ _ l2,rfl,λe he=> ?_,λ_=>rfl⟩ hni .base;have q:=List.all_eq_true.mp hk e (Array.mem_toList_iff.mpr he);cases hkey:e.key with
 | str n t=>exact⟨n,t,rfl⟩
 | _=>rw[hkey]at q;cases q
structure v9 (K:Frag)(HE C:Addr):Prop where
 ob: ∃(nm q:Str) (N:Addr) (bs:List Value) (sn:List Str) (sub:List Value) (ab:Bool) (col:Option Bool) (dd:Option Addr) (k0 k1 k2 k3 k5:Option Value),
  K.lookup C=some (excClassObj nm q C N bs (.ref HE::wM) true sn sub ab col dd k0 k1 k2 k3 k5 "ValueError.__new__")
 kp:keepIn K (.ref C)=true
 sa:findIn K (.ref C) "__setattr__" =some (some (.builtin "object.__setattr__"))
 ga:findIn K (.ref C) "__getattribute__" =some (some (.builtin "BaseException.__getattribute__"))
 gg:findIn K (.ref C) "__getattr__" =some none
 cc:findIn K (.ref C) "__class__" =some (some (.builtin "object.__class__"))
theorem v9.cls {K:Frag}{HE C:Addr}(x:v9 K HE C): ∃cd,clsIn K C=some cd/\cd.mro= .ref C:: .ref HE::wM/\cd.hasDict=true:=by
 obtain⟨nm,q,N,bs,sn,sub,ab,col,dd,k0,k1,k2,k3,k5,l⟩:=x.ob;exact⟨_,by unfold clsIn;rw[l],rfl,rfl⟩
structure mD (K:Frag)(C f:Addr):Prop where
 init:findIn K (.ref C) "__init__" =some (some (.ref f))
 fn:isFn K (.ref f)=true
section
variable {X:Cx} {CX:wL} {k:Nat} {f C HE:Addr} {fd:FuncData} {ps:List Str} {sp:Sp} {ds:List Value} {dvs:List V} {E:XK}
variable {x:Str} {p pos apos pos':Pos} {e o value:Expr} {es:List Expr} {te ta tv:TE} {t:TA}
def zpS (K:Frag)(HE:Addr)(t:TA):TE:=λσ H Q=>t σ H λvs H2=> ∃e C od y,vs= [.ref e,y]/\H2 e=some (wZ e C od)/\v9 K HE C/\Q .non H2
theorem z6.exc_upd {pins:List (Addr×Obj)}{σ:St}{H:Hp}{s:Shared}{h':Heap}{e0 C0 t1 t':Addr}{od:Option Addr}(I:z6 X pins σ H s)(h:H e0=some (wZ e0 C0 od))(kp: ∀b o,b≠e0->s.heap.get? b=some o->h'.get? b=some o)
  (q:h'.get? e0=some (wR C0 od t1)):z6 X pins σ H {s with heap:=h',toks:=t'} :=by
 have z:=I.write (x:=e0) (e:=e0) (o:=wZ e0 C0 od) (t':=t') (h':=h') (by rw[h];exact trivial) (.inl rfl) kp ⟨_,q⟩ (xok q);have e1:upd H e0 (wZ e0 C0 od)=H:=by
  funext b
  by_cases hb:b=e0
  ·rw[hb,xC,h]
  ·rw[zU hb]
 rw[e1]at z;exact z
theorem znq {pl:Sem Bool}(T:sB X.K HE)(hg:Gl X x)(hm:X.mg x=some (.ref HE))(ha:PA X (e::es) t)
  (ht:eval (.Call (.Attribute (.Name x p) "__init__" apos) (e::es) [] pos) X.env=(do
   let ov <- eval (.Name x p) X.env
   standAt apos.atName
   let(f,first) <- holding [ov] (getMethod ov "__init__" pl)
   callWith pos f first (backTo pos (starEach (e::es) X.env)) (backToKw pos (keywordEach [] X.env))):=by rfl)
  (hs:starEach (e::es) X.env=(false,eval e X.env)::starEach es X.env:=by rfl) (hplain:(backTo pos (starEach es X.env)).any (·.1)=false:=by rfl) (hdb:(x==("__debug__" :Str))=false:=by decide):
  PE X (.Call (.Attribute (.Name x p) "__init__" apos) (e::es) [] pos) (zpS X.K HE t):=⟨λpins s σ H Q I h=>by
 refine PySem.W.methodCall_KW (pl:=pl) (rP I hg hm ?_ hdb) ht;refine PySem.W.method_cls I.kIn T.ga (PySem.W.cls_value I.kIn T.reads T.find rfl ?_);have hA:=ha.run pos pins _ σ H _ (I.tok (s.toks+1)) h;rw[hs]at hA⊢
 refine Calls.callWith_builtin (by show(false||(backTo pos (starEach es X.env)).any (·.1))=false;rw[hplain] <;> rfl) (Calls.evalArgs_plain ?_);refine zJ hA λus s2 ⟨vs,H2,I2,r2,e0,C0,od,y,ev,he,M,q⟩=> ?_;subst ev;obtain⟨u1,u2,rfl,ru1,ru2⟩:=zI.two r2;cases ru1;obtain⟨nm,qn,N,bs,sn,sub,ab,col,dd,k0,k1,k2,k3,k5,l⟩:=M.ob;obtain⟨t0,eX⟩:=I2.exc he;obtain⟨hp,g,d,tk,os⟩:=s2;exact zki (T.tail hp I2.kIn) (I2.kIn _ _ l) eX λh' kp q'=>⟨.non,H2,I2.exc_upd (t':=tk) he kp q',rfl,q⟩⟩
def zoS (K:Frag)(HE:Addr)(ta tv:TE)(f:Str):TS:=λD σ H=>tv σ H λy H1=>ta σ H1 λx H2=> ∃e C,x= .ref e/\H2 e=some (wZ e C none)/\v9 K HE C/\wQ K C f/\
 ∀dx,H2 dx=none->D.nx σ (upd (upd H2 dx (.xd [(f,y)])) e (wZ e C (some dx)))
theorem znJ {f:Str}(ha:PE X o ta)(hv:PE X value tv)(hs:swapsWith value (some (.Attribute o f pos')) pos.line X.env=pure false):PS X (.Assign [.Attribute o f pos'] value pos) (zoS X.K HE ta tv f):=⟨λpins s σ H D I h=>by
 refine plainObj_wpAny_Assign_Attribute (zJ (hv pins s σ H _ I h) λu s1 ⟨y,H1,I1,ry,q⟩=>zJ (ha pins s1 σ H1 _ I1 q) λov s2 ⟨x,H2,I2,rx,e0,C0,ex,he,M,n,q2⟩=> ?_) hs;subst ex;obtain rfl:ov=Value.ref e0:=rx;obtain⟨cd,hcl,hm,hd⟩:=M.cls;obtain⟨t0,eX⟩:=I2.exc he;refine zkk I2.kIn eX hcl hm hd M.sa n λh' kp q' ns=> ?_;have fr:H2 s2.heap.objs.size=none:=I2.hok.fresh (Nat.le_refl _);have ne:e0≠s2.heap.objs.size:=Nat.ne_of_lt (Heap.lt_size eX);obtain⟨oD,_,_,eD,_⟩:=id ns;refine⟨σ,_,?_,q2 _ fr⟩;have nD:Un X.fs [] H2 (upd (upd H2 s2.heap.objs.size (.xd [(f,y)])) e0 (wZ e0 C0 (some s2.heap.objs.size))) s2.heap h':=by
  have low: ∀{b:Addr} {ob:Obj},s2.heap.get? b=some ob->b≠s2.heap.objs.size:=λz=>Nat.ne_of_lt (Heap.lt_size z);refine⟨λb ob z n' _ _=>kp b ob (λw=>by rw[w,he]at n';cases n') z,λb ob z n' _ _=>⟨ob.slots,kp b ob (λw=>by rw[w,he]at n';cases n') z⟩,λb ob z n' _=> ?_,λb ob z _=> ?_,λb xs z=> ?_,λb ob v z=> ?_,λb ps z=> ?_⟩
  ·have:b≠e0:=λw=>by rw[w,he]at n';cases n'
   rw[zU this,zU (low z)];exact n'
  ·by_cases hb:b=e0
   ·exact⟨_,hb▸q'⟩
   ·exact⟨_,kp b ob hb z⟩
  ·have w1:b≠e0:=oS z he (by intro w;cases w)
   rw[zU w1,zU (xZ z fr)];exact z
  ·have w1:b≠e0:=oS z he (by intro w;cases w)
   rw[zU w1,zU (xZ z fr)];exact z
  ·have w1:b≠e0:=oS z he (by intro w;cases w)
   exact⟨#[],by rw[zU w1,zU (xZ z fr),z];simp⟩
 refine I2.un (t':=s2.toks+2) nD λb u z=> ?_;by_cases hb:b=e0
 ·subst hb;rw[xC]at z;cases z;exact xok q'
 ·rw[zU hb]at z
  by_cases hb2:b=s2.heap.objs.size
  ·subst hb2;rw[xC]at z;cases z
   refine⟨_,ns,λg'=> ?_⟩;show xS (List.lookup g' [(f,y)]) (if g'=f then some _ else none);by_cases hg:g'=f
   ·subst hg;simp[List.lookup,xS];exact ry
   ·have:(g'==f)=false:=by simpa using hg
    rw[if_neg hg];simp[List.lookup,this,xS]
  ·rw[zU hb2]at z
   refine(I2.hok b u z).stay (λc v hc w=>kp c v ?_ w) (λc w=> ?_) λc xs w=> ?_
   ·rintro rfl
    rcases hc with w' | w'
    ·exact hb w'.symm
    ·rw[he]at w';cases w'
   ·rw[zU (oS w he (by intro w';cases w')),zU (xZ w fr)];exact w
   ·rw[zU (oS w he (by intro w';cases w')),zU (xZ w fr)];exact w⟩
def zdK:V->Option Value
 | .ref a=>some (.ref a)
 | .ty n=>some (.type n)
 | _=>none
theorem zjJ {c:V}{u cv:Value}(h:zdK c=some cv)(r:zL c u):u=cv:=by
 cases c with
 | ref a=>cases r;exact Option.some.inj h
 | ty n=>cases r;exact Option.some.inj h
 | _=>cases h
end
end L2
set_option maxHeartbeats 0
namespace Hd
noncomputable section
open PySem PySem.W L2
abbrev pg:Program:=PySem.Challenge.pw_copiedhouse_k09_terms_texts
def tp (i:Nat):Stmt:=pg.main.body.getD i (.Pass ⟨0,0,0,0⟩)
def wO (i j:Nat):Stmt:=zkL (tp i) j
def en (P:Params)(x:Str)(t:Nat)(v:Value):DictEntry:=⟨PyData.keyHash P x,.str x t,v⟩
def tu (l:List Value):Obj:=⟨.type "tuple",none,.seq l.toArray 0,#[]⟩
def fl (l:List Value):Obj:=⟨.none,none,.fields l.toArray,#[]⟩
def co (l:List Value):Obj:=⟨.type "code",none,.fields l.toArray,#[]⟩
def fn (n q:Str)(s:Stmt)(g:Nat)(cl:List (Str×Addr))(d k dc pm:Value)(an:Option Addr)(cd ct:Value)(b:Nat):FuncData:= {name:=n,qualname:=q,params:=rF s,body:= .stmts (u6 s),scope:=zR s,globals:=g,closure:=cl,defaults:=d,kwdefaults:=k,doc:=dc,pyModule:=pm,annotations:=an,code:=cd,closureTuple:=ct,builtins:=b}
def fu (f:FuncData):Obj:=⟨.type "function",none,.func f,#[]⟩
def fp (f:FuncData):Obj:=⟨.none,none,.func f,#[]⟩
def li:Life:= {}
abbrev an:Option Value:=some (.ref 6)
def ev:Env:= {scope:=pg.main.scope,locals:=mainNs,globals:=mainNs,cells:= [],code:= .ref 13,frame:=some 14}
abbrev cE:Code:= .body (behindTheImports pg) ev
abbrev B:List Frame:= [topFrame ⟨0,0,0,0⟩]
abbrev gs:Array GenState:=Array.mk []
def yM (n q:Str)(t l a b r r2:Nat)(x y z:Value)(f k:Nat):Obj:=co [.str n t,.str q (t+1),.str "/claim/cut.py" (t+2),.int l 0,.int a 0,.int 0 0,.int 0 0,.int 3 0,.ref r,.bool true,.int b 0,.ref r2,x,y,z,.ref f,.int k 0,.int l 0,.str "/claim/cut.py" (k+1)]
def yN (n q:Str)(s:Stmt):Obj:=fp (fn n q s 0 [] .none .none .none .none none .none .none 0)
def yO (n q:Str)(s:Stmt)(m:Str)(t c:Nat):Obj:=fu (fn n q s 3 [] .none .none .none (.str m t) none (.ref c) .none 0)
def dc (l:List DictEntry)(n:Nat):Obj:=⟨.type "dict",none,.dict l.toArray n,#[]⟩
def zbg (x:Nat):Obj:=⟨.type "super",none,.fields #[.ref x,.ref x,.ref x],#[]⟩
def zbe (x:Nat):Obj:=⟨.type "builtin_function_or_method",none,.fields #[.builtin "object.__init_subclass__",.ref x],#[]⟩
def hbp:Obj:=⟨.type "builtin_function_or_method",none,.fields #[.builtin "type.__prepare__",.type "type"],#[]⟩
def xW (a b:Nat)(m:Str)(t:Nat):Obj:=⟨.type "frame",none,.plain,#[some (.ref a),some (.ref 3),some (.ref b),none,some (.str m t),none,some (.ref 0)]⟩
def jC (n:Str)(t l r s:Nat):Obj:=co [.str n t,.str n (t+1),.str "/claim/cut.py" (t+2),.int l 0,.int 0 0,.int 0 0,.int 0 0,.int 0 0,.ref r,.bool false,.int 181 0,.ref s,.none,.none,.none,.none,.int (t+3:Nat) 0,.int l 0,.str "/claim/cut.py" (t+4)]
def hda (P:Params)(t:Nat)(m:Str)(tm:Nat)(n:Str)(l ti i ts s:Nat):Obj:=dc [en P "__module__" t (.str m tm),en P "__qualname__" (t+2) (.str n (t+1)),en P "__firstlineno__" (t+4) (.int l (t+3)),en P "__init__" ti (.ref i),en P "__static_attributes__" ts (.ref s)] 5
def hdb (P:Params)(t:Nat)(m:Str)(tm l ti i ts s:Nat):Obj:=dc [en P "__module__" t (.str m tm),en P "__firstlineno__" (t+4) (.int l (t+3)),en P "__init__" ti (.ref i),en P "__static_attributes__" ts (.ref s),en P "__doc__" (ts+1) .none] 2
def hcl (n:Str)(e c d b t u:Nat):Obj:=⟨.type "type",none,.cls ⟨n,[.ref e],[.ref c,.ref e,.type "ValueError",.type "Exception",.type "BaseException",.type "object"],d,n,true,[],[],false,none,false⟩,#[some (.ref b),none,some (.str n t),some (.str n u),some (.builtin "ValueError.__new__"),some (.bool true)]⟩
abbrev lf (o:Obj):BT:= .node o .nil .nil
def f3 (P:Params):Obj:=dc [en P "__name__" 165 (.str "law_copiedhouse_k09_terms_texts" 434),en P "__doc__" 166 (.none),en P "__package__" 167 (.none),en P "__loader__" 168 (.builtin "__main__.__loader__#opaque"),en P "__spec__" 169 (.none),en P "__annotations__" 170 (.ref 6),en P "__builtins__" 171 (.ref 4),en P "__file__" 173 (.str "/claim/cut.py" 172),en P "__cached__" 174 (.none),en P "_wall" 193 (.ref 21),en P "HouseError" 213 (.ref 31),en P "BadText" 238 (.ref 51),en P "WIDE" 242 (.int 4294967296 241),en P "LETTERS" 244 (.str "abcdefghijklmnopqrstuvwxyz" 243),en P "FIGURES" 246 (.str "0123456789" 245),en P "LONGEST" 248 (.int 8 247),en P "is_word" 254 (.ref 58),en P "is_number" 260 (.ref 63),en P "FIGURES_AT_MOST" 264 (.int 10 263),en P "Pieces" 348 (.ref 129),en P "number_of" 358 (.ref 140),en P "OPS" 366 (.ref 141),en P "THREE" 370 (.ref 142),en P "MOST_BRACKETS" 372 (.int 20 371),en P "read_term" 382 (.ref 149),en P "take_term" 393 (.ref 156),en P "plain_term" 401 (.ref 163),en P "take_inside" 412 (.ref 170),en P "take_terms" 418 (.ref 175),en P "show_term" 426 (.ref 180),en P "bracketed" 433 (.ref 187),en P "_law_feed" 445 (.ref 194),en P "_law_next" 457 (.ref 201),en P "_law_one" 465 (.ref 208),en P "_law_word" 471 (.ref 213),en P "_law_is_plain" 477 (.ref 218),en P "_law_is_number" 483 (.ref 223),en P "_law_is_bare" 491 (.ref 230),en P "_law_is_inside" 497 (.ref 235),en P "_law_words_of" 509 (.ref 242),en P "_law_slip" 518 (.ref 249),en P "_law_name" 526 (.ref 256),en P "_law_figures" 536 (.ref 263),en P "_law_any_term" 542 (.ref 268),en P "_law_chain" 553 (.ref 275),en P "_law_term_of" 561 (.ref 282),en P "_law_term_right" 574 (.ref 289),en P "law" 589 (.ref 296)] 48
def oB:Obj:=tu []
def f12:Obj:=fl [.int 1 0,.int 0 0,.ref 20,.int 5 0,.int 0 0,.ref 27,.int 7 0,.int 0 0,.ref 40,.int 17 0,.int 0 0,.ref 57,.int 21 0,.int 0 0,.ref 62,.int 29 0,.int 0 0,.ref 69,.int 65 0,.int 0 0,.ref 139,.int 76 0,.int 0 0,.ref 148,.int 81 0,.int 0 0,.ref 155,.int 90 0,.int 0 0,.ref 162,.int 96 0,.int 0 0,.ref 169,.int 108 0,.int 0 0,.ref 174,.int 111 0,.int 0 0,.ref 179,.int 123 0,.int 0 0,.ref 186,.int 126 0,.int 0 0,.ref 193,.int 134 0,.int 0 0,.ref 200,.int 144 0,.int 0 0,.ref 207,.int 146 0,.int 0 0,.ref 212,.int 152 0,.int 0 0,.ref 217,.int 155 0,.int 0 0,.ref 222,.int 159 0,.int 0 0,.ref 229,.int 163 0,.int 0 0,.ref 234,.int 172 0,.int 0 0,.ref 241,.int 187 0,.int 0 0,.ref 248,.int 189 0,.int 0 0,.ref 255,.int 192 0,.int 0 0,.ref 262,.int 197 0,.int 0 0,.ref 267,.int 216 0,.int 0 0,.ref 274,.int 223 0,.int 0 0,.ref 281,.int 227 0,.int 0 0,.ref 288,.int 239 0,.int 0 0,.ref 295]
def j8:Obj:=jC "<module>" 182 1 11 12
def j9:Obj:=xW 13 3 "__main__" 164
def c0:Obj:=tu []
def f16:Obj:=fl []
def cL:Obj:=tu [.str "k" 190]
def cS:Obj:=tu []
def f19:Obj:=yN "_wall" "_wall" (tp 0)
def bB:Obj:=yM "_wall" "_wall" 187 1 1 181 15 16 .none (.ref 17) (.ref 18) 19 191
def bO:Obj:=yO "_wall" "_wall" (tp 0) "__main__" 164 20
def bX:Obj:=tu [.type "ValueError"]
def f23:Obj:=hbp
def f24 (P:Params):Obj:=dc [en P "__module__" 203 (.str "copiedhouse.errors" 194),en P "__qualname__" 205 (.str "HouseError" 204),en P "__firstlineno__" 207 (.int 5 206),en P "__static_attributes__" 208 (.ref 29)] 4
def f25:Obj:=tu []
def f26:Obj:=fl []
def f27:Obj:=jC "HouseError" 198 5 25 26
def f28:Obj:=xW 27 24 "copiedhouse.errors" 194
def f29:Obj:=tu []
def f30 (P:Params):Obj:=dc [en P "__module__" 203 (.str "copiedhouse.errors" 194),en P "__firstlineno__" 207 (.int 5 206),en P "__static_attributes__" 208 (.ref 29),en P "__weakref__" 210 (.ref 32),en P "__doc__" 211 (.none)] 3
def f31:Obj:=⟨.type "type",none,.cls (⟨"HouseError",[.type "ValueError"],[.ref 31,.type "ValueError",.type "Exception",.type "BaseException",.type "object"],30,"HouseError",true,[],[.ref 51],false,none,false⟩),#[some (.ref 22),none,some (.str "HouseError" 196),some (.str "HouseError" 204),some (.builtin "ValueError.__new__"),some (.bool true)]⟩
def f32:Obj:=⟨.type "getset_descriptor",none,.fields #[.str "__weakref__" 209,.ref 31,.builtin "ExceptionGroup.__weakref__",.none],#[]⟩
def f33:Obj:=zbg 31
def f34:Obj:=zbe 31
def f35:Obj:=tu [.ref 31]
def f36:Obj:=hbp
def f37 (P:Params):Obj:=hda P 221 "copiedhouse.errors" 194 "BadText" 7 233 48 235 49
def f38:Obj:=tu []
def f39:Obj:=fl [.int 9 0,.int 4 0,.ref 47]
def f40:Obj:=jC "BadText" 216 7 38 39
def f41:Obj:=xW 40 37 "copiedhouse.errors" 194
def f42:Obj:=tu []
def f43:Obj:=fl []
def f44:Obj:=tu [.str "self" 229,.str "at" 230]
def f45:Obj:=tu []
def f46:Obj:=yN "__init__" "BadText.__init__" (wO 3 0)
def f47:Obj:=yM "__init__" "BadText.__init__" 226 9 2 181 42 43 .none (.ref 44) (.ref 45) 46 231
def f48:Obj:=yO "__init__" "BadText.__init__" (wO 3 0) "copiedhouse.errors" 194 47
def f49:Obj:=tu [.str "at" 234]
def f50 (P:Params):Obj:=hdb P 221 "copiedhouse.errors" 194 7 233 48 235 49
def f51:Obj:=hcl "BadText" 31 51 50 35 214 222
def f52:Obj:=zbg 51
def f53:Obj:=zbe 51
def f54:Obj:=tu []
def f55:Obj:=fl []
def f56:Obj:=yN "is_word" "is_word" (tp 9)
def f57:Obj:=yM "is_word" "is_word" 249 17 1 181 54 55 .none .none .none 56 252
def f58:Obj:=yO "is_word" "is_word" (tp 9) "copiedhouse.words" 239 57
def f59:Obj:=tu []
def f60:Obj:=fl []
def f61:Obj:=yN "is_number" "is_number" (tp 10)
def f62:Obj:=yM "is_number" "is_number" 255 21 2 181 59 60 .none .none .none 61 258
def f63:Obj:=yO "is_number" "is_number" (tp 10) "copiedhouse.words" 239 62
def f64:Obj:=tu []
def f65:Obj:=hbp
def f66 (P:Params):Obj:=dc [en P "__module__" 272 (.str "copiedhouse.pieces" 261),en P "__qualname__" 274 (.str "Pieces" 273),en P "__firstlineno__" 276 (.int 29 275),en P "__init__" 285 (.ref 77),en P "at_end" 292 (.ref 84),en P "take" 300 (.ref 91),en P "take_close" 307 (.ref 98),en P "take_end" 314 (.ref 105),en P "take_word" 322 (.ref 112),en P "take_number" 331 (.ref 119),en P "take_many" 338 (.ref 126),en P "__static_attributes__" 341 (.ref 127)] 12
def f67:Obj:=tu []
def f68:Obj:=fl [.int 31 0,.int 4 0,.ref 76,.int 36 0,.int 4 0,.ref 83,.int 39 0,.int 4 0,.ref 90,.int 46 0,.int 4 0,.ref 97,.int 50 0,.int 4 0,.ref 104,.int 54 0,.int 4 0,.ref 111,.int 60 0,.int 4 0,.ref 118,.int 63 0,.int 4 0,.ref 125]
def f69:Obj:=jC "Pieces" 267 29 67 68
def f70:Obj:=xW 69 66 "copiedhouse.pieces" 261
def f71:Obj:=tu []
def f72:Obj:=fl []
def f73:Obj:=tu [.str "self" 280,.str "text" 281,.str "spread" 282]
def f74:Obj:=tu []
def f75:Obj:=yN "__init__" "Pieces.__init__" (wO 13 0)
def f76:Obj:=yM "__init__" "Pieces.__init__" 277 31 2 181 71 72 .none (.ref 73) (.ref 74) 75 283
def f77:Obj:=yO "__init__" "Pieces.__init__" (wO 13 0) "copiedhouse.pieces" 261 76
def f78:Obj:=tu []
def f79:Obj:=fl []
def f80:Obj:=tu [.str "self" 289]
def f81:Obj:=tu []
def f82:Obj:=yN "at_end" "Pieces.at_end" (wO 13 1)
def f83:Obj:=yM "at_end" "Pieces.at_end" 286 36 1 181 78 79 .none (.ref 80) (.ref 81) 82 290
def f84:Obj:=yO "at_end" "Pieces.at_end" (wO 13 1) "copiedhouse.pieces" 261 83
def f85:Obj:=tu []
def f86:Obj:=fl []
def f87:Obj:=tu [.str "self" 296,.str "piece" 297]
def f88:Obj:=tu []
def f89:Obj:=yN "take" "Pieces.take" (wO 13 2)
def f90:Obj:=yM "take" "Pieces.take" 293 39 1 181 85 86 .none (.ref 87) (.ref 88) 89 298
def f91:Obj:=yO "take" "Pieces.take" (wO 13 2) "copiedhouse.pieces" 261 90
def f92:Obj:=tu []
def f93:Obj:=fl []
def f94:Obj:=tu [.str "self" 304]
def f95:Obj:=tu []
def f96:Obj:=yN "take_close" "Pieces.take_close" (wO 13 3)
def f97:Obj:=yM "take_close" "Pieces.take_close" 301 46 1 181 92 93 .none (.ref 94) (.ref 95) 96 305
def f98:Obj:=yO "take_close" "Pieces.take_close" (wO 13 3) "copiedhouse.pieces" 261 97
def f99:Obj:=tu []
def zec:Obj:=fl []
def eM:Obj:=tu [.str "self" 311]
def eN:Obj:=tu []
def zed:Obj:=yN "take_end" "Pieces.take_end" (wO 13 4)
def eO:Obj:=yM "take_end" "Pieces.take_end" 308 50 1 181 99 100 .none (.ref 101) (.ref 102) 103 312
def eP:Obj:=yO "take_end" "Pieces.take_end" (wO 13 4) "copiedhouse.pieces" 261 104
def eQ:Obj:=tu []
def zee:Obj:=fl []
def eR:Obj:=tu [.str "self" 318,.str "piece" 319]
def eS:Obj:=tu []
def zef:Obj:=yN "take_word" "Pieces.take_word" (wO 13 5)
def eT:Obj:=yM "take_word" "Pieces.take_word" 315 54 1 181 106 107 .none (.ref 108) (.ref 109) 110 320
def eU:Obj:=yO "take_word" "Pieces.take_word" (wO 13 5) "copiedhouse.pieces" 261 111
def eV:Obj:=tu []
def zeg:Obj:=fl []
def eW:Obj:=tu [.str "self" 326,.str "least" 327,.str "most" 328]
def eY:Obj:=tu []
def zeh:Obj:=yN "take_number" "Pieces.take_number" (wO 13 6)
def eZ:Obj:=yM "take_number" "Pieces.take_number" 323 60 3 181 113 114 .none (.ref 115) (.ref 116) 117 329
def dA:Obj:=yO "take_number" "Pieces.take_number" (wO 13 6) "copiedhouse.pieces" 261 118
def dB:Obj:=tu []
def zej:Obj:=fl []
def dC:Obj:=tu [.str "self" 335]
def dD:Obj:=tu []
def zek:Obj:=yN "take_many" "Pieces.take_many" (wO 13 7)
def dE:Obj:=yM "take_many" "Pieces.take_many" 332 63 1 181 120 121 .none (.ref 122) (.ref 123) 124 336
def dF:Obj:=yO "take_many" "Pieces.take_many" (wO 13 7) "copiedhouse.pieces" 261 125
def dG:Obj:=tu [.str "pieces" 339,.str "place" 340]
def dH (P:Params):Obj:=dc [en P "__module__" 272 (.str "copiedhouse.pieces" 261),en P "__firstlineno__" 276 (.int 29 275),en P "__init__" 285 (.ref 77),en P "at_end" 292 (.ref 84),en P "take" 300 (.ref 91),en P "take_close" 307 (.ref 98),en P "take_end" 314 (.ref 105),en P "take_word" 322 (.ref 112),en P "take_number" 331 (.ref 119),en P "take_many" 338 (.ref 126),en P "__static_attributes__" 341 (.ref 127),en P "__dict__" 343 (.ref 130),en P "__weakref__" 345 (.ref 131),en P "__doc__" 346 (.none)] 4
def dI:Obj:=⟨.type "type",none,.cls (⟨"Pieces",[.type "object"],[.ref 129,.type "object"],128,"Pieces",true,[],[],false,none,false⟩),#[none,none,some (.str "Pieces" 265),some (.str "Pieces" 273),some (.builtin "object.__new__"),some (.bool true)]⟩
def dJ:Obj:=⟨.type "getset_descriptor",none,.fields #[.str "__dict__" 342,.ref 129,.builtin "function.__dict__",.builtin "function.__dict__#set"],#[]⟩
def dL:Obj:=⟨.type "getset_descriptor",none,.fields #[.str "__weakref__" 344,.ref 129,.builtin "ExceptionGroup.__weakref__",.none],#[]⟩
def zel:Obj:=zbg 129
def zem:Obj:=zbe 129
def dM:Obj:=tu []
def zen:Obj:=fl []
def dN:Obj:=tu [.str "piece" 352,.str "least" 353,.str "most" 354,.str "number" 355]
def dO:Obj:=tu []
def zeo:Obj:=yN "number_of" "number_of" (tp 14)
def dP:Obj:=yM "number_of" "number_of" 349 65 3 181 134 135 .none (.ref 136) (.ref 137) 138 356
def dQ:Obj:=yO "number_of" "number_of" (tp 14) "copiedhouse.pieces" 261 139
def dR:Obj:=tu [.str "+" 361,.str "-" 362,.str "*" 363,.str "<" 364,.str "=" 365]
def dS:Obj:=tu [.str "was" 367,.str "mine" 368,.str "yours" 369]
def dU:Obj:=tu []
def zep:Obj:=fl []
def dW:Obj:=tu [.str "text" 376,.str "told" 377,.str "pieces" 378,.str "term" 379]
def dX:Obj:=tu []
def zeq:Obj:=yN "read_term" "read_term" (tp 19)
def dY:Obj:=yM "read_term" "read_term" 373 76 2 181 143 144 .none (.ref 145) (.ref 146) 147 380
def dZ:Obj:=yO "read_term" "read_term" (tp 19) "copiedhouse.termreader" 359 148
def c3:Obj:=tu []
def zer:Obj:=fl []
def c4:Obj:=tu [.str "pieces" 386,.str "told" 387,.str "around" 388,.str "piece" 389,.str "term" 390]
def c5:Obj:=tu []
def zes:Obj:=yN "take_term" "take_term" (tp 20)
def c6:Obj:=yM "take_term" "take_term" 383 81 3 181 150 151 .none (.ref 152) (.ref 153) 154 391
def c7:Obj:=yO "take_term" "take_term" (tp 20) "copiedhouse.termreader" 359 155
def c8:Obj:=tu []
def zet:Obj:=fl []
def cA:Obj:=tu [.str "piece" 397,.str "told" 398]
def cC:Obj:=tu []
def zev:Obj:=yN "plain_term" "plain_term" (tp 21)
def cF:Obj:=yM "plain_term" "plain_term" 394 90 2 181 157 158 .none (.ref 159) (.ref 160) 161 399
def cG:Obj:=yO "plain_term" "plain_term" (tp 21) "copiedhouse.termreader" 359 162
def cH:Obj:=tu []
def zew:Obj:=fl []
def cI:Obj:=tu [.str "pieces" 405,.str "told" 406,.str "around" 407,.str "head" 408,.str "shelf" 409]
def cJ:Obj:=tu []
def zex:Obj:=yN "take_inside" "take_inside" (tp 22)
def cK:Obj:=yM "take_inside" "take_inside" 402 96 3 181 164 165 .none (.ref 166) (.ref 167) 168 410
def cM:Obj:=yO "take_inside" "take_inside" (tp 22) "copiedhouse.termreader" 359 169
def cN:Obj:=tu []
def zey:Obj:=fl []
def zez:Obj:=yN "take_terms" "take_terms" (tp 23)
def cO:Obj:=yM "take_terms" "take_terms" 413 108 4 181 171 172 .none .none .none 173 416
def cP:Obj:=yO "take_terms" "take_terms" (tp 23) "copiedhouse.termreader" 359 174
def cQ:Obj:=tu []
def ze0:Obj:=fl []
def ze1:Obj:=yN "show_term" "show_term" (tp 25)
def cR:Obj:=yM "show_term" "show_term" 421 111 1 181 176 177 .none .none .none 178 424
def cT:Obj:=yO "show_term" "show_term" (tp 25) "copiedhouse.writer" 419 179
def cU:Obj:=tu []
def ze2:Obj:=fl []
def cV:Obj:=tu [.str "parts" 430]
def cW:Obj:=tu []
def ze3:Obj:=yN "bracketed" "bracketed" (tp 26)
def cX:Obj:=yM "bracketed" "bracketed" 427 123 1 181 181 182 .none (.ref 183) (.ref 184) 185 431
def cY:Obj:=yO "bracketed" "bracketed" (tp 26) "copiedhouse.writer" 419 186
def cZ:Obj:=tu []
def ze4:Obj:=fl []
def b3:Obj:=tu [.str "_law_script" 439,.str "_law_k" 440,.str "_law_number" 441,.str "_law_own" 442]
def b4:Obj:=tu []
def ze6:Obj:=yN "_law_feed" "_law_feed" (tp 28)
def b5:Obj:=yM "_law_feed" "_law_feed" 436 126 2 181 188 189 .none (.ref 190) (.ref 191) 192 443
def b6:Obj:=yO "_law_feed" "_law_feed" (tp 28) "law_copiedhouse_k09_terms_texts" 434 193
def b7:Obj:=tu []
def ze7:Obj:=fl []
def b8:Obj:=tu [.str "_law_feed_here" 449,.str "_law_many" 450,.str "_law_digit" 451,.str "_law_number" 452,.str "_law_one_here" 453,.str "_law_two" 454]
def b9:Obj:=tu []
def ze8:Obj:=yN "_law_next" "_law_next" (tp 29)
def bC:Obj:=yM "_law_next" "_law_next" 446 134 2 181 195 196 .none (.ref 197) (.ref 198) 199 455
def bD:Obj:=yO "_law_next" "_law_next" (tp 29) "law_copiedhouse_k09_terms_texts" 434 200
def bG:Obj:=tu []
def ze9:Obj:=fl []
def bH:Obj:=tu [.str "_law_feed_here" 461,.str "_law_some" 462]
def bJ:Obj:=tu []
def ze_:Obj:=yN "_law_one" "_law_one" (tp 30)
def bL:Obj:=yM "_law_one" "_law_one" 458 144 2 181 202 203 .none (.ref 204) (.ref 205) 206 463
def bM:Obj:=yO "_law_one" "_law_one" (tp 30) "law_copiedhouse_k09_terms_texts" 434 207
def bN:Obj:=tu []
def zeA:Obj:=fl []
def zeB:Obj:=yN "_law_word" "_law_word" (tp 31)
def bP:Obj:=yM "_law_word" "_law_word" 466 146 1 181 209 210 .none .none .none 211 469
def bQ:Obj:=yO "_law_word" "_law_word" (tp 31) "law_copiedhouse_k09_terms_texts" 434 212
def bR:Obj:=tu []
def zeC:Obj:=fl []
def zeD:Obj:=yN "_law_is_plain" "_law_is_plain" (tp 32)
def bS:Obj:=yM "_law_is_plain" "_law_is_plain" 472 152 1 181 214 215 .none .none .none 216 475
def bU:Obj:=yO "_law_is_plain" "_law_is_plain" (tp 32) "law_copiedhouse_k09_terms_texts" 434 217
def bV:Obj:=tu []
def zeE:Obj:=fl []
def zeF:Obj:=yN "_law_is_number" "_law_is_number" (tp 33)
def bY:Obj:=yM "_law_is_number" "_law_is_number" 478 155 2 181 219 220 .none .none .none 221 481
def bZ:Obj:=yO "_law_is_number" "_law_is_number" (tp 33) "law_copiedhouse_k09_terms_texts" 434 222
def a3:Obj:=tu []
def zeG:Obj:=fl []
def a4:Obj:=tu [.str "_law_word_here" 487,.str "_law_told" 488]
def a5:Obj:=tu []
def zeH:Obj:=yN "_law_is_bare" "_law_is_bare" (tp 34)
def a6:Obj:=yM "_law_is_bare" "_law_is_bare" 484 159 2 181 224 225 .none (.ref 226) (.ref 227) 228 489
def a7:Obj:=yO "_law_is_bare" "_law_is_bare" (tp 34) "law_copiedhouse_k09_terms_texts" 434 229
def a8:Obj:=tu []
def zeJ:Obj:=fl []
def zeK:Obj:=yN "_law_is_inside" "_law_is_inside" (tp 35)
def a9:Obj:=yM "_law_is_inside" "_law_is_inside" 492 163 2 181 231 232 .none .none .none 233 495
def aA:Obj:=yO "_law_is_inside" "_law_is_inside" (tp 35) "law_copiedhouse_k09_terms_texts" 434 234
def aB:Obj:=tu []
def zeL:Obj:=fl []
def aC:Obj:=tu [.str "_law_row" 501,.str "_law_told" 502,.str "_law_deep" 503,.str "_law_one_here" 504,.str "_law_start" 505,.str "_law_end" 506]
def aD:Obj:=tu []
def zeN:Obj:=yN "_law_words_of" "_law_words_of" (tp 36)
def aE:Obj:=yM "_law_words_of" "_law_words_of" 498 172 2 181 236 237 .none (.ref 238) (.ref 239) 240 507
def aF:Obj:=yO "_law_words_of" "_law_words_of" (tp 36) "law_copiedhouse_k09_terms_texts" 434 241
def aG:Obj:=tu []
def zeO:Obj:=fl []
def aI:Obj:=tu [.str "_law_feed_here" 513,.str "_law_right" 514,.str "_law_wrong" 515]
def aJ:Obj:=tu []
def zeP:Obj:=yN "_law_slip" "_law_slip" (tp 37)
def aK:Obj:=yM "_law_slip" "_law_slip" 510 187 3 181 243 244 .none (.ref 245) (.ref 246) 247 516
def aL:Obj:=yO "_law_slip" "_law_slip" (tp 37) "law_copiedhouse_k09_terms_texts" 434 248
def aM:Obj:=tu []
def zeR:Obj:=fl []
def aN:Obj:=tu [.str "_law_feed_here" 522,.str "_law_word_here" 523]
def aO:Obj:=tu []
def zeS:Obj:=yN "_law_name" "_law_name" (tp 38)
def aP:Obj:=yM "_law_name" "_law_name" 519 189 1 181 250 251 .none (.ref 252) (.ref 253) 254 524
def aQ:Obj:=yO "_law_name" "_law_name" (tp 38) "law_copiedhouse_k09_terms_texts" 434 255
def aR:Obj:=tu []
def zeT:Obj:=fl []
def aS:Obj:=tu [.str "_law_feed_here" 530,.str "_law_most" 531,.str "_law_number" 532,.str "_law_wrong" 533]
def aT:Obj:=tu []
def zeV:Obj:=yN "_law_figures" "_law_figures" (tp 39)
def aU:Obj:=yM "_law_figures" "_law_figures" 527 192 2 181 257 258 .none (.ref 259) (.ref 260) 261 534
def aV:Obj:=yO "_law_figures" "_law_figures" (tp 39) "law_copiedhouse_k09_terms_texts" 434 262
def aW:Obj:=tu []
def zeW:Obj:=fl []
def zeX:Obj:=yN "_law_any_term" "_law_any_term" (tp 40)
def aX:Obj:=yM "_law_any_term" "_law_any_term" 537 197 4 181 264 265 .none .none .none 266 540
def aY:Obj:=yO "_law_any_term" "_law_any_term" (tp 40) "law_copiedhouse_k09_terms_texts" 434 267
def aZ:Obj:=tu []
def zeZ:Obj:=fl []
def zaa:Obj:=tu [.str "_law_feed_here" 546,.str "_law_found" 547,.str "_law_k" 548,.str "_law_one_here" 549,.str "_law_some" 550]
def zab:Obj:=tu []
def zfa:Obj:=yN "_law_chain" "_law_chain" (tp 41)
def zac:Obj:=yM "_law_chain" "_law_chain" 543 216 1 181 269 270 .none (.ref 271) (.ref 272) 273 551
def zad:Obj:=yO "_law_chain" "_law_chain" (tp 41) "law_copiedhouse_k09_terms_texts" 434 274
def zae:Obj:=tu []
def zfb:Obj:=fl []
def zaf:Obj:=tu [.str "_law_feed_here" 557,.str "_law_told" 558]
def zag:Obj:=tu []
def zfd:Obj:=yN "_law_term_of" "_law_term_of" (tp 42)
def zah:Obj:=yM "_law_term_of" "_law_term_of" 554 223 2 181 276 277 .none (.ref 278) (.ref 279) 280 559
def zai:Obj:=yO "_law_term_of" "_law_term_of" (tp 42) "law_copiedhouse_k09_terms_texts" 434 281
def zaj:Obj:=tu []
def zfe:Obj:=fl []
def zak:Obj:=tu [.str "_law_text" 565,.str "_law_told" 566,.str "_law_words" 567,.str "_law_due" 568,.str "_law_caught" 569,.str "_law_found" 570,.str "e" 571]
def zal:Obj:=tu []
def zff:Obj:=yN "_law_term_right" "_law_term_right" (tp 43)
def zam:Obj:=yM "_law_term_right" "_law_term_right" 562 227 2 181 283 284 .none (.ref 285) (.ref 286) 287 572
def zan:Obj:=yO "_law_term_right" "_law_term_right" (tp 43) "law_copiedhouse_k09_terms_texts" 434 288
def zap:Obj:=tu []
def zfg:Obj:=fl []
def zaq:Obj:=tu [.str "_law_script" 578,.str "_law_k" 579,.str "_law_feed_here" 580,.str "_law_told" 581,.str "_law_text" 582,.str "_law_other" 583,.str "_law_many" 584,.str "_law_deep" 585,.str "_law_one_here" 586]
def zar:Obj:=tu []
def zfh:Obj:=yN "law" "law" (tp 44)
def zas:Obj:=yM "law" "law" 575 239 1 181 290 291 .none (.ref 292) (.ref 293) 294 587
def zat:Obj:=yO "law" "law" (tp 44) "law_copiedhouse_k09_terms_texts" 434 295
def a12:Obj:=fl []
def Ta (P:Params):BT:=(.node (boot_o_0 P) (.node (boot_o_1 P) (.node (boot_o_3 P) (.node (boot_o_7 P) .nil .nil) (.node oB .nil .nil)) (.node (boot_o_5 P) (.node (boot_o_9 P) .nil .nil) (.node j8 .nil .nil))) (.node (boot_o_2 P) (.node (boot_o_4 P) (.node (boot_o_8 P) .nil .nil) (.node a12 .nil .nil)) (.node (boot_o_6 P) (.node (boot_o_10 P) .nil .nil) (.node j9 .nil .nil))))
def Tz (P:Params):BT:=(.node (boot_o_0 P) (.node (boot_o_1 P) (.node (f3 P) (.node (boot_o_7 P) (.node c0 (.node f31 (.node f63 (.node dG (lf aP) .nil) (lf b4)) (.node f95 (.node cA (lf zff) .nil) (lf bZ))) (.node f47 (.node f79 (.node dU (lf zaa) .nil) (lf bL)) (.node eT (lf cP) (lf aD)))) (.node f23 (.node f39 (.node f71 (.node zen (lf aV) .nil) (lf ze8)) (.node zed (.node cJ (lf zas) .nil) (lf a8))) (.node f55 (.node f87 (.node zer (lf zag) .nil) (lf zeC)) (.node dA (lf cV) (lf zeP))))) (.node oB (.node f19 (.node f35 (.node f67 (.node dL (lf aS) .nil) (lf b7)) (.node f99 (.node cG (lf zfg) .nil) (lf a5))) (.node f51 (.node f83 (.node zeq (lf zad) .nil) (lf zeB)) (.node eW (lf cR) (lf aG)))) (.node f27 (.node f43 (.node f75 (.node dP (lf aX) .nil) (lf ze9)) (.node zee (lf cN) (lf aA))) (.node f59 (.node f91 (.node c6 (lf zaj) .nil) (lf bV)) (.node dD (lf cY) (lf zeR)))))) (.node (boot_o_5 P) (.node (boot_o_9 P) (.node cL (.node f33 (.node f65 (.node dI (lf aR) .nil) (lf b5)) (.node f97 (.node zev (lf zan) .nil) (lf zeG))) (.node f49 (.node f81 (.node dW (lf zfa) .nil) (lf bN)) (.node eV (lf ze0) (lf aE)))) (.node f25 (.node f41 (.node f73 (.node dO (lf zeW) .nil) (lf bD)) (.node eP (lf cK) (lf zeK))) (.node f57 (.node f89 (.node c5 (lf zah) .nil) (lf bS)) (.node zej (lf ze3) (lf aL))))) (.node j8 (.node bO (.node (f37 P) (.node f69 (.node zem (lf zeV) .nil) (lf b8)) (.node eM (.node zew (lf zar) .nil) (lf a6))) (.node f53 (.node f85 (.node dZ (lf zfb) .nil) (lf bQ)) (.node zeh (lf cU) (lf aI)))) (.node f29 (.node f45 (.node f77 (.node dR (lf aZ) .nil) (lf bJ)) (.node eS (lf zez) (lf zeL))) (.node f61 (.node f93 (.node c8 (lf zak) .nil) (lf zeF)) (.node dE (lf ze4) (lf aO))))))) (.node (boot_o_2 P) (.node (boot_o_4 P) (.node (boot_o_8 P) (.node f16 (.node f32 (.node f64 (.node (dH P) (lf aQ) .nil) (lf ze6)) (.node f96 (.node cC (lf zam) .nil) (lf a3))) (.node f48 (.node f80 (.node zep (lf zab) .nil) (lf bM)) (.node eU (lf cQ) (lf zeN)))) (.node (f24 P) (.node f40 (.node f72 (.node dN (lf aW) .nil) (lf bC)) (.node eO (.node zex (lf zat) .nil) (lf zeJ))) (.node f56 (.node f88 (.node c4 (lf zfd) .nil) (lf zeD)) (.node dB (lf cW) (lf aK))))) (.node f12 (.node bB (.node f36 (.node f68 (.node zel (lf aT) .nil) (lf ze7)) (.node zec (.node cH (lf zaq) .nil) (lf zeH))) (.node f52 (.node f84 (.node dY (lf zae) .nil) (lf bP)) (.node eY (lf cT) (lf zeO)))) (.node f28 (.node f44 (.node f76 (.node dQ (lf aY) .nil) (lf bH)) (.node eR (lf zey) (lf aB))) (.node f60 (.node f92 (.node c7 (lf zfe) .nil) (lf zeE)) (.node zek (lf cZ) (lf aN)))))) (.node (boot_o_6 P) (.node (boot_o_10 P) (.node cS (.node f34 (.node (f66 P) (.node dJ (lf zeT) .nil) (lf b6)) (.node f98 (.node cF (lf zap) .nil) (lf a4))) (.node (f50 P) (.node f82 (.node dX (lf zac) .nil) (lf zeA)) (.node zeg (lf ze1) (lf aF)))) (.node f26 (.node f42 (.node f74 (.node zeo (lf zeX) .nil) (lf bG)) (.node eQ (lf cM) (lf a9))) (.node f58 (.node f90 (.node zes (lf zai) .nil) (lf bU)) (.node dC (lf cX) (lf aM))))) (.node j9 (.node bX (.node f38 (.node f70 (.node dM (lf aU) .nil) (lf b9)) (.node eN (.node cI (lf zfh) .nil) (lf a7))) (.node f54 (.node f86 (.node c3 (lf zaf) .nil) (lf bR)) (.node eZ (lf ze2) (lf aJ)))) (.node (f30 P) (.node f46 (.node f78 (.node dS (lf zeZ) .nil) (lf ze_)) (.node zef (lf cO) (lf aC))) (.node f62 (.node f94 (.node zet (lf zal) .nil) (lf bY)) (.node dF (lf b3) (lf zeS))))))))
def Ha (P:Params):Heap:=⟨⟨[boot_o_0 P,boot_o_1 P,boot_o_2 P,boot_o_3 P,boot_o_4 P,boot_o_5 P,boot_o_6 P,boot_o_7 P,boot_o_8 P,boot_o_9 P,boot_o_10 P,oB,a12,j8,j9]⟩,li⟩
def Hl (P:Params):List Obj:= [boot_o_0 P,boot_o_1 P,boot_o_2 P,f3 P,boot_o_4 P,boot_o_5 P,boot_o_6 P,boot_o_7 P,boot_o_8 P,boot_o_9 P,boot_o_10 P,oB,f12,j8,j9,c0,f16,cL,cS,f19,bB,bO,bX,f23,f24 P,f25,f26,f27,f28,f29,f30 P,f31,f32,f33,f34,f35,f36,f37 P,f38,f39,f40,f41,f42,f43,f44,f45,f46,f47,f48,f49,f50 P,f51,f52,f53,f54,f55,f56,f57,f58,f59,f60,f61,f62,f63,f64,f65,f66 P,f67,f68,f69,f70,f71,f72,f73,f74,f75,f76,f77,f78,f79,f80,f81,f82,f83,f84,f85,f86,f87,f88,f89,f90,f91,f92,f93,f94,f95,f96,f97,f98,f99,zec,eM,eN,zed,eO,eP,eQ,zee,eR,eS,zef,eT,eU,eV,zeg,eW,eY,zeh,eZ,dA,dB,zej,dC,dD,zek,dE,dF,dG,dH P,dI,dJ,dL,zel,zem,dM,zen,dN,dO,zeo,dP,dQ,dR,dS,dU,zep,dW,dX,zeq,dY,dZ,c3,zer,c4,c5,zes,c6,c7,c8,zet,cA,cC,zev,cF,cG,cH,zew,cI,cJ,zex,cK,cM,cN,zey,zez,cO,cP,cQ,ze0,ze1,cR,cT,cU,ze2,cV,cW,ze3,cX,cY,cZ,ze4,b3,b4,ze6,b5,b6,b7,ze7,b8,b9,ze8,bC,bD,bG,ze9,bH,bJ,ze_,bL,bM,bN,zeA,zeB,bP,bQ,bR,zeC,zeD,bS,bU,bV,zeE,zeF,bY,bZ,a3,zeG,a4,a5,zeH,a6,a7,a8,zeJ,zeK,a9,aA,aB,zeL,aC,aD,zeN,aE,aF,aG,zeO,aI,aJ,zeP,aK,aL,aM,zeR,aN,aO,zeS,aP,aQ,aR,zeT,aS,aT,zeV,aU,aV,aW,zeW,zeX,aX,aY,aZ,zeZ,zaa,zab,zfa,zac,zad,zae,zfb,zaf,zag,zfd,zah,zai,zaj,zfe,zak,zal,zff,zam,zan,zap,zfg,zaq,zar,zfh,zas,zat]
def Hf (P:Params):Heap:=⟨⟨Hl P⟩,li⟩
theorem pre (w:World)(os:OsState):topGo treeTable pg w 11 an 12 ⟨boot_heap w.params,gs,boot_drawn,boot_toks,os⟩ (topStub pg)=some (⟨Ha w.params,gs,boot_drawn,187,os⟩,⟨denote treeTable cE,cE,⟨0,0,0,0⟩,B⟩):=by
 rw[PySem.W.Fast.te15667345088766844465,PySem.W.Fast.te14364793385576792824,PySem.W.Fast.te11892475500146522536];kernel_rfl
theorem block (w:World)(os:OsState):segRun treeTable pg w 11 an 1 1 ⟨Ha w.params,gs,boot_drawn,187,os⟩ (blockOf (behindTheImports pg) ev cE ⟨0,0,0,0⟩ B)=some (.next,(SharedT.abs ⟨Ta w.params,15,li,gs,boot_drawn,187,os⟩),cE,⟨0,0,0,0⟩):=by
 rw[PySem.W.Fast.te14374325043358763698,PySem.W.Fast.te14364793385576792824];kernel_rfl
def zhP:List Stmt:= [tp 0,tp 1,tp 2,tp 3,tp 4,tp 5,tp 6,tp 7,tp 8,tp 9,tp 10,tp 11,tp 12,tp 13,tp 14,tp 15,tp 16,tp 17,tp 18,tp 19,tp 20,tp 21,tp 22,tp 23,tp 24,tp 25,tp 26,tp 27,tp 28,tp 29,tp 30,tp 31,tp 32,tp 33,tp 34,tp 35,tp 36,tp 37,tp 38,tp 39,tp 40,tp 41,tp 42,tp 43,tp 44]
theorem znd (w:World)(os:OsState):segRunT treeTable pg w 11 an 1 1853 ⟨Ta w.params,15,li,gs,boot_drawn,187,os⟩ (piecesOf zhP ev cE ⟨0,0,0,0⟩ B)=some (.next,⟨Tz w.params,297,li,gs,boot_drawn,590,os⟩,cE,⟨239,0,250,15⟩):=by
 rw[PySem.W.Fast.te10110043849684766642,PySem.W.Fast.te14364793385576792824];kernel_rfl
theorem fin (w:World)(os:OsState):topRun treeTable pg w 11 an 2 (SharedT.abs ⟨Tz w.params,297,li,gs,boot_drawn,590,os⟩) ⟨doneF .next,cE,⟨239,0,250,15⟩,B⟩=some ⟨Hf w.params,gs,boot_drawn,590,os⟩:=by
 rw[PySem.W.Fast.te14082659384304107361,PySem.W.Fast.te14364793385576792824];kernel_rfl
theorem run (w:World)(os:OsState):topRun treeTable pg w 11 an (12+(1+(1853+(2)))) ⟨boot_heap w.params,gs,boot_drawn,boot_toks,os⟩ (topStub pg)=some ⟨Hf w.params,gs,boot_drawn,590,os⟩:=
 go_top (pre w os) (piece_block (env:=ev) (b:=behindTheImports pg) (block w os) (piece_app (env:=ev) (l:=zhP) (segRun_of (znd w os)) (piece_nil (env:=ev) (fin w os))))
def K (P:Params):Frag:=(nat_lit 2,boot_o_2 P)::(nat_lit 3,f3 P)::(nat_lit 15,c0)::(nat_lit 17,cL)::(nat_lit 18,cS)::(nat_lit 20,bB)::(nat_lit 21,bO)::(nat_lit 22,bX)::(nat_lit 29,f29)::(nat_lit 30,f30 P)::(nat_lit 31,f31)::(nat_lit 32,f32)::(nat_lit 35,f35)::(nat_lit 42,f42)::(nat_lit 44,f44)::(nat_lit 45,f45)::(nat_lit 47,f47)::(nat_lit 48,f48)::(nat_lit 49,f49)::(nat_lit 50,f50 P)::(nat_lit 51,f51)::(nat_lit 54,f54)::(nat_lit 57,f57)::(nat_lit 58,f58)::(nat_lit 59,f59)::(nat_lit 62,f62)::(nat_lit 63,f63)::(nat_lit 71,f71)::(nat_lit 73,f73)::(nat_lit 74,f74)::(nat_lit 76,f76)::(nat_lit 77,f77)::(nat_lit 78,f78)::(nat_lit 80,f80)::(nat_lit 81,f81)::(nat_lit 83,f83)::(nat_lit 84,f84)::(nat_lit 85,f85)::(nat_lit 87,f87)::(nat_lit 88,f88)::(nat_lit 90,f90)::(nat_lit 91,f91)::(nat_lit 92,f92)::(nat_lit 94,f94)::(nat_lit 95,f95)::(nat_lit 97,f97)::(nat_lit 98,f98)::(nat_lit 99,f99)::(nat_lit 101,eM)::(nat_lit 102,eN)::(nat_lit 104,eO)::(nat_lit 105,eP)::(nat_lit 106,eQ)::(nat_lit 108,eR)::(nat_lit 109,eS)::(nat_lit 111,eT)::(nat_lit 112,eU)::(nat_lit 113,eV)::(nat_lit 115,eW)::(nat_lit 116,eY)::(nat_lit 118,eZ)::(nat_lit 119,dA)::(nat_lit 120,dB)::(nat_lit 122,dC)::(nat_lit 123,dD)::(nat_lit 125,dE)::(nat_lit 126,dF)::(nat_lit 127,dG)::(nat_lit 128,dH P)::(nat_lit 129,dI)::(nat_lit 130,dJ)::(nat_lit 131,dL)::(nat_lit 134,dM)::(nat_lit 136,dN)::(nat_lit 137,dO)::(nat_lit 139,dP)::(nat_lit 140,dQ)::(nat_lit 141,dR)::(nat_lit 142,dS)::(nat_lit 143,dU)::(nat_lit 145,dW)::(nat_lit 146,dX)::(nat_lit 148,dY)::(nat_lit 149,dZ)::(nat_lit 150,c3)::(nat_lit 152,c4)::(nat_lit 153,c5)::(nat_lit 155,c6)::(nat_lit 156,c7)::(nat_lit 157,c8)::(nat_lit 159,cA)::(nat_lit 160,cC)::(nat_lit 162,cF)::(nat_lit 163,cG)::(nat_lit 164,cH)::(nat_lit 166,cI)::(nat_lit 167,cJ)::(nat_lit 169,cK)::(nat_lit 170,cM)::(nat_lit 171,cN)::(nat_lit 174,cO)::(nat_lit 175,cP)::(nat_lit 176,cQ)::(nat_lit 179,cR)::(nat_lit 180,cT)::(nat_lit 181,cU)::(nat_lit 183,cV)::(nat_lit 184,cW)::(nat_lit 186,cX)::(nat_lit 187,cY)::(nat_lit 188,cZ)::(nat_lit 190,b3)::(nat_lit 191,b4)::(nat_lit 193,b5)::(nat_lit 194,b6)::(nat_lit 195,b7)::(nat_lit 197,b8)::(nat_lit 198,b9)::(nat_lit 200,bC)::(nat_lit 201,bD)::(nat_lit 202,bG)::(nat_lit 204,bH)::(nat_lit 205,bJ)::(nat_lit 207,bL)::(nat_lit 208,bM)::(nat_lit 209,bN)::(nat_lit 212,bP)::(nat_lit 213,bQ)::(nat_lit 214,bR)::(nat_lit 217,bS)::(nat_lit 218,bU)::(nat_lit 219,bV)::(nat_lit 222,bY)::(nat_lit 223,bZ)::(nat_lit 224,a3)::(nat_lit 226,a4)::(nat_lit 227,a5)::(nat_lit 229,a6)::(nat_lit 230,a7)::(nat_lit 231,a8)::(nat_lit 234,a9)::(nat_lit 235,aA)::(nat_lit 236,aB)::(nat_lit 238,aC)::(nat_lit 239,aD)::(nat_lit 241,aE)::(nat_lit 242,aF)::(nat_lit 243,aG)::(nat_lit 245,aI)::(nat_lit 246,aJ)::(nat_lit 248,aK)::(nat_lit 249,aL)::(nat_lit 250,aM)::(nat_lit 252,aN)::(nat_lit 253,aO)::(nat_lit 255,aP)::(nat_lit 256,aQ)::(nat_lit 257,aR)::(nat_lit 259,aS)::(nat_lit 260,aT)::(nat_lit 262,aU)::(nat_lit 263,aV)::(nat_lit 264,aW)::(nat_lit 267,aX)::(nat_lit 268,aY)::(nat_lit 269,aZ)::(nat_lit 271,zaa)::(nat_lit 272,zab)::(nat_lit 274,zac)::(nat_lit 275,zad)::(nat_lit 276,zae)::(nat_lit 278,zaf)::(nat_lit 279,zag)::(nat_lit 281,zah)::(nat_lit 282,zai)::(nat_lit 283,zaj)::(nat_lit 285,zak)::(nat_lit 286,zal)::(nat_lit 288,zam)::(nat_lit 289,zan)::(nat_lit 290,zap)::(nat_lit 292,zaq)::(nat_lit 293,zar)::(nat_lit 295,zas)::(nat_lit 296,zat):: []
abbrev hk:Hook:=kmHook K [2,3,15,17,18,20,21,22,29,30,31,32,35,42,44,45,47,48,49,50,51,54,57,58,59,62,63,71,73,74,76,77,78,80,81,83,84,85,87,88,90,91,92,94,95,97,98,99,101,102,104,105,106,108,109,111,112,113,115,116,118,119,120,122,123,125,126,127,128,129,130,131,134,136,137,139,140,141,142,143,145,146,148,149,150,152,153,155,156,157,159,160,162,163,164,166,167,169,170,171,174,175,176,179,180,181,183,184,186,187,188,190,191,193,194,195,197,198,200,201,202,204,205,207,208,209,212,213,214,217,218,219,222,223,224,226,227,229,230,231,234,235,236,238,239,241,242,243,245,246,248,249,250,252,253,255,256,257,259,260,262,263,264,267,268,269,271,272,274,275,276,278,279,281,282,283,285,286,288,289,290,292,293,295,296] (λ_=>by kernel_rfl) []
def q:Program:= {pg with main:= {pg.main with body:= [tp 0,tp 2,tp 3,tp 5,tp 6,tp 7,tp 8,tp 9,tp 10,tp 12,tp 13,tp 14,tp 16,tp 17,tp 18,tp 19,tp 20,tp 21,tp 22,tp 23,tp 25,tp 26,tp 28,tp 29,tp 30,tp 31,tp 32,tp 33,tp 34,tp 35,tp 36,tp 37,tp 38,tp 39,tp 40,tp 41,tp 42,tp 43,tp 44]}}
abbrev Xt (s:Shared):Bool:=xlAt q [] s&&recOk (RowW.records (OpenRow.toRowW (PySem.Challenge.rw_copiedhouse_k09_terms_texts).row)) s
theorem sz (w:World):((boot_heap w.params).isNs mainGlobals&&gs.size==0,(boot_heap w.params).objs.size,(boot_heap w.params).nsMap mainGlobals "__annotations__")=(true,11,an):=by
 rw[PySem.W.Fast.te8920871248978507458];kernel_rfl
theorem lk1 (w:World)(os:OsState):(staticsOk (importedModules pg.main.body) (boot_heap w.params) (Hf w.params)&&namesBound pg (Hf w.params)&&gensDone ⟨Hf w.params,gs,boot_drawn,590,os⟩&&laidKept (boot_heap w.params) (Hf w.params))=true:=by
 rw[PySem.W.Fast.te5923862056798008813];kernel_rfl
theorem lk2 (w:World)(os:OsState):openSeen q [] (importedModules pg.main.body) Xt true ⟨Hf w.params,gs,boot_drawn,590,os⟩=openGood q []:=by
 rw[PySem.W.Fast.te4187177175401517315,PySem.W.Fast.te5923862056798008813];kernel_rfl
theorem lk3 (w:World)(os:OsState):Hook.obs hk ⟨Hf w.params,gs,boot_drawn,590,os⟩=Hook.val hk w:=by kernel_rfl
theorem left:LeftO pg q [] Xt (Hook.obs hk) (Hook.val hk) 3830:=LeftO.of_pieces (H₀:=boot_heap) (H₁:=Hf) (M:=12+(1+(1853+(2)))) (boot_open rfl rfl λ_=>rfl) sz run (by decide) λw=>funext λos=>looks_pair (lk1 w os) (looks_pair (lk2 w os) (lk3 w os))
theorem ws:(PySem.Challenge.rw_copiedhouse_k09_terms_texts).wellSaid=true:=by kernel_rfl
end
end Hd
set_option maxHeartbeats 4000000
namespace L3
open PySem PySem.Spec PyProof.Rows L2
abbrev St:=L2.St
structure qE where
 f:Addr
 o:Obj
 q:Str
 c:Addr
 c':Addr
 oz:Obj
 dd:Addr
 kvs:List (List Int×Int)
inductive PV where
 | non | bl (b:Bool) | int (i:Int) | str (x:Str) | ty (n:String)
 | tup (xs:List PV) | lst (xs:List PV) | dct (kvs:List (zC×PV)) | itb (kvs:List (List Int×Int)) | clo (D:qE) | obj (n:Nat)
def zcB (kvs:List (List Int×Int)):List (List zC×V):=kvs.map λp=>(p.1.map Sum.inl,V.int p.2)
inductive PO where
 | lst (xs:List PV) | dct (kvs:List (zC×PV)) | tbl (T:Addr) (pos:Pos) (q:Str) | itb (kvs:List (List Int×Int)) | rcd (kvs:List (zC×PV)) | fd (o:Obj) (kvs:List (zC×PV)) | ros (xs:List PV) | ins (C dx:Addr) (fs:List (Str×PV))
abbrev z7:=List PO
abbrev zE:=List (Option PV)
abbrev K3:=PV->z7->Prop
def gO (K:Frag)(a:Addr)(vs:List V):Prop:= ∃(o:Obj) (its:Array Value) (n:Nat),K.lookup a=some o/\o.cls= .type "tuple" /\o.dict=none/\o.data= .seq its n/\its.size<=sizeLine/\zI vs its.toList
def ziR (K:Frag)(a:Addr)(vs:List V):Prop:= ∃(o:Obj) (its:Array Value) (n:Nat),K.lookup a=some o/\o.cls= .type "list" /\o.dict=none/\o.data= .seq its n/\its.size<=sizeLine/\zI vs its.toList/\o.slots= #[]
def u3 (K:Frag)(A:List Addr)(H:Hp)(a:Addr)(vs:List V):Prop:=(Rd H a (.tup vs)/\a∉A)∨gO K a vs
def tE (K:Frag)(A:List Addr)(H:Hp)(a:Addr)(vs:List V):Prop:=(Rd H a (.lst vs)/\a∉A)∨ziR K a vs
def zi_ (A:List Addr)(H:Hp)(a:Addr)(us:List (zC×V)):Prop:=H a=some (.dK us)/\a∉A
structure zi8 (A:List Addr)(H:Hp)(D:qE):Prop where
 fn:H D.f=some (.ext (zde D.f D.o))/\D.f∉A
 cd:H D.c'=some (.ext (zcU D.c' D.q))/\D.c'∉A
 cl:H D.c=some (.ext (zde D.c D.oz))/\D.c∉A
 dt:H D.dd=some (.dT (zcB D.kvs))/\D.dd∉A
mutual
inductive RV (K:Frag)(A:List Addr)(H:Hp):PV->V->Prop
 | non:RV K A H .non .non
 | bl (b:Bool):RV K A H (.bl b) (.bl b)
 | int (i:Int):RV K A H (.int i) (.int i)
 | str (x:Str):RV K A H (.str x) (.str x)
 | ty (n:String):RV K A H (.ty n) (.ty n)
 | tup {xs:List PV} {a:Addr} {vs:List V} :u3 K A H a vs->vs.length<=sizeLine->RVs K A H xs vs->RV K A H (.tup xs) (.ref a)
 | lst {xs:List PV} {a:Addr} {vs:List V} :tE K A H a vs->vs.length<=sizeLine->RVs K A H xs vs->RV K A H (.lst xs) (.ref a)
 | dct {kvs:List (zC×PV)} {a:Addr} {us:List (zC×V)} :zi_ A H a us->us.length<=sizeLine->RKs K A H kvs us->RV K A H (.dct kvs) (.ref a)
 | itb {kvs:List (List Int×Int)} {a:Addr} :H a=some (.dT (zcB kvs))->a∉A->RV K A H (.itb kvs) (.ref a)
 | clo {D:qE} :zi8 A H D->RV K A H (.clo D) (.ref D.f)
inductive RVs (K:Frag)(A:List Addr)(H:Hp):List PV->List V->Prop
 | nil:RVs K A H [] []
 | cons {x:PV} {v:V} {xs:List PV} {vs:List V} :RV K A H x v->RVs K A H xs vs->RVs K A H (x::xs) (v::vs)
inductive RKs (K:Frag)(A:List Addr)(H:Hp):List (zC×PV)->List (zC×V)->Prop
 | nil:RKs K A H [] []
 | cons {k:zC} {x:PV} {v:V} {xs:List (zC×PV)} {vs:List (zC×V)} :RV K A H x v->RKs K A H xs vs->RKs K A H ((k,x)::xs) ((k,v)::vs)
end
structure zV (A:List Addr)(H:Hp)(A':List Addr)(H':Hp):Prop where
 ext: ∃B,A'=A++B/\∀b∈B,H b=none
 keep: ∀b o,H b=some o->b∉A->H' b=some o
 live: ∀b,H b≠none->H' b≠none
theorem zV.refl (A:List Addr)(H:Hp):zV A H A H:=⟨⟨[],by simp,by simp⟩,λ_ _ h _=>h,λ_ h=>h⟩
theorem zV.out {A A':List Addr}{H H':Hp}(g:zV A H A' H'){b:Addr}{o:HO}(h:H b=some o)(n:b∉A):b∉A':=by
 obtain⟨B,rfl,hB⟩:=g.ext;intro m;rcases List.mem_append.mp m with m | m
 ·exact n m
 ·rw[hB b m]at h;cases h
theorem zV.trans {A A1 A2:List Addr}{H H1 H2:Hp}(g:zV A H A1 H1)(g':zV A1 H1 A2 H2):zV A H A2 H2:=by
 refine⟨?_,λb o h n=>g'.keep b o (g.keep b o h n) (g.out h n),λb h=>g'.live b (g.live b h)⟩;obtain⟨B,rfl,hB⟩:=g.ext;obtain⟨C,rfl,hC⟩:=g'.ext;refine⟨B++C,by simp,λb m=> ?_⟩;rcases List.mem_append.mp m with m | m
 ·exact hB b m
 ·by_cases h:H b=none
  ·exact h
  ·exact absurd (hC b m) (g.live b h)
theorem zV.sub {A A':List Addr}{H H':Hp}(g:zV A H A' H'){i:Nat}{a:Addr}(h:A[i]?=some a):A'[i]?=some a:=by
 obtain⟨B,rfl,_⟩:=g.ext;rw[List.getElem?_append_left (List.getElem?_eq_some_iff.mp h).1];exact h
theorem zV.new {A:List Addr}{H:Hp}{p:Addr}{o:HO}(h:H p=none):zV A H A (upd H p o):=by
 refine⟨⟨[],by simp,by simp⟩,λb u e _=>by rw[zU (xZ e h)];exact e,λb hb=> ?_⟩;by_cases e:b=p
 ·subst e;rw[xC];exact Option.some_ne_none _
 ·rw[zU e];exact hb
theorem zV.newObj {A:List Addr}{H:Hp}{p:Addr}{o:HO}(h:H p=none):zV A H (A++ [p]) (upd H p o):=by
 refine⟨⟨[p],rfl,λb m=>by rw[List.mem_singleton.mp m];exact h⟩,(zV.new (A:=A) h).keep,(zV.new (A:=A) h).live⟩
theorem zV.put {A:List Addr}{H:Hp}{p:Addr}{o:HO}(h:p∈A):zV A H A (upd H p o):=by
 refine⟨⟨[],by simp,by simp⟩,λb u e n=>by rw[zU (λz=>n (by rw[z];exact h))];exact e,λb hb=> ?_⟩;by_cases e:b=p
 ·subst e;rw[xC];exact Option.some_ne_none _
 ·rw[zU e];exact hb
section
variable {K:Frag} {A A':List Addr} {H H':Hp}
theorem u3.sq {a:Addr}{vs:List V}(h:u3 K A H a vs):xQ K H a vs:=h.imp And.left id
theorem tE.sq {a:Addr}{vs:List V}(h:tE K A H a vs):yS K H a vs:=h.imp And.left id
theorem Rd.grow {a:Addr}{u:HO}(g:zV A H A' H')(h:Rd H a u/\a∉A):Rd H' a u/\a∉A':=by
 obtain⟨h | ⟨o,h⟩,n⟩:=h
 ·exact⟨.inl (g.keep _ _ h n),g.out h n⟩
 ·exact⟨.inr ⟨o,g.keep _ _ h n⟩,g.out h n⟩
theorem u3.grow {a:Addr}{vs:List V}(g:zV A H A' H')(h:u3 K A H a vs):u3 K A' H' a vs:=h.imp (Rd.grow g) id
theorem tE.grow {a:Addr}{vs:List V}(g:zV A H A' H')(h:tE K A H a vs):tE K A' H' a vs:=h.imp (Rd.grow g) id
mutual
theorem RV.grow (g:zV A H A' H'){x:PV}{v:V} :RV K A H x v->RV K A' H' x v
 | .non=> .non
 | .bl b=> .bl b
 | .int i=> .int i
 | .str x=> .str x
 | .ty n=> .ty n
 | .tup t z r=> .tup (t.grow g) z (RVs.grow g r)
 | .lst t z r=> .lst (t.grow g) z (RVs.grow g r)
 | .dct t z r=> .dct ⟨g.keep _ _ t.1 t.2,g.out t.1 t.2⟩ z (RKs.grow g r)
 | .itb e n=> .itb (g.keep _ _ e n) (g.out e n)
 | .clo h=> .clo ⟨⟨g.keep _ _ h.fn.1 h.fn.2,g.out h.fn.1 h.fn.2⟩,⟨g.keep _ _ h.cd.1 h.cd.2,g.out h.cd.1 h.cd.2⟩,⟨g.keep _ _ h.cl.1 h.cl.2,g.out h.cl.1 h.cl.2⟩,⟨g.keep _ _ h.dt.1 h.dt.2,g.out h.dt.1 h.dt.2⟩⟩
theorem RVs.grow (g:zV A H A' H'){xs:List PV}{vs:List V} :RVs K A H xs vs->RVs K A' H' xs vs
 | .nil=> .nil
 | .cons r t=> .cons (RV.grow g r) (RVs.grow g t)
theorem RKs.grow (g:zV A H A' H'){xs:List (zC×PV)}{vs:List (zC×V)} :RKs K A H xs vs->RKs K A' H' xs vs
 | .nil=> .nil
 | .cons r t=> .cons (RV.grow g r) (RKs.grow g t)
end
theorem RVs.len {xs:List PV}{vs:List V} :RVs K A H xs vs->xs.length=vs.length
 | .nil=>rfl
 | .cons _ t=>by rw[List.length_cons,List.length_cons,RVs.len t]
theorem RKs.len {xs:List (zC×PV)}{vs:List (zC×V)} :RKs K A H xs vs->xs.length=vs.length
 | .nil=>rfl
 | .cons _ t=>by rw[List.length_cons,List.length_cons,RKs.len t]
theorem RVs.append {xs ys:List PV}{vs ws:List V} :RVs K A H xs vs->RVs K A H ys ws->RVs K A H (xs++ys) (vs++ws)
 | .nil,h=>h
 | .cons r t,h=> .cons r (RVs.append t h)
theorem RVs.get {xs:List PV}{vs:List V}{i:Nat}{x:PV}(h:RVs K A H xs vs)(e:xs[i]?=some x): ∃v,vs[i]?=some v/\RV K A H x v:=by
 induction i generalizing xs vs with
 | zero=>cases h with
  | nil=>cases e
  | cons r t=>simp at e;subst e;exact⟨_,rfl,r⟩
 | succ i ih=>cases h with
  | nil=>cases e
  | cons r t=>simpa using ih t (by simpa using e)
theorem RVs.get' {xs:List PV}{vs:List V}{i:Nat}{v:V}(h:RVs K A H xs vs)(e:vs[i]?=some v): ∃x,xs[i]?=some x/\RV K A H x v:=by
 induction i generalizing xs vs with
 | zero=>cases h with
  | nil=>cases e
  | cons r t=>simp at e;subst e;exact⟨_,rfl,r⟩
 | succ i ih=>cases h with
  | nil=>cases e
  | cons r t=>simpa using ih t (by simpa using e)
theorem RVs.drop {xs:List PV}{vs:List V}(h:RVs K A H xs vs)(n:Nat):RVs K A H (xs.drop n) (vs.drop n):=by
 induction n generalizing xs vs with
 | zero=>exact h
 | succ n ih=>cases h with
  | nil=>exact .nil
  | cons r t=>exact ih t
theorem RVs.take {xs:List PV}{vs:List V}(h:RVs K A H xs vs)(n:Nat):RVs K A H (xs.take n) (vs.take n):=by
 induction n generalizing xs vs with
 | zero=>exact .nil
 | succ n ih=>cases h with
  | nil=>exact .nil
  | cons r t=>exact .cons r (ih t)
inductive RE (K:Frag)(A:List Addr)(H:Hp):PV->V->Prop
 | val {x:PV} {v:V} :RV K A H x v->RE K A H x v
 | obj {i:Nat} {a:Addr} :A[i]?=some a->RE K A H (.obj i) (.ref a)
theorem RE.grow (g:zV A H A' H'){x:PV}{v:V} :RE K A H x v->RE K A' H' x v
 | .val r=> .val (r.grow g)
 | .obj e=> .obj (g.sub e)
abbrev yK (K:Frag)(A:List Addr)(H:Hp):List PV->List V->Prop:=Paired (RE K A H)
theorem yK.grow (g:zV A H A' H'){xs:List PV}{vs:List V} :yK K A H xs vs->yK K A' H' xs vs
 | .nil=> .nil
 | .cons r t=> .cons (r.grow g) (yK.grow g t)
inductive RR (K:Frag)(A:List Addr)(H:Hp)(a:Addr):PV->V->Prop
 | val {x:PV} {v:V} :RV K A H x v->RR K A H a x v
 | obj {i j:Nat} {p:Addr} :A[i]?=some a->j < i->A[j]?=some p->RR K A H a (.obj j) (.ref p)
abbrev uT (K:Frag)(A:List Addr)(H:Hp)(a:Addr):List (zC×PV)->List (zC×V)->Prop:=Paired λp q=>p.1=q.1/\RR K A H a p.2 q.2
theorem RR.grow (g:zV A H A' H'){a:Addr}{x:PV}{v:V} :RR K A H a x v->RR K A' H' a x v
 | .val r=> .val (r.grow g)
 | .obj e l e'=> .obj (g.sub e) l (g.sub e')
theorem uT.grow (g:zV A H A' H'){a:Addr}{xs:List (zC×PV)}{vs:List (zC×V)} :uT K A H a xs vs->uT K A' H' a xs vs
 | .nil=> .nil
 | .cons r t=> .cons ⟨r.1,r.2.grow g⟩ (uT.grow g t)
abbrev uS (K:Frag)(A:List Addr)(H:Hp)(a:Addr):List PV->List V->Prop:=Paired (RR K A H a)
theorem uS.grow (g:zV A H A' H'){a:Addr}{xs:List PV}{vs:List V} :uS K A H a xs vs->uS K A' H' a xs vs
 | .nil=> .nil
 | .cons r t=> .cons (r.grow g) (uS.grow g t)
abbrev xP (K:Frag)(A:List Addr)(H:Hp):List (Str×PV)->List (Str×V)->Prop:=Paired λp q=>p.1=q.1/\RV K A H p.2 q.2
theorem xP.grow (g:zV A H A' H'){xs:List (Str×PV)}{vs:List (Str×V)} :xP K A H xs vs->xP K A' H' xs vs
 | .nil=> .nil
 | .cons r t=> .cons ⟨r.1,r.2.grow g⟩ (xP.grow g t)
def OA (K:Frag)(A:List Addr)(H:Hp)(a:Addr):PO->Prop
 | .lst xs=> ∃vs,H a=some (.lst vs)/\RVs K A H xs vs/\vs.length<=sizeLine
 | .dct kvs=> ∃us,H a=some (.dK us)/\RKs K A H kvs us/\us.length<=sizeLine
 | .tbl T pos q=>a=T/\∃ps,H a=some (.tbl ps)/\(ps= #[]∨∃c',ps= #[rawInt pos.line,rawInt pos.col,.ref c']/\H c'=some (.ext (zcU c' q))/\c'∉A)
 | .itb kvs=>H a=some (.dT (zcB kvs))
 | .rcd kvs=> ∃us,H a=some (.dK us)/\uT K A H a kvs us/\us.length<=sizeLine
 | .fd ob kvs=> ∃us,H a=some (.frz ob (.dK us))/\RKs K A H kvs us/\us.length<=sizeLine
 | .ros xs=> ∃vs,H a=some (.lst vs)/\uS K A H a xs vs/\vs.length<=sizeLine
 | .ins C dx fs=> ∃us,H a=some (.ins C dx us)/\xP K A H fs us
structure RS (K:Frag)(A:List Addr)(H:Hp)(st:z7):Prop where
 nd:A.Nodup
 len:A.length=st.length
 at_: ∀(i:Nat) (a:Addr) (o:PO),A[i]?=some a->st[i]?=some o->OA K A H a o
structure yV (K:Frag)(A:List Addr)(H:Hp)(σ:St)(env:zE)(st:z7):Prop where
 rs:RS K A H st
 len:env.length=σ.length
 at_: ∀(i:Nat) (x:PV),env[i]?=some (some x)->∃v,σ[i]?=some (some v)/\RE K A H x v
theorem yV.grow {σ:St}{env:zE}{st st':z7}(r:yV K A H σ env st)(g:zV A H A' H')(s:RS K A' H' st'):yV K A' H' σ env st':=
 ⟨s,r.len,λi x e=>let⟨v,e1,r1⟩:=r.at_ i x e;⟨v,e1,r1.grow g⟩⟩
theorem OA.move {a:Addr}{o:PO}(h:OA K A H a o)(g:zV A H A' H')(e:H' a=H a):OA K A' H' a o:=by
 cases o with
 | lst xs=>obtain⟨vs,h,r,z⟩:=h;exact⟨vs,by rw[e];exact h,r.grow g,z⟩
 | dct xs=>obtain⟨vs,h,r,z⟩:=h;exact⟨vs,by rw[e];exact h,r.grow g,z⟩
 | tbl T pos q=>
  obtain⟨ea,ps,h,r⟩:=h;refine⟨ea,ps,by rw[e];exact h,r.imp id ?_⟩;rintro⟨c',e1,e2,e3⟩;exact⟨c',e1,g.keep _ _ e2 e3,g.out e2 e3⟩
 | itb kvs=>exact e.trans h
 | rcd xs=>obtain⟨vs,h,r,z⟩:=h;exact⟨vs,by rw[e];exact h,uT.grow g r,z⟩
 | fd ob xs=>obtain⟨vs,h,r,z⟩:=h;exact⟨vs,by rw[e];exact h,r.grow g,z⟩
 | ros xs=>obtain⟨vs,h,r,z⟩:=h;exact⟨vs,by rw[e];exact h,uS.grow g r,z⟩
 | ins C dx fs=>obtain⟨vs,h,r⟩:=h;exact⟨vs,by rw[e];exact h,xP.grow g r⟩
theorem OA.some {a:Addr}{o:PO}(h:OA K A H a o):H a≠none:=by
 cases o with
 | lst xs=>obtain⟨vs,h,r⟩:=h;rw[h];exact Option.some_ne_none _
 | dct xs=>obtain⟨vs,h,r⟩:=h;rw[h];exact Option.some_ne_none _
 | tbl T pos q=>obtain⟨_,ps,h,r⟩:=h;rw[h];exact Option.some_ne_none _
 | itb kvs=>rw[show H a=_ from h];exact Option.some_ne_none _
 | rcd xs=>obtain⟨vs,h,r⟩:=h;rw[h];exact Option.some_ne_none _
 | fd ob xs=>obtain⟨vs,h,r⟩:=h;rw[h];exact Option.some_ne_none _
 | ros xs=>obtain⟨vs,h,r⟩:=h;rw[h];exact Option.some_ne_none _
 | ins C dx fs=>obtain⟨vs,h,r⟩:=h;rw[h];exact Option.some_ne_none _
theorem RS.has {st:z7}(r:RS K A H st){a:Addr}(h:a∈A): ∃(i:Nat) (o:PO),A[i]?=some a/\st[i]?=some o/\OA K A H a o:=by
 obtain⟨i,hi,e⟩:=List.getElem_of_mem h;have hs:i < st.length:=by rw[<- r.len];exact hi
 have e1:A[i]?=some a:=by rw[List.getElem?_eq_getElem hi,e]
 have e2:st[i]?=some st[i]:=List.getElem?_eq_getElem hs;exact⟨i,st[i],e1,e2,r.at_ i a _ e1 e2⟩
theorem RS.live {st:z7}(r:RS K A H st){a:Addr}(h:a∈A):H a≠none:=let⟨_,_,_,_,o⟩:=r.has h;o.some
theorem RS.move {st:z7}(r:RS K A H st)(g:zV A H A H')(e: ∀a∈A,H' a=H a):RS K A H' st:=
 ⟨r.nd,r.len,λi a o h1 h2=>(r.at_ i a o h1 h2).move g (e a (List.mem_of_getElem? h1))⟩
theorem RS.fresh {st:z7}(r:RS K A H st){p:Addr}(h:H p=none):p∉A:=λm=>r.live m h
theorem RS.new {st:z7}(r:RS K A H st){p:Addr}{o:HO}(h:H p=none):RS K A (upd H p o) st:=
 r.move (.new h) λa m=>zU λz=>r.fresh h (z▸m)
theorem RS.newObj {st:z7}(r:RS K A H st){p:Addr}{o:HO}{q:PO}(h:H p=none)(hq:OA K (A++ [p]) (upd H p o) p q):RS K (A++ [p]) (upd H p o) (st++ [q]):=by
 refine⟨?_,by rw[List.length_append,List.length_append,r.len];rfl,λi a u h1 h2=> ?_⟩
 ·refine List.nodup_append.mpr ⟨r.nd,by simp,λa ha b hb=> ?_⟩
  rw[List.mem_singleton.mp hb];exact λz=>r.fresh h (z▸ha)
 ·by_cases hi:i < A.length
  ·rw[List.getElem?_append_left hi]at h1
   rw[List.getElem?_append_left (by rw[<- r.len];exact hi)]at h2;exact(r.at_ i a u h1 h2).move (.newObj h) (zU λz=>r.fresh h (z▸List.mem_of_getElem? h1))
  ·have hi':i=A.length:=by
    have:=(List.getElem?_eq_some_iff.mp h1).1;rw[List.length_append,List.length_singleton]at this;omega
   subst hi';rw[List.getElem?_append_right (Nat.le_refl _),Nat.sub_self]at h1;rw[r.len,List.getElem?_append_right (Nat.le_refl _),Nat.sub_self]at h2;cases h1;cases h2;exact hq
theorem RS.put {st:z7}(r:RS K A H st){i:Nat}{p:Addr}{o:HO}{q:PO}(h:A[i]?=some p)(hq:OA K A (upd H p o) p q):RS K A (upd H p o) (st.set i q):=by
 have hp:=List.mem_of_getElem? h;refine⟨r.nd,by rw[List.length_set];exact r.len,λj a u h1 h2=> ?_⟩;by_cases hij:i=j
 ·subst hij
  rw[h]at h1;cases h1;rw[List.getElem?_set_self (by rw[<- r.len];exact(List.getElem?_eq_some_iff.mp h).1)]at h2;cases h2;exact hq
 ·rw[List.getElem?_set_ne hij]at h2
  refine(r.at_ j a u h1 h2).move (.put hp) (zU λz=>hij ?_);subst z;exact(List.getElem?_inj (List.getElem?_eq_some_iff.mp h).1 r.nd).mp (h.trans h1.symm)
end
abbrev zA:=zE->z7->K3->Prop
abbrev yR:=zE->z7->(Bool->z7->Prop)->Prop
abbrev y2:=zE->z7->(List PV->z7->Prop)->Prop
structure yU where
 nx:zE->z7->Prop
 rt:K3
 bk:zE->z7->Prop:=λ_ _=>False
 ct:zE->z7->Prop:=λ_ _=>False
abbrev yC:=yU->zE->z7->Prop
abbrev xN:=PV->zE->z7->(zE->z7->Prop)->Prop
abbrev tF:=List PV->zE->z7->(zE->z7->Prop)->Prop
abbrev xM:=Option (Nat×PO)
abbrev vQ:=zE->z7->(xM->List PV->z7->Prop)->Prop
abbrev R3:=PV->PV->z7->K3->Prop
abbrev zQ:=List PV->z7->K3->Prop
def w6 (K:Frag)(A:List Addr)(H:Hp)(Q3:K3)(Q:VK):Prop:= ∀A' H' st' r v,zV A H A' H'->RS K A' H' st'->RE K A' H' r v->Q3 r st'->Q v H'
def kB (K:Frag)(A:List Addr)(H:Hp)(Q3:Bool->z7->Prop)(Q:Bool->Hp->Prop):Prop:= ∀A' H' st' b,zV A H A' H'->RS K A' H' st'->Q3 b st'->Q b H'
def ziB (K:Frag)(A:List Addr)(H:Hp)(Q3:List PV->z7->Prop)(Q:List V->Hp->Prop):Prop:= ∀A' H' st' rs vs,zV A H A' H'->RS K A' H' st'->yK K A' H' rs vs->Q3 rs st'->Q vs H'
def qG (K:Frag)(A:List Addr)(H:Hp)(P3:zE->z7->Prop)(P:St->Hp->Prop):Prop:= ∀A' H' σ' env' st',zV A H A' H'->yV K A' H' σ' env' st'->P3 env' st'->P σ' H'
structure k9 (K:Frag)(A:List Addr)(H:Hp)(D3:yU)(D:vP):Prop where
 nx:qG K A H D3.nx D.nx
 rt:w6 K A H D3.rt D.rt
 bk:qG K A H D3.bk D.bk
 ct:qG K A H D3.ct D.ct
section
variable {K:Frag} {A A1:List Addr} {H H1:Hp}
theorem w6.after {Q3:K3}{Q:VK}(f:w6 K A H Q3 Q)(g:zV A H A1 H1):w6 K A1 H1 Q3 Q:=λA' H' st' r v g'=>f A' H' st' r v (g.trans g')
theorem kB.after {Q3:Bool->z7->Prop}{Q:Bool->Hp->Prop}(f:kB K A H Q3 Q)(g:zV A H A1 H1):kB K A1 H1 Q3 Q:=λA' H' st' r g'=>f A' H' st' r (g.trans g')
theorem qG.after {Q3:zE->z7->Prop}{Q:St->Hp->Prop}(f:qG K A H Q3 Q)(g:zV A H A1 H1):qG K A1 H1 Q3 Q:=λA' H' σ' e' st' g'=>f A' H' σ' e' st' (g.trans g')
theorem k9.after {D3:yU}{D:vP}(f:k9 K A H D3 D)(g:zV A H A1 H1):k9 K A1 H1 D3 D:=⟨f.nx.after g,f.rt.after g,f.bk.after g,f.ct.after g⟩
theorem w6.now {Q3:K3}{Q:VK}(f:w6 K A H Q3 Q){st:z7}{r:PV}{v:V}(s:RS K A H st)(e:RE K A H r v)(q:Q3 r st):Q v H:=f A H st r v (.refl _ _) s e q
end
def zG (K:Frag)(T:zA):TE:=λσ H Q=> ∃A env st Q3,yV K A H σ env st/\T env st Q3/\w6 K A H Q3 Q
def yW (K:Frag)(T:yR):TT:=λσ H Q=> ∃A env st Q3,yV K A H σ env st/\T env st Q3/\kB K A H Q3 Q
def vI (K:Frag)(T:y2):TA:=λσ H Q=> ∃A env st Q3,yV K A H σ env st/\T env st Q3/\ziB K A H Q3 Q
def yP (K:Frag)(T:yC):TS:=λD σ H=> ∃A env st D3,yV K A H σ env st/\T D3 env st/\k9 K A H D3 D
def uU (K:Frag)(G:xN):TG:=λv σ H Q=> ∃A env st x Q3,yV K A H σ env st/\RE K A H x v/\G x env st Q3/\qG K A H Q3 Q
def xA (K:Frag)(R:R3):R2:=λv w H Q=> ∃A st x y Q3,RS K A H st/\RE K A H x v/\RE K A H y w/\R x y st Q3/\w6 K A H Q3 Q
def vR (K:Frag)(R:zQ):List V->Hp->VK->Prop:=λvs H Q=> ∃A st xs Q3,RS K A H st/\yK K A H xs vs/\R xs st Q3/\w6 K A H Q3 Q
def yD (K:Frag)(S:zQ):Sp:=λvs H Q _=>vR K S vs H Q
section
variable {X:Cx} {a b c e:Expr} {es:List Expr} {pos p p2:Pos} {Ta Tb Tc:zA} {TA:y2} {tc td:yR}
theorem xH {t t':TE}(h:PE X e t)(w: ∀σ H Q,t' σ H Q->t σ H Q):PE X e t':=⟨λpins s σ H Q I q=>h pins s σ H Q I (w σ H Q q)⟩
theorem zbK {t t':TT}(h:PT X e t)(w: ∀σ H Q,t' σ H Q->t σ H Q):PT X e t':=⟨λpins s σ H Q I q=>h pins s σ H Q I (w σ H Q q)⟩
theorem zhh {t t':TT}(h:PW X e t)(w: ∀σ H Q,t' σ H Q->t σ H Q):PW X e t':=⟨λwh pins s σ H Q I q=>h wh pins s σ H Q I (w σ H Q q)⟩
theorem zgJ {t t':L2.TA}(h:PA X es t)(w: ∀σ H Q,t' σ H Q->t σ H Q):PA X es t':=⟨λpos pins s σ H Q I q=>h pos pins s σ H Q I (w σ H Q q)⟩
theorem zn2 {t t':TT}(h:PF X es t)(w: ∀σ H Q,t' σ H Q->t σ H Q):PF X es t':=⟨λpins s σ H Q I q=>h pins s σ H Q I (w σ H Q q)⟩
theorem uZ {st:Stmt}{t t':TS}(h:PS X st t)(w: ∀D σ H,t' D σ H->t D σ H):PS X st t':=⟨λpins s σ H D I q=>h pins s σ H D I (w D σ H q)⟩
theorem pss_weak {st:List Stmt}{t t':TS}(h:yI X st t)(w: ∀D σ H,t' D σ H->t D σ H):yI X st t':=⟨λpins s σ H D I q=>h pins s σ H D I (w D σ H q)⟩
theorem zgX {tg:Expr}{t t':TG}(h:PG X tg t)(w: ∀v σ H Q,t' v σ H Q->t v σ H Q):PG X tg t':=⟨λpins s σ H v u Q I r q=>h pins s σ H v u Q I r (w v σ H Q q)⟩
def uO (i:Nat):zA:=λenv st Q=>match env[i]? with | some (some x)=>Q x st | _=>False
theorem zjG {K:Frag}{i:Nat}{σ:St}{H:Hp}{Q:VK} :zG K (uO i) σ H Q->zcA i σ H Q:=by
 rintro⟨A,env,st,Q3,rel,h,k⟩;unfold uO at h
 split at h
 ·rename_i x e
  obtain⟨v,e1,r⟩:=rel.at_ i x e;exact⟨v,e1,k.now rel.rs r h⟩
 ·exact h.elim
theorem qv (i:Nat){x:Str}{pos:Pos}(hN:X.N[i]?=some x:=by rfl)(hv:qO X.env.scope x:=by first | exact Or.inl rfl | exact Or.inr (Or.inl rfl) | exact Or.inr (Or.inr rfl))(hd:(x==("__debug__" :Str))=false:=by decide)
  (hcd:(x==("__classdict__" :Str))=false:=by decide):PE X (.Name x pos) (zG X.K (uO i)):=xH (pK hN hv hd hcd) λ_ _ _=>zjG
def vC (x:PV):zA:=λ_ st Q=>Q x st
theorem o7 {K:Frag}{x:PV}{v:V}(hr: ∀A H,RE K A H x v){σ:St}{H:Hp}{Q:VK} :zG K (vC x) σ H Q->tC v σ H Q:=by
 rintro⟨A,env,st,Q3,rel,h,k⟩;exact k.now rel.rs (hr A H) h
theorem zD {i j pos} :PE X (.Constant (.int i) j pos) (zG X.K (vC (.int i))):=xH zgS λ_ _ _=>o7 λ_ _=> .val (.int i)
theorem zB {x j pos} :PE X (.Constant (.str x) j pos) (zG X.K (vC (.str x))):=xH zbG λ_ _ _=>o7 λ_ _=> .val (.str x)
theorem sN {b j pos} :PE X (.Constant (.bool b) j pos) (zG X.K (vC (.bl b))):=xH zng λ_ _ _=>o7 λ_ _=> .val (.bl b)
theorem zbO {j pos} :PE X (.Constant .none j pos) (zG X.K (vC .non)):=xH znt λ_ _ _=>o7 λ_ _=> .val .non
theorem sQ {x:Str}{v:V}{y:PV}{u:Value}{pos:Pos}(hg:Gl X x)(hm:X.mg x=some u)(r:zL v u)(hr: ∀A H,RE X.K A H y v)(hd:(x==("__debug__" :Str))=false:=by decide):PE X (.Name x pos) (zG X.K (vC y)):=xH (zgR hg hm r hd) λ_ _ _=>o7 hr
def tW (R:R3)(Ta Tb:zA):zA:=λenv st Q=>Ta env st λx st1=>Tb env st1 λy st2=>R x y st2 Q
theorem mN {K:Frag}{R:R3}{σ:St}{H:Hp}{Q:VK} :zG K (tW R Ta Tb) σ H Q->nN (xA K R) (zG K Ta) (zG K Tb) σ H Q:=by
 rintro⟨A,env,st,Q3,rel,h,k⟩;exact⟨A,env,st,_,rel,h,λA1 H1 st1 x v g1 s1 e1 h1=>⟨A1,env,st1,_,rel.grow g1 s1,h1,λA2 H2 st2 y w g2 s2 e2 h2=>⟨A2,st2,x,y,Q3,s2,e1.grow g2,e2,h2,k.after (g1.trans g2)⟩⟩⟩
theorem zK {op:Operator}{R:R3}(ho:y1 X (binaryOp op) (xA X.K R))(ha:PE X a (zG X.K Ta))(hb:PE X b (zG X.K Tb)):PE X (.BinOp a op b pos) (zG X.K (tW R Ta Tb)):=xH (znu ho ha hb) λ_ _ _=>mN
theorem vU {op:CmpOp}{R:R3}(ho:y1 X (compareOp op) (xA X.K R))(ha:PE X a (zG X.K Ta))(hb:PE X b (zG X.K Tb))(hm:behindInMarks op b=false):PE X (.Compare a [op] [b] pos) (zG X.K (tW R Ta Tb)):=xH (zgP ho ha hb hm) λ_ _ _=>mN
theorem x6 {R:R3}(hr:qK X (xA X.K R))(ha:PE X a (zG X.K Ta))(hb:PE X b (zG X.K Tb))(hs:zdo b):PE X (.Subscript a b pos) (zG X.K (tW R Ta Tb)):=xH (znr hr ha hb hs) λ_ _ _=>mN
def vUn (R:PV->z7->K3->Prop)(Ta:zA):zA:=λenv st Q=>Ta env st λx st1=>R x st1 Q
def g8 (T:zA):yR:=λenv st Q=>T env st λx st1=>match x with | .bl k=>Q k st1 | _=>False
theorem zjF {K:Frag}{T:zA}{σ:St}{H:Hp}{Q:Bool->Hp->Prop} :yW K (g8 T) σ H Q->zhU (zG K T) σ H Q:=by
 rintro⟨A,env,st,Q3,rel,h,k⟩;refine⟨A,env,st,_,rel,h,λA1 H1 st1 x v g1 s1 e1 h1=> ?_⟩;cases x with
 | bl b=>
  cases e1 with
  | val e1=>cases e1;exact⟨b,rfl,k A1 H1 st1 b g1 s1 h1⟩
 | _=>exact False.elim h1
theorem y7 {op:CmpOp}{R:R3}(ho:y1 X (compareOp op) (xA X.K R))(ha:PE X a (zG X.K Ta))(hb:PE X b (zG X.K Tb))(hm:behindInMarks op b=false):PT X (.Compare a [op] [b] pos) (yW X.K (g8 (tW R Ta Tb))):=by
 refine zbK (znW ho ha hb hm) λσ H Q h=> ?_;have:=zjF h;exact mN this
def uL:PV->z7->(Bool->Prop)->Prop
 | .non,_,k=>k false
 | .bl b,_,k=>k b
 | .int i,_,k=>k (i !=0)
 | .str x,_,k=>x.length<=sizeLine/\k ((x.length:Int) !=0)
 | .tup xs,_,k=>k (!xs.isEmpty)
 | .lst xs,_,k=>k (!xs.isEmpty)
 | .dct xs,_,k=>k (!xs.isEmpty)
 | .obj i,st,k=>match st[i]? with | some (.lst xs)=>k (!xs.isEmpty) | some (.dct xs)=>k (!xs.isEmpty) | _=>False
 | _,_,_=>False
def zcQ (T:zA):yR:=λenv st Q=>T env st λx st1=>uL x st1 λk=>Q k st1
theorem RVs.empty {K:Frag}{A:List Addr}{H:Hp}{xs:List PV}{vs:List V}(h:RVs K A H xs vs):vs.isEmpty=xs.isEmpty:=by
 cases h <;> rfl
theorem RKs.empty {K:Frag}{A:List Addr}{H:Hp}{xs:List (zC×PV)}{vs:List (zC×V)}(h:RKs K A H xs vs):vs.isEmpty=xs.isEmpty:=by
 cases h <;> rfl
theorem zqp {K:Frag}{A:List Addr}{H:Hp}{st:z7}{x:PV}{v:V}{P:Bool->Prop}(s:RS K A H st)(e:RE K A H x v)(h:uL x st P): ∃k,gW K v H k/\P k:=by
 cases e with
 | obj e=>
  dsimp only[uL]at h
  split at h
  ·rename_i xs q
   obtain⟨vs,h1,h2,_⟩:=s.at_ _ _ _ e q;exact⟨_,.inl ⟨vs,.of h1,by rw[h2.empty]⟩,h⟩
  ·rename_i xs q
   obtain⟨vs,h1,h2,_⟩:=s.at_ _ _ _ e q;exact⟨_,.inr (.inr ⟨vs,h1,by rw[h2.empty]⟩),h⟩
  ·exact h.elim
 | val e=>
  cases e with
  | non=>exact⟨_,rfl,h⟩
  | bl b=>exact⟨_,rfl,h⟩
  | int i=>exact⟨_,rfl,h⟩
  | str y=>exact⟨_,⟨h.1,rfl⟩,h.2⟩
  | ty n=>exact False.elim h
  | tup t z r=>exact⟨_,.inr (.inl ⟨_,t.sq,by rw[r.empty]⟩),h⟩
  | lst t z r=>exact⟨_,.inl ⟨_,t.sq,by rw[r.empty]⟩,h⟩
  | dct t z r=>exact⟨_,.inr (.inr ⟨_,t.1,by rw[r.empty]⟩),h⟩
  | itb e n=>exact False.elim h
  | clo e=>exact False.elim h
theorem vF (ha:PE X a (zG X.K Ta))(he: ∀whole,isTrue a X.env whole=(do let v <- whole;standAt a.pos;holding [v] (truthy v)):=by intro _;rfl):PT X a (yW X.K (zcQ Ta)):=by
 refine zbK (znY ha he) λσ H Q ⟨A,env,st,Q3,rel,h,k⟩=> ?_;refine⟨A,env,st,_,rel,h,λA1 H1 st1 x v g1 s1 e1 h1=> ?_⟩;obtain⟨b,hb,q⟩:=zqp s1 e1 h1;exact⟨b,hb,k A1 H1 st1 b g1 s1 q⟩
def hU (t u:yR):yR:=λenv st Q=>t env st λc st1=>if c=true then u env st1 Q else Q false st1
def vOr (t u:yR):yR:=λenv st Q=>t env st λc st1=>if c=true then Q true st1 else u env st1 Q
def zcM (t:yR):yR:=λenv st Q=>t env st λc st1=>Q (!c) st1
theorem zjD {K:Frag}{t u:yR}{σ:St}{H:Hp}{Q:Bool->Hp->Prop} :yW K (hU t u) σ H Q->zhQ (yW K t) (yW K u) σ H Q:=by
 rintro⟨A,env,st,Q3,rel,h,k⟩;refine⟨A,env,st,_,rel,h,λA1 H1 st1 c g1 s1 h1=> ?_⟩;cases c with
 | true=>exact⟨A1,env,st1,Q3,rel.grow g1 s1,h1,k.after g1⟩
 | false=>exact k A1 H1 st1 false g1 s1 h1
theorem zjE {K:Frag}{t u:yR}{σ:St}{H:Hp}{Q:Bool->Hp->Prop} :yW K (vOr t u) σ H Q->tOr (yW K t) (yW K u) σ H Q:=by
 rintro⟨A,env,st,Q3,rel,h,k⟩;refine⟨A,env,st,_,rel,h,λA1 H1 st1 c g1 s1 h1=> ?_⟩;cases c with
 | false=>exact⟨A1,env,st1,Q3,rel.grow g1 s1,h1,k.after g1⟩
 | true=>exact k A1 H1 st1 true g1 s1 h1
variable {yT:List Expr}
theorem oZ (ha:PT X a (yW X.K tc)):PW X (.BoolOp .And [a] pos) (yW X.K tc):=zof ha
theorem tU (ha:PT X a (yW X.K tc)):PW X (.BoolOp .Or [a] pos) (yW X.K tc):=zoh ha
theorem oY (ha:PT X a (yW X.K tc))(hb:PW X (.BoolOp .And (b::yT) pos) (yW X.K td)):PW X (.BoolOp .And (a::b::yT) pos) (yW X.K (hU tc td)):=zhh (zoe ha hb) λ_ _ _=>zjD
theorem uK (ha:PT X a (yW X.K tc))(hb:PW X (.BoolOp .Or (b::yT) pos) (yW X.K td)):PW X (.BoolOp .Or (a::b::yT) pos) (yW X.K (vOr tc td)):=zhh (zog ha hb) λ_ _ _=>zjE
theorem sU (ha:PT X a (yW X.K tc)):PT X (.UnaryOp .Not a pos) (yW X.K (zcM tc)):=zbK (znX ha) λσ H Q ⟨A,env,st,Q3,rel,h,k⟩=>⟨A,env,st,_,rel,h,λA1 H1 st1 c g1 s1 h1=>k A1 H1 st1 (!c) g1 s1 h1⟩
def hV (Ta Tb:zA):zA:=λenv st Q=>Ta env st λx st1=>match x with | .bl c=>if c=true then Tb env st1 Q else Q (.bl false) st1 | _=>False
def zq_ (Ta Tb:zA):zA:=λenv st Q=>Ta env st λx st1=>match x with | .bl c=>if c=true then Q (.bl true) st1 else Tb env st1 Q | _=>False
def zit (Ta:zA):zA:=λenv st Q=>Ta env st λx st1=>match x with | .bl c=>Q (.bl (!c)) st1 | _=>False
theorem jW {op}(h:PE X a (zG X.K Ta)):PE X (.BoolOp op [a] pos) (zG X.K Ta):=zgW h
theorem zbN (ha:PE X a (zG X.K Ta))(hb:PE X (.BoolOp .And (b::yT) pos) (zG X.K Tb)):PE X (.BoolOp .And (a::b::yT) pos) (zG X.K (hV Ta Tb)):=by
 refine xH (zbE ha hb) λσ H Q ⟨A,env,st,Q3,rel,h,k⟩=>⟨A,env,st,_,rel,h,λA1 H1 st1 x v g1 s1 e1 h1=> ?_⟩;cases x with
 | bl c=>
  cases e1 with
  | val e1=>
   cases e1;refine⟨c,rfl,?_⟩;cases c with
   | true=>exact⟨A1,env,st1,Q3,rel.grow g1 s1,h1,k.after g1⟩
   | false=>exact k A1 H1 st1 _ _ g1 s1 (.val (.bl _)) h1
 | _=>exact False.elim h1
theorem zon (ha:PE X a (zG X.K Ta)):PE X (.UnaryOp .Not a pos) (zG X.K (zit Ta)):=by
 refine xH (zgV ha) λσ H Q ⟨A,env,st,Q3,rel,h,k⟩=>⟨A,env,st,_,rel,h,λA1 H1 st1 x v g1 s1 e1 h1=> ?_⟩;cases x with
 | bl c=>
  cases e1 with
  | val e1=>
   cases e1;exact⟨c,rfl,k A1 H1 st1 _ _ g1 s1 (.val (.bl _)) h1⟩
 | _=>exact False.elim h1
def vIf (t:yR)(Ta Tb:zA):zA:=λenv st Q=>t env st λc st1=>if c=true then Ta env st1 Q else Tb env st1 Q
def g6:y2:=λ_ st Q=>Q [] st
def lX (Ta:zA)(Tr:y2):y2:=λenv st Q=>Ta env st λx st1=>Tr env st1 λxs st2=>Q (x::xs) st2
theorem z8:PA X [] (vI X.K g6):=zgJ lC λσ H Q ⟨A,env,st,Q3,rel,h,k⟩=>k A H st [] [] (.refl _ _) rel.rs .nil h
theorem z5 (ha:PE X e (zG X.K Ta))(hr:PA X es (vI X.K TA))(hs:starEach (e::es) X.env=(false,eval e X.env)::starEach es X.env:=by rfl):PA X (e::es) (vI X.K (lX Ta TA)):=
 zgJ (rW ha hr hs) λσ H Q ⟨A,env,st,Q3,rel,h,k⟩=>⟨A,env,st,_,rel,h,λA1 H1 st1 x v g1 s1 e1 h1=>⟨A1,env,st1,_,rel.grow g1 s1,h1,λA2 H2 st2 xs vs g2 s2 e2 h2=>k A2 H2 st2 _ _ (g1.trans g2) s2 (.cons (e1.grow g2) e2) h2⟩⟩
def yG:PV->Bool
 | .obj _=>false
 | _=>true
def vT (xs:List PV):Bool:=xs.all yG&&Nat.ble xs.length 1000
theorem RE.rv {K:Frag}{A:List Addr}{H:Hp}{x:PV}{v:V}(e:RE K A H x v)(h:yG x=true):RV K A H x v:=by
 cases e with
 | val e=>exact e
 | obj e=>cases h
theorem yK.rvs {K:Frag}{A:List Addr}{H:Hp} : ∀{xs:List PV} {vs:List V},yK K A H xs vs->xs.all yG=true->RVs K A H xs vs
 | _,_,.nil,_=> .nil
 | _,_,.cons r t,h=>by
  rw[List.all_cons,Bool.and_eq_true]at h;exact .cons (r.rv h.1) (yK.rvs t h.2)
theorem vT.both {xs:List PV}(h:vT xs=true):xs.all yG=true/\xs.length<=sizeLine:=by
 unfold vT at h;rw[Bool.and_eq_true]at h;exact⟨h.1,Nat.le_trans (Nat.le_of_ble_eq_true h.2) (by decide)⟩
def zcR (T:y2):zA:=λenv st Q=>T env st λxs st1=>vT xs=true/\Q (.tup xs) st1
def zin (T:y2):zA:=λenv st Q=>T env st λxs st1=>vT xs=true/\Q (.lst xs) st1
def zio (T:y2):zA:=λenv st Q=>T env st λxs st1=>vT xs=true/\Q (.obj st1.length) (st1++ [.lst xs])
theorem sR {x1}(h:PA X es (vI X.K TA)):PE X (.Tuple es x1 pos) (zG X.K (zcR TA)):=by
 refine xH (znw h) λσ H Q ⟨A,env,st,Q3,rel,h,k⟩=>⟨A,env,st,_,rel,h,λA1 H1 st1 xs vs g1 s1 e1 h1=> ?_⟩;obtain⟨o1,o2⟩:=vT.both h1.1;have hr:=e1.rvs o1;have hl:=hr.len;refine⟨by rw[<- hl];exact o2,λp hp=>k A1 _ st1 _ _ (g1.trans (.new hp)) (s1.new hp) (.val (.tup (.inl ⟨.inl xC,s1.fresh hp⟩) (by rw[<- hl];exact o2) (hr.grow (.new hp)))) h1.2⟩
theorem xB (h:PA X es (vI X.K TA)):PE X (.List es pos) (zG X.K (zin TA)):=by
 refine xH (zgT h) λσ H Q ⟨A,env,st,Q3,rel,h,k⟩=>⟨A,env,st,_,rel,h,λA1 H1 st1 xs vs g1 s1 e1 h1=> ?_⟩;obtain⟨o1,o2⟩:=vT.both h1.1;have hr:=e1.rvs o1;have hl:=hr.len;refine⟨by rw[<- hl];exact o2,λp hp=>k A1 _ st1 _ _ (g1.trans (.new hp)) (s1.new hp) (.val (.lst (.inl ⟨.inl xC,s1.fresh hp⟩) (by rw[<- hl];exact o2) (hr.grow (.new hp)))) h1.2⟩
theorem zbB {A:List Addr}{n:Nat}{p:Addr}(h:A.length=n):(A++ [p])[n]?=some p:=by
 subst h;rw[List.getElem?_append_right (Nat.le_refl _),Nat.sub_self];rfl
theorem zom (h:PA X es (vI X.K TA)):PE X (.List es pos) (zG X.K (zio TA)):=by
 refine xH (zgT h) λσ H Q ⟨A,env,st,Q3,rel,h,k⟩=>⟨A,env,st,_,rel,h,λA1 H1 st1 xs vs g1 s1 e1 h1=> ?_⟩;obtain⟨o1,o2⟩:=vT.both h1.1;have hr:=e1.rvs o1;have hl:=hr.len;refine⟨by rw[<- hl];exact o2,λp hp=>k (A1++ [p]) _ _ _ _ (g1.trans (.newObj hp)) (s1.newObj (q:= .lst xs) hp ⟨vs,xC,hr.grow (.newObj hp),by rw[<- hl];exact o2⟩) (.obj (zbB s1.len)) h1.2⟩
def nO (R:zQ)(T:y2):zA:=λenv st Q=>T env st λxs st1=>R xs st1 Q
theorem fR {K:Frag}{R:zQ}{σ:St}{H:Hp}{Q:VK} :zG K (nO R TA) σ H Q->tCB (vR K R) (vI K TA) σ H Q:=by
 rintro⟨A,env,st,Q3,rel,h,k⟩;exact⟨A,env,st,_,rel,h,λA1 H1 st1 xs vs g1 s1 e1 h1=>⟨A1,st1,xs,Q3,s1,e1,h1,k.after g1⟩⟩
theorem xI {x:Str}{id:String}{R:zQ}(hc:xK X (.builtin id) (vR X.K R))(hg:Gl X x)(hm:X.mg x=none)(hv:bootBuiltins x=some (.builtin id))(ha:PA X (e::es) (vI X.K TA))(hn:x≠ "__name__" :=by decide)(hdb:(x==("__debug__" :Str))=false:=by decide)
  (he:starEach (e::es) X.env=(false,eval e X.env)::starEach es X.env:=by rfl) (hpl:(backTo pos (starEach es X.env)).any (·.1)=false:=by rfl):PE X (.Call (.Name x p) (e::es) [] pos) (zG X.K (nO R TA)):=
 xH (zbF hc hg hm hv ha hn hdb he hpl) λ_ _ _=>fR
theorem vE {x:Str}{T:String}{R:zQ}(hc:xK X (.type T) (vR X.K R))(hg:Gl X x)(hm:X.mg x=none)(hv:bootBuiltins x=some (.type T))(ha:PA X (e::es) (vI X.K TA))(hn:x≠ "__name__" :=by decide)(hdb:(x==("__debug__" :Str))=false:=by decide)
  (he:starEach (e::es) X.env=(false,eval e X.env)::starEach es X.env:=by rfl) (hpl:(backTo pos (starEach es X.env)).any (·.1)=false:=by rfl):PE X (.Call (.Name x p) (e::es) [] pos) (zG X.K (nO R TA)):=
 xH (znj hc hg hm hv ha hn hdb he hpl) λ_ _ _=>fR
theorem zW {x:Str}{S:zQ}{k:Nat}{f:Addr}{fd:FuncData}{ps:List Str}(F:zZ X.prog X.w X.K X.mg X.base yE k f fd ps (yD X.K S))(hr:zF k X.A)(hg:Gl X x)(hm:X.mg x=some (.ref f))(hk:keepIn X.K (.ref f)=true)(hb:zS X.K fd ps [])
  (ha:PA X (e::es) (vI X.K TA)) (hdb:(x==("__debug__" :Str))=false:=by decide) (he:starEach (e::es) X.env=(false,eval e X.env)::starEach es X.env:=by rfl) (hpl:(backTo pos (starEach es X.env)).any (·.1)=false:=by rfl):
  PE X (.Call (.Name x p) (e::es) [] pos) (zG X.K (nO S TA)):=by
 refine xH (zgO F hr hg hm hk hb .nil jU ha hdb he hpl) λσ H Q h=> ?_;obtain⟨A,env,st,Q3,rel,h,k⟩:=fR h;refine⟨A,env,st,Q3,rel,h,λA1 H1 st1 rs vs g1 s1 e1 h1=> ?_⟩;show yD X.K S (vs++ []) H1 Q E0;rw[List.append_nil];exact k A1 H1 st1 rs vs g1 s1 e1 h1
variable {sts rst:List Stmt} {stm:Stmt} {Ts Tu:yC}
def zcL:yC:=λD env st=>D.nx env st
def pV (t u:yC):yC:=λD env st=>t {D with nx:=u D} env st
theorem yA:yI X [] (yP X.K zcL):=pss_weak zhf λD σ H ⟨A,env,st,D3,rel,h,k⟩=>k.nx A H σ env st (.refl _ _) rel h
theorem zM (h:PS X stm (yP X.K Ts)):yI X [stm] (yP X.K Ts):=zbJ h
theorem zH (h1:PS X stm (yP X.K Ts))(h2:yI X rst (yP X.K Tu)):yI X (stm::rst) (yP X.K (pV Ts Tu)):=
 pss_weak (zbI h1 h2) λD σ H ⟨A,env,st,D3,rel,h,k⟩=>⟨A,env,st,_,rel,h,λA1 H1 σ1 env1 st1 g1 r1 h1=>⟨A1,env1,st1,D3,r1,h1,k.after g1⟩,k.rt,k.bk,k.ct⟩
def zqz:yC:=λD env st=>D.bk env st
def zq2:yC:=λD env st=>D.ct env st
def zik (T:zA):yC:=λD env st=>T env st λ_ st1=>D.nx env st1
theorem zhn (he:PE X e (zG X.K Ta))(hs:swapsWith e none pos.line X.env=pure false:=by rfl):PS X (.Expr e pos) (yP X.K (zik Ta)):=
 uZ (zhc he hs) λD σ H ⟨A,env,st,D3,rel,h,k⟩=>⟨A,env,st,_,rel,h,λA1 H1 st1 x v g1 s1 e1 h1=>k.nx A1 H1 σ env st1 g1 (rel.grow g1 s1) h1⟩
def zcP (T:zA):yC:=λD env st=>T env st D.rt
theorem zX (he:PE X e (zG X.K Ta)):PS X (.Return (some e) pos) (yP X.K (zcP Ta)):=uZ (zhe he) λD σ H ⟨A,env,st,D3,rel,h,k⟩=>⟨A,env,st,_,rel,h,k.rt⟩
def zqE:yC:=λD _ st=>D.rt .non st
def hZ (c:yR)(t u:yC):yC:=λD env st=>c env st λb st1=>if b=true then t D env st1 else u D env st1
theorem y9 (hc:PT X c (yW X.K tc))(ha:yI X sts (yP X.K Ts))(hb:yI X rst (yP X.K Tu)):PS X (.If c sts rst pos) (yP X.K (hZ tc Ts Tu)):=by
 refine uZ (zhd hc ha hb) λD σ H ⟨A,env,st,D3,rel,h,k⟩=>⟨A,env,st,_,rel,h,λA1 H1 st1 b g1 s1 h1=> ?_⟩;cases b with
 | true=>exact⟨A1,env,st1,D3,rel.grow g1 s1,h1,k.after g1⟩
 | false=>exact⟨A1,env,st1,D3,rel.grow g1 s1,h1,k.after g1⟩
variable {Tg:xN} {Tgs:tF}
def gN (i:Nat):xN:=λx env st Q=>Q (env.set i (some x)) st
theorem yV.set {K:Frag}{A:List Addr}{H:Hp}{σ:St}{env:zE}{st:z7}(r:yV K A H σ env st)(i:Nat){x:PV}{v:V}(e:RE K A H x v):yV K A H (σ.set i (some v)) (env.set i (some x)) st:=by
 refine⟨r.rs,by rw[List.length_set,List.length_set];exact r.len,λj y h=> ?_⟩;by_cases hij:i=j
 ·subst hij
  have hl:i < env.length:=by have:=(List.getElem?_eq_some_iff.mp h).1;simpa using this
  rw[List.getElem?_set_self hl]at h;cases h;exact⟨v,List.getElem?_set_self (by rw[<- r.len];exact hl),e⟩
 ·rw[List.getElem?_set_ne hij]at h
  rw[List.getElem?_set_ne hij];exact r.at_ j y h
theorem mM {K:Frag}{i:Nat}{v:V}{σ:St}{H:Hp}{Q:St->Hp->Prop} :uU K (gN i) v σ H Q->oH i v σ H Q:=by
 rintro⟨A,env,st,x,Q3,rel,e,h,k⟩;exact k A H _ _ st (.refl _ _) (rel.set i e) h
theorem vN {i:Nat}{x:Str}(hN:X.N.Nodup)(hi:X.N[i]?=some x)(hx:uE X.env.scope x)(hf:X.fn x=true∨X.env.scope.names.lookup x=some .local:=by first | exact .inl rfl | exact .inr rfl | assumption):PG X (.Name x pos) (uU X.K (gN i)):=
 zgX (zn3 hN hi hx hf) λ_ _ _ _=>mM
def gsN:tF:=λxs env st Q=>match xs with | []=>Q env st | _=>False
def gsC (g:xN)(gs:tF):tF:=λxs env st Q=>match xs with | x::r=>g x env st λenv1 st1=>gs r env1 st1 Q | []=>False
def gT (n:Nat)(gs:tF):xN:=λx env st Q=>match x with | .tup xs=>xs.length=n/\gs xs env st Q | .lst xs=>xs.length=n/\gs xs env st Q | _=>False
def r6 (T:zA)(g:xN):yC:=λD env st=>T env st λx st1=>g x env st1 D.nx
theorem mL {K:Frag}{D:vP}{σ:St}{H:Hp} :yP K (r6 Ta Tg) D σ H->nM (zG K Ta) (uU K Tg) D σ H:=by
 rintro⟨A,env,st,D3,rel,h,k⟩;exact⟨A,env,st,_,rel,h,λA1 H1 st1 x v g1 s1 e1 h1=>⟨A1,env,st1,x,D3.nx,rel.grow g1 s1,e1,h1,k.nx.after g1⟩⟩
theorem zhm {tg:Expr}(he:PE X e (zG X.K Ta))(hg:PG X tg (uU X.K Tg))(hs:swapsWithSole [tg] e pos.line X.env=pure false:=by rfl)(hw:swappedStores [tg] e X.env=pure none:=by rfl)
  (h1:(assignEach [tg] X.env).map (·.2)= [assign tg X.env]:=by rfl):PS X (.Assign [tg] e pos) (yP X.K (r6 Ta Tg)):=uZ (znH he hg hs hw h1) λ_ _ _=>mL
theorem y6 {i:Nat}{x:Str}{pos':Pos}(hN:X.N.Nodup)(hi:X.N[i]?=some x)(hx:uE X.env.scope x)(he:PE X e (zG X.K Ta))(hs:swapsWith e (some (.Name x pos')) pos.line X.env=pure false:=by rfl)(hf:X.fn x=true∨X.env.scope.names.lookup x=some .local:=by first | exact .inl rfl | exact .inr rfl | assumption):
  PS X (.Assign [.Name x pos'] e pos) (yP X.K (r6 Ta (gN i))):=by
 refine uZ (znN hN hi hx he hs hf) λD σ H h=> ?_;obtain⟨A,env,st,Q3,rel,h,k⟩:=mL h;exact⟨A,env,st,Q3,rel,h,λA1 H1 st1 r v g s e q=>mM (k A1 H1 st1 r v g s e q)⟩
def zqA (i j:Nat)(T:y2):yC:=λD env st=>T env st λxs st1=>match xs with | [x,y]=>D.nx ((env.set i (some x)).set j (some y)) st1 | _=>False
end
def uP:xM->z7->Prop->Prop
 | none,_,P=>P
 | some (i,o),st,P=>st[i]?=some o/\P
theorem uP.of {src:xM}{st:z7}{P:Prop}(h:uP src st P):P:=by
 cases src with
 | none=>exact h
 | some q=>exact h.2
def jQ:xM->z7->Prop
 | none,_=>True
 | some (i,o),st=>st[i]?=some o
theorem uP.ok {src:xM}{st:z7}{P:Prop}(h:uP src st P):jQ src st:=by
 cases src with
 | none=>exact trivial
 | some q=>exact h.1
structure qJ (K:Frag)(A:List Addr)(H:Hp)(src:xM)(J:It)(xs:List PV):Prop where
 go: ∀(i:Nat) A' H' st,zV A H A' H'->RS K A' H' st->jQ src st->i < xs.length->J.go i H'
 yld: ∀(i:Nat) (x:PV) A' H' st v H2,xs[i]?=some x->zV A H A' H'->RS K A' H' st->jQ src st->J.yld i H' v H2->zV A' H' A' H2/\RS K A' H2 st/\RE K A' H2 x v
 stop: ∀A' H' st,zV A H A' H'->RS K A' H' st->jQ src st->J.stop xs.length H'
 small:xs.length<=sizeLine
def qS (K:Frag)(I:vQ):TI:=λσ H R=> ∃A env st Q3,yV K A H σ env st/\I env st Q3/\∀A' H' st' src xs J,zV A H A' H'->RS K A' H' st'->qJ K A' H' src J xs->Q3 src xs st'->R J H'
def gD (g:xN)(b:yC)(src:xM)(xs:List PV)(D:yU)(env:zE)(st:z7):Prop:= ∃P:Nat->zE->z7->Prop,P 0 env st/\
 (∀i x env st,xs[i]?=some x->P i env st->uP src st (g x env st λe s=>b {D with nx:=P (i+1),ct:=P (i+1),bk:=D.nx} e s))/\(∀env st,P xs.length env st->uP src st (D.nx env st))
def zim (I:vQ)(g:xN)(b:yC):yC:=λD env st=>I env st λsrc xs st1=>gD g b src xs D env st1
def zqK (c:yR)(b:yC):yC:=λD env st=> ∃W:Nat->zE->z7->Prop,(∃m,W m env st)/\∀m env st,W m env st->
 c env st λt st1=>if t=true then ∃N:zE->z7->Prop,(∀e s,N e s->∃m',m' < m/\W m' e s)/\b {D with nx:=N,ct:=N,bk:=D.nx} env st1 else D.nx env st1
section
variable {X:Cx} {a b c e tg iter:Expr} {es:List Expr} {pos p:Pos} {Ta Tb:zA} {TA:y2} {tc:yR} {Ti:vQ} {Tg:xN} {Ts:yC} {body:List Stmt}
theorem zgY {wi wi':TI}(h:PI X tg iter wi)(w: ∀σ H R,wi' σ H R->wi σ H R):PI X tg iter wi':=⟨λpins s σ H R I q=>h pins s σ H R I (w σ H R q)⟩
theorem jX (hp:PassesOwn (model X.prog X.w) X.A X.env X.xe)(hc:X.calm=true)(hi:PI X tg iter (qS X.K Ti))(hg:PG X tg (uU X.K Tg))(hb:yI X body (yP X.K Ts))
  (hs: ∀x,foldedSetIterable iter X.env x=pure x:=by intro _;rfl):PS X (.For tg iter body [] pos) (yP X.K (zim Ti Tg Ts)):=by
 refine uZ (znK hp hc hi hg hb hs) λD σ H ⟨A,env,st,D3,rel,h,k⟩=>⟨A,env,st,_,rel,h,λA1 H1 st1 src xs J g1 s1 it h1=> ?_⟩;obtain⟨P,p0,hP,hE⟩:=h1;refine⟨λi m σ' H'=>m=xs.length - i/\i<=xs.length/\∃A' env' st',zV A1 H1 A' H'/\yV X.K A' H' σ' env' st'/\P i env' st',⟨_,rfl,Nat.zero_le _,A1,env,st1,.refl _ _,rel.grow g1 s1,p0⟩,?_⟩;rintro i m σ' H' ⟨rfl,hi,A',env',st',g',rel',p'⟩;by_cases hlt:i < xs.length
 ·have hx:xs[i]?=some xs[i]:=List.getElem?_eq_getElem hlt
  have hw:=hP i _ env' st' hx p';refine .inr ⟨it.go i A' H' st' g' rel'.rs hw.ok hlt,λσ2 H2=>i+1<=xs.length/\∃A' env' st',zV A1 H1 A' H2/\yV X.K A' H2 σ2 env' st'/\P (i+1) env' st',λσ2 H2 q=>⟨_,by omega,rfl,q⟩,λv H2 y=> ?_⟩;obtain⟨g2,s2,e2⟩:=it.yld i _ A' H' st' v H2 hx g' rel'.rs hw.ok y;refine⟨A',env',st',_,_,rel'.grow g2 s2,e2,hw.of,λA3 H3 σ3 env3 st3 g3 r3 h3=> ?_⟩;have gg:=g'.trans (g2.trans g3);have k3:=k.after (g1.trans gg);exact⟨A3,env3,st3,_,r3,h3,λA4 H4 σ4 env4 st4 g4 r4 h4=>⟨hlt,A4,env4,st4,gg.trans g4,r4,h4⟩,k3.rt,k3.nx,λA4 H4 σ4 env4 st4 g4 r4 h4=>⟨hlt,A4,env4,st4,gg.trans g4,r4,h4⟩⟩
 ·have e:i=xs.length:=by omega
  subst e;have hw:=hE env' st' p';exact .inl ⟨it.stop A' H' st' g' rel'.rs hw.ok,k.nx A' H' σ' env' st' (g1.trans g') rel' hw.of⟩
theorem zou (hp:PassesOwn (model X.prog X.w) X.A X.env X.xe)(hc:PT X c (yW X.K tc))(hb:yI X body (yP X.K Ts)):PS X (.While c body [] pos) (yP X.K (zqK tc Ts)):=by
 refine uZ (znP hp hc hb) λD σ H ⟨A,env,st,D3,rel,h,k⟩=> ?_;obtain⟨W,⟨m0,w0⟩,hW⟩:=h;refine⟨λm σ' H'=> ∃A' env' st',zV A H A' H'/\yV X.K A' H' σ' env' st'/\W m env' st',⟨m0,A,env,st,.refl _ _,rel,w0⟩,?_⟩;rintro m σ' H' ⟨A',env',st',g',rel',w'⟩;refine⟨A',env',st',_,rel',hW m env' st' w',λA1 H1 st1 t g1 s1 h1=> ?_⟩;have gg:=g'.trans g1;have kk:=k.after gg;cases t with
 | false=>exact k.nx A1 H1 σ' env' st1 gg (rel'.grow g1 s1) h1
 | true=>
  obtain⟨N,hN,hb1⟩:=h1;refine⟨λσ2 H2=> ∃A2 env2 st2,zV A H A2 H2/\yV X.K A2 H2 σ2 env2 st2/\N env2 st2,?_,?_⟩
  ·rintro σ2 H2 ⟨A2,env2,st2,g2,r2,n2⟩
   obtain⟨m',hm,w2⟩:=hN env2 st2 n2;exact⟨m',hm,A2,env2,st2,g2,r2,w2⟩
  ·exact⟨A1,env',st1,_,rel'.grow g1 s1,hb1,λA4 H4 σ4 env4 st4 g4 r4 h4=>⟨A4,env4,st4,gg.trans g4,r4,h4⟩,kk.rt,kk.nx,λA4 H4 σ4 env4 st4 g4 r4 h4=>⟨A4,env4,st4,gg.trans g4,r4,h4⟩⟩
def tX (own:Nat)(g:xN)(tt:yR)(el:zA)(src:xM)(xs:List PV)(Q:List PV->z7->Prop)(env:zE)(st:z7):Prop:= ∃P:Nat->List PV->zE->z7->Prop,P 0 [] (env++List.replicate own none) st/\
 (∀i x ys env st,xs[i]?=some x->P i ys env st->uP src st (g x env st λe s=>tt e s λb s2=>if b=true then el e s2 λy s3=>yG y=true/\P (i+1) (ys++ [y]) e s3 else P (i+1) ys e s2))/\
 (∀ys env st,P xs.length ys env st->uP src st (Q ys st))
def lW (own:Nat)(I:vQ)(g:xN)(tt:yR)(el:zA):zA:=λenv st Q=>I env st λsrc xs st1=>tX own g tt el src xs (λys st2=>Q (.lst ys) st2) env st1
def zq1 (own:Nat)(I:vQ)(g:xN)(tt:yR)(el:zA):zA:=λenv st Q=>I env st λsrc xs st1=>tX own g tt el src xs (λys st2=>Q (.obj st2.length) (st2++ [.lst ys])) env st1
def lY:yR:=λ_ st Q=>Q true st
theorem tS:PF X [] (yW X.K lY):=zn2 zn0 λσ H Q ⟨A,env,st,Q3,rel,h,k⟩=>k A H st true (.refl _ _) rel.rs h
theorem zoo (h:PT X c (yW X.K tc)):PF X [c] (yW X.K tc):=zn1 h
theorem yV.more {K:Frag}{A:List Addr}{H:Hp}{σ:St}{env:zE}{st:z7}(r:yV K A H σ env st)(n:Nat):yV K A H (σ++List.replicate n none) (env++List.replicate n none) st:=by
 refine⟨r.rs,by rw[List.length_append,List.length_append,r.len,List.length_replicate,List.length_replicate],λi x h=> ?_⟩;by_cases hi:i < env.length
 ·rw[List.getElem?_append_left hi]at h
  rw[List.getElem?_append_left (by rw[<- r.len];exact hi)];exact r.at_ i x h
 ·rw[List.getElem?_append_right (by omega),List.getElem?_replicate]at h
  split at h <;> cases h
theorem zjC {K:Frag}{own:Nat}{g:xN}{tt:yR}{el:zA}{src:xM}{xs:List PV}{Q3:List PV->z7->Prop}{Q:VK}{A:List Addr}{H:Hp}{σ:St}{env:zE}{st:z7}{J:It}(rel:yV K A H σ env st)(it:qJ K A H src J xs)
  (h:tX own g tt el src xs Q3 env st) (k: ∀A' H' st' ys vs,zV A H A' H'->RS K A' H' st'->RVs K A' H' ys vs->vs.length<=sizeLine->Q3 ys st'->∀D,H' D=none->Q (.ref D) (upd H' D (.lst vs))):zcV own J (uU K g) (yW K tt) (zG K el) Q σ H:=by
 obtain⟨P,p0,hP,hE⟩:=h;refine⟨λi m vs σ' H'=>m=xs.length - i/\i<=xs.length/\vs.length<=i/\∃A' env' st' ys,zV A H A' H'/\yV K A' H' σ' env' st'/\RVs K A' H' ys vs/\P i ys env' st',⟨_,rfl,Nat.zero_le _,Nat.le_refl _,A,_,st,[],.refl _ _,rel.more own,.nil,p0⟩,?_⟩;rintro i m vs σ' H' ⟨rfl,hi,hv,A',env',st',ys,g',rel',rv,p'⟩;by_cases hlt:i < xs.length
 ·have hx:xs[i]?=some xs[i]:=List.getElem?_eq_getElem hlt
  have hw:=hP i _ ys env' st' hx p';refine .inr ⟨it.go i A' H' st' g' rel'.rs hw.ok hlt,Nat.lt_of_lt_of_le (Nat.lt_of_le_of_lt hv hlt) it.small,λvs σ2 H2=>i+1<=xs.length/\vs.length<=i+1/\∃A' env' st' ys,zV A H A' H2/\yV K A' H2 σ2 env' st'/\RVs K A' H2 ys vs/\P (i+1) ys env' st',λvs σ2 H2 q=>⟨_,by omega,rfl,q⟩,λv H2 y=> ?_⟩;obtain⟨g2,s2,e2⟩:=it.yld i _ A' H' st' v H2 hx g' rel'.rs hw.ok y;refine⟨A',env',st',_,_,rel'.grow g2 s2,e2,hw.of,λA3 H3 σ3 env3 st3 g3 r3 h3=>⟨A3,env3,st3,_,r3,h3,λA4 H4 st4 b g4 s4 h4=> ?_⟩⟩;have gg:=g2.trans (g3.trans g4);cases b with
  | false=>exact⟨hlt,by omega,A4,env3,st4,ys,g'.trans gg,r3.grow g4 s4,rv.grow gg,h4⟩
  | true=>
   refine⟨A4,env3,st4,_,r3.grow g4 s4,h4,λA5 H5 st5 y v5 g5 s5 e5 h5=>⟨hlt,by rw[List.length_append,List.length_singleton];omega,A5,env3,st5,ys++ [y],g'.trans (gg.trans g5),(r3.grow g4 s4).grow g5 s5,?_,h5.2⟩⟩;exact(rv.grow (gg.trans g5)).append (.cons (e5.rv h5.1) .nil)
 ·have e:i=xs.length:=by omega
  subst e;have hw:=hE ys env' st' p';have hz:=Nat.le_trans hv it.small;exact .inl ⟨it.stop A' H' st' g' rel'.rs hw.ok,hz,k A' H' st' ys vs g' rel'.rs rv hz hw.of⟩
variable {N' own:List Str} {scope:Scope} {ifs:List Expr} {target:Expr} {te:zA} {tt:yR}
theorem fS {K:Frag}{own:Nat}{σ:St}{H:Hp}{Q:VK} :zG K (lW own Ti Tg tt te) σ H Q->iY own (qS K Ti) (uU K Tg) (yW K tt) (zG K te) σ H Q:=by
 rintro⟨A,env,st,Q3,rel,h,k⟩;refine⟨A,env,st,_,rel,h,λA1 H1 st1 src xs J g1 s1 it h1=>zjC (rel.grow g1 s1) it h1 λA2 H2 st2 ys vs g2 s2 r2 hz q D hD=> ?_⟩;exact k A2 _ st2 _ _ (g1.trans (g2.trans (.new hD))) (s2.new hD) (.val (.lst (.inl ⟨.inl xC,s2.fresh hD⟩) hz (r2.grow (.new hD)))) q
theorem sP {pos:Pos}(S:uQ X scope N' own)(hc:X.calm=true)(hi:PI X target iter (qS X.K Ti))
  (hg: ∀C s H fp pins,PG (yF X scope (N'++own) C s H fp pins) target (uU X.K Tg)) (ht: ∀C s H fp pins,PF (yF X scope (N'++own) C s H fp pins) ifs (yW X.K tt)) (he: ∀C s H fp pins,PE (yF X scope (N'++own) C s H fp pins) a (zG X.K te))
  (hs: ∀x,foldedSetIterable iter X.env x=pure x:=by intro _;rfl):PE X (.ListComp a [⟨target,iter,ifs,0⟩] scope pos) (zG X.K (lW own.length Ti Tg tt te)):=xH (znl S hc hi hg ht he hs) λ_ _ _=>fS
theorem zkU {K:Frag}{A:List Addr}{H:Hp}{a:Addr}{xs:List PV}{vs:List V}(t:tE K A H a vs)(hz:vs.length<=sizeLine)(r:RVs K A H xs vs):qJ K A H none (kG K a) xs where
 go:=λi A' H' st g s _ hi=>by
  rw[r.len]at hi;exact⟨vs,vs[i],(t.grow g).sq,by simp[hi]⟩
 yld:=λi x A' H' st v H2 hx g s _ y=>by
  obtain⟨rfl,y⟩:=y;obtain⟨w,ew,rw'⟩:=r.get hx;have:=y vs (t.grow g).sq;rw[ew]at this;cases this;exact⟨.refl _ _,s,.val (rw'.grow g)⟩
 stop:=λA' H' st g s _=>⟨vs,(t.grow g).sq,by rw[r.len];exact Nat.le_refl _⟩
 small:=by rw[r.len];exact hz
theorem zkY {K:Frag}{A:List Addr}{H:Hp}{a:Addr}{xs:List PV}{vs:List V}(t:u3 K A H a vs)(hz:vs.length<=sizeLine)(r:RVs K A H xs vs):qJ K A H none (gM K a) xs where
 go:=λi A' H' st g s _ hi=>by
  rw[r.len]at hi;exact⟨vs,vs[i],(t.grow g).sq,by simp[hi]⟩
 yld:=λi x A' H' st v H2 hx g s _ y=>by
  obtain⟨rfl,y⟩:=y;obtain⟨w,ew,rw'⟩:=r.get hx;have:=y vs (t.grow g).sq;rw[ew]at this;cases this;exact⟨.refl _ _,s,.val (rw'.grow g)⟩
 stop:=λA' H' st g s _=>⟨vs,(t.grow g).sq,by rw[r.len];exact Nat.le_refl _⟩
 small:=by rw[r.len];exact hz
theorem zkV {K:Frag}{A:List Addr}{H:Hp}{i:Nat}{a:Addr}{xs:List PV}(e:A[i]?=some a)(hz:xs.length<=sizeLine):qJ K A H (some (i,.lst xs)) (kG K a) xs where
 go:=λj A' H' st g s ok hi=>by
  obtain⟨vs,h,r,_⟩:=s.at_ i a _ (g.sub e) ok;rw[r.len]at hi;exact⟨vs,vs[j],.of h,by simp[hi]⟩
 yld:=λj x A' H' st v H2 hx g s ok y=>by
  obtain⟨rfl,y⟩:=y;obtain⟨vs,h,r,_⟩:=s.at_ i a _ (g.sub e) ok;obtain⟨w,ew,rw'⟩:=r.get hx;have:=y vs (.of h);rw[ew]at this;cases this;exact⟨.refl _ _,s,.val rw'⟩
 stop:=λA' H' st g s ok=>by
  obtain⟨vs,h,r,_⟩:=s.at_ i a _ (g.sub e) ok;exact⟨vs,.of h,by rw[r.len];exact Nat.le_refl _⟩
 small:=hz
def t3 (lo:Int)(n:Nat):List PV:=(List.range n).map λi:Nat=> .int (lo+(i:Int))
theorem qA (lo:Int)(n:Nat):(t3 lo n).length=n:=by unfold t3;rw[List.length_map,List.length_range]
theorem i8 {lo:Int}{n i:Nat}{x:PV}(h:(t3 lo n)[i]?=some x):i < n/\x= .int (lo+i):=by
 have hi:=(List.getElem?_eq_some_iff.mp h).1;rw[qA]at hi;unfold t3 at h;rw[List.getElem?_map,List.getElem?_range hi]at h;exact⟨hi,(Option.some.inj h).symm⟩
theorem zkW {K:Frag}{A:List Addr}{H:Hp}{lo:Int}{n:Nat}(hz:n<=sizeLine):qJ K A H none (kH lo n) (t3 lo n) where
 go:=λi A' H' st g s _ hi=>by rw[qA]at hi;exact hi
 yld:=λi x A' H' st v H2 hx g s _ y=>by
  obtain⟨rfl,rfl⟩:=y;obtain⟨_,rfl⟩:=i8 hx;exact⟨.refl _ _,s,.val (.int _)⟩
 stop:=λA' H' st g s _=>by rw[qA];exact Nat.le_refl n
 small:=by rw[qA];exact hz
def zfK (T:y2):vQ:=λenv st Q=>T env st λxs st1=>match xs with
 | [.int j]=>(-1000000<=j/\j<=1000000)/\Q none (t3 0 j.toNat) st1
 | _=>False
def zkJ (T:y2):vQ:=λenv st Q=>T env st λxs st1=>match xs with
 | [.int i,.int j]=>(-1000000<=i/\i<=1000000/\ -1000000<=j/\j<=1000000)/\Q none (t3 i (j - i).toNat) st1
 | _=>False
end
section
variable {X:Cx}
theorem uB {f:Value->Value->Sem Value}{R:R3}
  (h: ∀pins s σ H A st x y v w vv ww Q3 Q,z6 X pins σ H s->RS X.K A H st->RE X.K A H x v->RE X.K A H y w->zL v vv->zL w ww->R x y st Q3->w6 X.K A H Q3 Q->wpAny (model X.prog X.w) X.A (f vv ww) (EP X pins σ Q) X.xe s):y1 X f (xA X.K R):=by
 rintro pins s σ H v w vv ww Q I rv rw ⟨A,st,x,y,Q3,rs,ex,ey,hR,k⟩;exact h pins s σ H A st x y v w vv ww Q3 Q I rs ex ey rv rw hR k
def zch:R3:=λx y st Q=>match x,y with | .int i,.int j=>Q (.int (i - j)) st | _,_=>False
def i4:R3:=λx y st Q=>match x,y with
 | .int i,.int j=>((-(2 ^ 64) < i/\i < 2 ^ 64)∨(-(2 ^ 64) < j/\j < 2 ^ 64))/\Q (.int (i * j)) st
 | .str z,.int n=>if n=0 then Q (.str Str.empty) st else n=1/\Q (.str z) st
 | _,_=>False
def zcb:R3:=λx y st Q=>match x,y with | .int i,.int j=>0 < j/\Q (.int (i % j)) st | _,_=>False
def zbS:R3:=λx y st Q=>match x,y with | .int i,.int j=>(0 < j/\j < 1099511627776)/\Q (.int (i / j)) st | _,_=>False
def zcd:R3:=λx y st Q=>match x,y with | .int i,.int j=>k6 i j/\Q (.int (i ^ j.toNat)) st | _,_=>False
theorem zmM {X:Cx} :y1 X (binaryOp .FloorDiv) (rI (λ_ j=>0 < j/\j < 1099511627776) λi j=> .int (i / j)):=jT λi j _ _ _ _ _ hc q=>by
 have e:i.fdiv j=i / j:=Int.fdiv_eq_ediv_of_nonneg _ (by omega);rw[<- e]at q;refine PyProof.Rows.floordiv_int (by omega) q (.inl (PyProof.noPylong_of_log2 ?_));by_cases z:j.natAbs=0
 ·rw[z];decide
 ·have:=(Nat.log2_lt z).mpr (show j.natAbs < 2 ^ 40 by omega)
  omega
theorem yY {K:Frag}{A:List Addr}{H:Hp}{i:Int}{v:V}(e:RE K A H (.int i) v):v= .int i:=by
 cases e with | val e=>cases e;rfl
theorem wJ {K:Frag}{A:List Addr}{H:Hp}{i:Str}{v:V}(e:RE K A H (.str i) v):v= .str i:=by
 cases e with | val e=>cases e;rfl
theorem fM {K:Frag}{A:List Addr}{H:Hp}{i:Bool}{v:V}(e:RE K A H (.bl i) v):v= .bl i:=by
 cases e with | val e=>cases e;rfl
theorem pH:y1 X (binaryOp .Sub) (xA X.K zch):=uB λpins s σ H A st x y v w vv ww Q3 Q I rs ex ey rv rw h k=>by
 unfold zch at h
 split at h
 ·cases yY ex;cases yY ey
  exact zmZ pins s σ H _ _ vv ww Q I rv rw ⟨_,_,rfl,rfl,k.now rs (.val (.int _)) h⟩
 ·exact h.elim
theorem rU:y1 X (binaryOp .Mult) (xA X.K i4):=uB λpins s σ H A st x y v w vv ww Q3 Q I rs ex ey rv rw h k=>by
 unfold i4 at h
 split at h
 ·cases yY ex;cases yY ey
  exact zmV pins s σ H _ _ vv ww Q I rv rw ⟨_,_,rfl,rfl,h.1,k.now rs (.val (.int _)) h.2⟩
 ·cases wJ ex;cases yY ey
  rename_i z n;by_cases hn:n=0
  ·rw[if_pos hn]at h
   exact zgF pins s σ H _ _ vv ww Q I rv rw ⟨_,_,rfl,rfl,.inl ⟨hn,k.now rs (.val (.str _)) h⟩⟩
  ·rw[if_neg hn]at h
   exact zgF pins s σ H _ _ vv ww Q I rv rw ⟨_,_,rfl,rfl,.inr ⟨h.1,k.now rs (.val (.str _)) h.2⟩⟩
 ·exact h.elim
theorem sM:y1 X (binaryOp .Mod) (xA X.K zcb):=uB λpins s σ H A st x y v w vv ww Q3 Q I rs ex ey rv rw h k=>by
 unfold zcb at h
 split at h
 ·cases yY ex;cases yY ey
  exact zmU pins s σ H _ _ vv ww Q I rv rw ⟨_,_,rfl,rfl,h.1,k.now rs (.val (.int _)) h.2⟩
 ·exact h.elim
theorem zgz:y1 X (binaryOp .FloorDiv) (xA X.K zbS):=uB λpins s σ H A st x y v w vv ww Q3 Q I rs ex ey rv rw h k=>by
 unfold zbS at h
 split at h
 ·cases yY ex;cases yY ey
  exact zmM pins s σ H _ _ vv ww Q I rv rw ⟨_,_,rfl,rfl,h.1,k.now rs (.val (.int _)) h.2⟩
 ·exact h.elim
theorem zmr:y1 X (binaryOp .Pow) (xA X.K zcd):=uB λpins s σ H A st x y v w vv ww Q3 Q I rs ex ey rv rw h k=>by
 unfold zcd at h
 split at h
 ·cases yY ex;cases yY ey
  exact zmY pins s σ H _ _ vv ww Q I rv rw ⟨_,_,rfl,rfl,h.1,k.now rs (.val (.int _)) h.2⟩
 ·exact h.elim
def zo_:PV->z7->K3->Prop:=λx st Q=>match x with | .int i=>Q (.int (-i)) st | _=>False
def pM (f:Int->Int->Bool):R3:=λx y st Q=>match x,y with | .int i,.int j=>Q (.bl (f i j)) st | _,_=>False
theorem jO {op:CmpOp}{f:Int->Int->Bool}(ho:y1 X (compareOp op) (sV λi j=> .bl (f i j))):y1 X (compareOp op) (xA X.K (pM f)):=uB λpins s σ H A st x y v w vv ww Q3 Q I rs ex ey rv rw h k=>by
 unfold pM at h
 split at h
 ·cases yY ex;cases yY ey
  exact ho pins s σ H _ _ vv ww Q I rv rw ⟨_,_,rfl,rfl,k.now rs (.val (.bl _)) h⟩
 ·exact h.elim
theorem sL:y1 X (compareOp .Lt) (xA X.K (pM λi j=>decide (i < j))):=jO zmT
theorem zmp:y1 X (compareOp .LtE) (xA X.K (pM λi j=>decide (i<=j))):=jO zmS
theorem rT:y1 X (compareOp .Gt) (xA X.K (pM λi j=>decide (j < i))):=jO zmO
theorem zmm:y1 X (compareOp .GtE) (xA X.K (pM λi j=>decide (j<=i))):=jO zmN
def u8:PV->Bool
 | .non=>true
 | _=>false
def zbW:R3:=λx y st Q=>match y with | .non=>Q (.bl (u8 x)) st | _=>False
def zoA:R3:=λx y st Q=>match y with | .non=>Q (.bl (!u8 x)) st | _=>False
theorem zkT {K:Frag}{A:List Addr}{H:Hp}{x:PV}{v:V}(e:RE K A H x v):decide (v= .non)=u8 x:=by
 cases e with
 | obj e=>rfl
 | val e=>cases e <;> rfl
theorem zmo:y1 X (compareOp .Is) (xA X.K zbW):=uB λpins s σ H A st x y v w vv ww Q3 Q I rs ex ey rv rw h k=>by
 unfold zbW at h
 split at h
 ·have hw:w= .non:=by cases ey with | val e=>cases e;rfl
  exact zmR pins s σ H _ _ vv ww Q I rv rw ⟨hw,by rw[zkT ex];exact k.now rs (.val (.bl _)) h⟩
 ·exact h.elim
theorem zmI:y1 X (binaryOp .Add) (λx y H Q=> ∃a b xs ys,x= .ref a/\y= .ref b/\xQ X.K H a xs/\xQ X.K H b ys/\xs.length+ys.length<=sizeLine/\
  (xs= []->Q (.ref b) H)/\(ys= []->Q (.ref a) H)/\∀p,H p=none->Q (.ref p) (upd H p (.tup (xs++ys)))):=by
 intro pins s σ H x y v u Q I rx ry h;obtain⟨a,b,xs,ys,rfl,rfl,ha,hb,hz,q1,q2,q3⟩:=h;by_cases hx:xs= []
 ·cases rx;cases ry
  subst hx;obtain⟨its,r1,p1,_⟩:=I.tuple ha;obtain⟨its2,r2,p2,_⟩:=I.tuple hb;have hv:its= []:=r1.nil_iff.mpr rfl;subst hv;obtain⟨⟨cls,dd,data,sl⟩,ho,hc,n,hd⟩:=id p1;obtain⟨⟨cls2,dd2,data2,sl2⟩,ho2,hc2,n2,hd2⟩:=id p2;simp only at hc hd hc2 hd2;subst hc hd hc2 hd2;exact concat_meets ⟨_,ho,rfl⟩ ⟨_,ho2,rfl⟩ noFill_tuple_add seq_tuple_add PySem.F.slot_tuple_add PySem.F.entry_tuple_add (PySem.F.args_tuple_add_2 _ _)
   (tuple_addW0 a b _ its2.toArray n n2 dd dd2 sl sl2 (by simp)) ⟨ho,ho2,⟨.ref b,H,I,rfl,q1 rfl⟩⟩
 ·exact zmK pins s σ H _ _ v u Q I rx ry ⟨a,b,_,_,rfl,rfl,ha,hb,hx,hz,q2,λ_=>q3⟩
def n0:R3:=λx y st Q=>match x,y with
 | .int i,.int j=>Q (.int (i+j)) st
 | .str i,.str j=>i.length+j.length<=sizeLine/\Q (.str (i++j)) st
 | .tup xs,.tup ys=>xs.length+ys.length<=sizeLine/\Q (.tup (xs++ys)) st
 | .lst xs,.lst ys=>xs.length+ys.length<=sizeLine/\Q (.lst (xs++ys)) st
 | _,_=>False
theorem RVs.nil_iff {K:Frag}{A:List Addr}{H:Hp}{xs:List PV}{vs:List V}(h:RVs K A H xs vs):vs= []->xs= []:=by
 cases h with
 | nil=>exact λ_=>rfl
 | cons r t=>exact λz=>nomatch z
theorem w6.tup {K:Frag}{A:List Addr}{H:Hp}{Q3:K3}{Q:VK}{st:z7}{xs:List PV}{vs:List V}(k:w6 K A H Q3 Q)(rs:RS K A H st)(r:RVs K A H xs vs)(hz:vs.length<=sizeLine)(q:Q3 (.tup xs) st): ∀p,H p=none->Q (.ref p) (upd H p (.tup vs)):=
 λp hp=>k A _ st _ _ (.new hp) (rs.new hp) (.val (.tup (.inl ⟨.inl xC,rs.fresh hp⟩) hz (r.grow (.new hp)))) q
theorem w6.lst {K:Frag}{A:List Addr}{H:Hp}{Q3:K3}{Q:VK}{st:z7}{xs:List PV}{vs:List V}(k:w6 K A H Q3 Q)(rs:RS K A H st)(r:RVs K A H xs vs)(hz:vs.length<=sizeLine)(q:Q3 (.lst xs) st): ∀p,H p=none->Q (.ref p) (upd H p (.lst vs)):=
 λp hp=>k A _ st _ _ (.new hp) (rs.new hp) (.val (.lst (.inl ⟨.inl xC,rs.fresh hp⟩) hz (r.grow (.new hp)))) q
theorem zmJ:y1 X (binaryOp .Add) (λx y H Q=> ∃a b xs ys,x= .ref a/\y= .ref b/\yS X.K H a xs/\yS X.K H b ys/\xs.length+ys.length<=sizeLine/\∀p,H p=none->Q (.ref p) (upd H p (.lst (xs++ys)))):=by
 intro pins s σ H x y v u Q I rx ry h;obtain⟨a,b,xs,ys,rfl,rfl,ha,hb,hz,q⟩:=h;cases rx;cases ry;obtain⟨its,n,r1,e,_⟩:=I.listX ha;obtain⟨its2,n2,r2,e2,_⟩:=I.listX hb;have l1:=r1.length;have l2:=r2.length;refine PySem.P.add_list e e2 ?_ (by rw[List.size_toArray,List.size_toArray];omega);have ea:its.toArray++its2.toArray=(its++its2).toArray:=by simp
 rw[ea];exact⟨.ref _,_,I.lnew (t':=s.toks) (r1.append r2) (by rw[List.length_append];omega),rfl,q _ I.fresh⟩
theorem zY:y1 X (binaryOp .Add) (xA X.K n0):=uB λpins s σ H A st x y v w vv ww Q3 Q I rs ex ey rv rw h k=>by
 unfold n0 at h
 split at h
 ·cases yY ex;cases yY ey
  exact zmG pins s σ H _ _ vv ww Q I rv rw ⟨_,_,rfl,rfl,k.now rs (.val (.int _)) h⟩
 ·cases wJ ex;cases wJ ey
  exact zmH pins s σ H _ _ vv ww Q I rv rw ⟨_,_,rfl,rfl,h.1,k.now rs (.val (.str _)) h.2⟩
 ·cases ex with | val ex=>cases ey with | val ey=>cases ex with | tup t z r=>cases ey with | tup t2 z2 r2=>
   have hl:_:=h.1;rw[r.len,r2.len]at hl;refine zmI pins s σ H _ _ vv ww Q I rv rw ⟨_,_,_,_,rfl,rfl,t.sq,t2.sq,hl,λe=> ?_,λe=> ?_,k.tup rs (r.append r2) (by rw[List.length_append];exact hl) h.2⟩
   ·have e2:=r.nil_iff e
    subst e2;exact k.now rs (.val (.tup t2 z2 r2)) h.2
   ·have e2:=r2.nil_iff e
    subst e2;refine k.now rs (.val (.tup t z r)) ?_;have:=h.2;rw[List.append_nil]at this;exact this
 ·cases ex with | val ex=>cases ey with | val ey=>cases ex with | lst t z r=>cases ey with | lst t2 z2 r2=>
   have hl:_:=h.1;rw[r.len,r2.len]at hl;exact zmJ pins s σ H _ _ vv ww Q I rv rw ⟨_,_,_,_,rfl,rfl,t.sq,t2.sq,hl,k.lst rs (r.append r2) (by rw[List.length_append];exact hl) h.2⟩
 ·exact h.elim
end
mutual
def y3:PV->PV->Bool
 | .non,.non=>true
 | .bl a,.bl b=>a==b
 | .bl a,.int b=>(if a then 1 else 0)==b
 | .int a,.bl b=>a==(if b then 1 else 0)
 | .int a,.int b=>a==b
 | .str a,.str b=>a==b
 | .tup xs,.tup ys=>eqPs xs ys
 | .lst xs,.lst ys=>eqPs xs ys
 | _,_=>false
def eqPs:List PV->List PV->Bool
 | [],[]=>true
 | x::xs,y::ys=>y3 x y&&eqPs xs ys
 | _,_=>false
end
mutual
def zO:PV->Nat
 | .tup xs=>dpts xs+1
 | .lst xs=>dpts xs+1
 | .dct _=>1000
 | .itb _=>1000
 | .clo _=>1000
 | .ty _=>1000
 | .obj _=>1000
 | _=>0
def dpts:List PV->Nat
 | []=>0
 | x::xs=>max (zO x) (dpts xs)
end
theorem eG: ∀{xs:List PV} {i:Nat} {x:PV},xs[i]?=some x->zO x<=dpts xs
 | y::ys,0,x,h=>by simp at h;subst h;unfold dpts;exact Nat.le_max_left _ _
 | y::ys,i+1,x,h=>by
  have:=eG (xs:=ys) (i:=i) (x:=x) (by simpa using h);unfold dpts;exact Nat.le_trans this (Nat.le_max_right _ _)
mutual
theorem eK: ∀(x:PV),zO x < 1000->y3 x x=true
 | .non,_=>by unfold y3;rfl
 | .bl b,_=>by unfold y3;simp
 | .int i,_=>by unfold y3;simp
 | .str s,_=>by unfold y3;simp
 | .tup xs,h=>by unfold y3;exact eqPs_refl xs (by unfold zO at h;omega)
 | .lst xs,h=>by unfold y3;exact eqPs_refl xs (by unfold zO at h;omega)
 | .dct _,h=>by unfold zO at h;omega
 | .itb _,h=>by unfold zO at h;omega
 | .clo _,h=>by unfold zO at h;omega
 | .ty _,h=>by unfold zO at h;omega
 | .obj _,h=>by unfold zO at h;omega
theorem eqPs_refl: ∀(xs:List PV),dpts xs < 1000->eqPs xs xs=true
 | [],_=>by unfold eqPs;rfl
 | x::xs,h=>by
  unfold dpts at h;unfold eqPs;rw[eK x (by omega),eqPs_refl xs (by omega)];rfl
end
theorem j3: ∀(xs ys:List PV),eqPs xs ys=((List.range (min xs.length ys.length)).all (λj=>match xs[j]?,ys[j]? with | some x,some y=>y3 x y | _,_=>true)&&xs.length==ys.length)
 | [],[]=>by unfold eqPs;rfl
 | [],y::ys=>by unfold eqPs;simp
 | x::xs,[]=>by unfold eqPs;simp
 | x::xs,y::ys=>by
  unfold eqPs;rw[j3 xs ys];rw[List.length_cons,List.length_cons,Nat.succ_min_succ,List.range_succ_eq_map,List.all_cons,List.all_map];simp only[List.getElem?_cons_zero,Bool.and_assoc]
  congr 1
  have e:((λj=>match(x::xs)[j]?,(y::ys)[j]? with | some x,some y=>y3 x y | _,_=>true) ∘ Nat.succ)=λj=>match xs[j]?,ys[j]? with | some x,some y=>y3 x y | _,_=>true:=by
   funext j;simp
  rw[e]
  congr 1
  rw[Bool.eq_iff_iff];simp
section
variable {X:Cx} {pins:List (Addr×Obj)} {σ:St} {H:Hp} {s:Shared} {A:List Addr}
theorem z6.lst_tup (I:z6 X pins σ H s){a:Addr}{xs ys:List V}(h1:yS X.K H a xs)(h2:xQ X.K H a ys):False:=by
 obtain⟨its,_,p,_⟩:=I.list h1;obtain⟨its2,_,p2,_⟩:=I.tuple h2;exact SeqAt.ne_of_list_tuple p.isList p2 rfl
mutual
theorem RV.inj (I:z6 X pins σ H s){x y:PV}{v:V}(a:RV X.K A H x v)(b:RV X.K A H y v)(h1:zO x < 1000)(h2:zO y < 1000):x=y:=by
 cases a with
 | non=>cases b;rfl
 | bl _=>cases b;rfl
 | int _=>cases b;rfl
 | str _=>cases b;rfl
 | ty _=>cases b;rfl
 | tup t z r=>
  cases b with
  | tup t2 z2 r2=>
   have e:=I.tuple_inj t.sq t2.sq;subst e;rw[RVs.inj2 I r r2 (by unfold zO at h1;omega) (by unfold zO at h2;omega)]
  | lst t2 z2 r2=>exact(z6.lst_tup I t2.sq t.sq).elim
  | dct _ _ _=>unfold zO at h2;omega
  | itb _ _=>unfold zO at h2;omega
  | clo _=>unfold zO at h2;omega
 | lst t z r=>
  cases b with
  | lst t2 z2 r2=>
   have e:=I.list_inj t.sq t2.sq;subst e;rw[RVs.inj2 I r r2 (by unfold zO at h1;omega) (by unfold zO at h2;omega)]
  | tup t2 z2 r2=>exact(z6.lst_tup I t.sq t2.sq).elim
  | dct _ _ _=>unfold zO at h2;omega
  | itb _ _=>unfold zO at h2;omega
  | clo _=>unfold zO at h2;omega
 | dct _ _ _=>unfold zO at h1;omega
 | itb _ _=>unfold zO at h1;omega
 | clo _=>unfold zO at h1;omega
theorem RVs.inj2 (I:z6 X pins σ H s){xs ys:List PV}{vs:List V}(a:RVs X.K A H xs vs)(b:RVs X.K A H ys vs)(h1:dpts xs < 1000)(h2:dpts ys < 1000):xs=ys:=by
 cases a with
 | nil=>cases b;rfl
 | cons r t=>
  cases b with
  | cons r2 t2=>
   unfold dpts at h1 h2;rw[RV.inj I r r2 (by omega) (by omega),RVs.inj2 I t t2 (by omega) (by omega)]
end
theorem oJ {n:Nat}{B:Around}{xs ys:List PV}{vs ws:List V}{its its2:List Value}(rx:RVs X.K A H xs vs)(ry:RVs X.K A H ys ws)(r1:zI vs its)(r2:zI ws its2)
  (ih: ∀x y v w vv ww,zO x<=n->zO y < 1000->RV X.K A H x v->RV X.K A H y w->zL v vv->zL w ww->SeqAt.EqAt B s vv ww (y3 x y)) (hx:dpts xs<=n) (hy:dpts ys < 1000):
  ∀j (h1:j < its.toArray.size) (h2:j < its2.toArray.size),SeqAt.EqAt B s its.toArray[j] its2.toArray[j] ((λj=>match xs[j]?,ys[j]? with | some x,some y=>y3 x y | _,_=>true) j):=λj h1 h2=>by
 obtain⟨v,ev,rv⟩:=zi4 r1 h1;obtain⟨w,ew,rw'⟩:=zi4 r2 h2;obtain⟨x,ex,rx'⟩:=rx.get' ev;obtain⟨y,ey,ry'⟩:=ry.get' ew;show SeqAt.EqAt B s _ _ (match xs[j]?,ys[j]? with | some x,some y=>y3 x y | _,_=>true);rw[ex,ey];exact ih x y v w _ _ (Nat.le_trans (eG ex) hx) (Nat.lt_of_le_of_lt (eG ey) hy) rx' ry' rv rw'
def iO:PV->PV->Bool
 | .tup _,.tup _=>true
 | .lst _,.lst _=>true
 | _,_=>false
inductive Kd (s:Shared):PV->Value->Prop
 | non:Kd s .non .none
 | bl (b:Bool):Kd s (.bl b) (.bool b)
 | int (i:Int) (t:Tok):Kd s (.int i) (.int i t)
 | str (z:Str) (t:Tok):Kd s (.str z) (.str z t)
 | tup {xs:List PV} {a:Addr} {its:Array Value} :IsTup s.heap a its->Kd s (.tup xs) (.ref a)
 | lst {xs:List PV} {a:Addr} {its:Array Value} :s.heap.IsList a its->Kd s (.lst xs) (.ref a)
theorem rN (I:z6 X pins σ H s){x:PV}{v:V}{vv:Value}(rx:RV X.K A H x v)(rv:zL v vv)(h:zO x < 1000):Kd s x vv:=by
 cases rx with
 | non=>cases rv;exact .non
 | bl b=>cases rv;exact .bl b
 | int i=>obtain⟨t,rfl⟩:=rv;exact .int i t
 | str z=>obtain⟨t,rfl⟩:=rv;exact .str z t
 | ty n=>unfold zO at h;omega
 | tup t z r=>cases rv;obtain⟨its,_,p,_⟩:=I.tuple t.sq;exact .tup p
 | lst t z r=>cases rv;obtain⟨its,_,p,_⟩:=I.list t.sq;exact .lst p.isList
 | dct t z r=>unfold zO at h;omega
 | itb _ _=>unfold zO at h;omega
 | clo _=>unfold zO at h;omega
local macro_rules | `(tactic| exact?)=> `(tactic| simp only[y3,Bool.not_false,Bool.not_true])
open SeqAt in
theorem zdY {B:Around}(hu:B.units < cLine): ∀{x y:PV} {vv ww:Value},Kd s x vv->Kd s y ww->iO x y=false->EqAt B s vv ww (y3 x y)
 | _,_,_,_,.non,.non,_=>by exact?;exact EqAt.same _
 | _,_,_,_,.non,.bl b,_=>by exact?;exact EqAt.none_bool _
 | _,_,_,_,.non,.int b b2,_=>by exact?;exact EqAt.none_int _ _
 | _,_,_,_,.non,.str b b2,_=>by exact?;exact EqAt.none_str _ _
 | _,_,_,_,.non,.tup b,_=>by exact?;exact EqAt.none_tuple b hu
 | _,_,_,_,.non,.lst b,_=>by exact?;exact EqAt.none_list b hu
 | _,_,_,_,.bl a,.non,_=>by exact?;exact EqAt.bool_none _
 | _,_,_,_,.bl a,.bl b,_=>by exact?;exact EqAt.bool_bool _ _
 | _,_,_,_,.bl a,.int b b2,_=>by exact?;exact EqAt.bool_int _ _ _
 | _,_,_,_,.bl a,.str b b2,_=>by exact?;exact EqAt.bool_str _ _ _
 | _,_,_,_,.bl a,.tup b,_=>by exact?;exact EqAt.bool_tuple _ b hu
 | _,_,_,_,.bl a,.lst b,_=>by exact?;exact EqAt.bool_list _ b hu
 | _,_,_,_,.int a a2,.non,_=>by exact?;exact EqAt.int_none _ _
 | _,_,_,_,.int a a2,.bl b,_=>by exact?;exact EqAt.int_bool _ _ _
 | _,_,_,_,.int a a2,.int b b2,_=>by exact?;exact EqAt.int_int _ _ _ _
 | _,_,_,_,.int a a2,.str b b2,_=>by exact?;exact EqAt.int_str _ _ _ _
 | _,_,_,_,.int a a2,.tup b,_=>by exact?;exact EqAt.int_tuple _ _ b hu
 | _,_,_,_,.int a a2,.lst b,_=>by exact?;exact EqAt.int_list _ _ b hu
 | _,_,_,_,.str a a2,.non,_=>by exact?;exact EqAt.str_none _ _
 | _,_,_,_,.str a a2,.bl b,_=>by exact?;exact EqAt.str_bool _ _ _
 | _,_,_,_,.str a a2,.int b b2,_=>by exact?;exact EqAt.str_int _ _ _ _
 | _,_,_,_,.str a a2,.str b b2,_=>by exact?;exact EqAt.str_str _ _ _ _
 | _,_,_,_,.str a a2,.tup b,_=>by exact?;exact EqAt.str_tuple _ _ b hu
 | _,_,_,_,.str a a2,.lst b,_=>by exact?;exact EqAt.str_list _ _ b hu
 | _,_,_,_,.tup a,.non,_=>by exact?;exact EqAt.tuple_none a hu
 | _,_,_,_,.tup a,.bl b,_=>by exact?;exact EqAt.tuple_bool _ a hu
 | _,_,_,_,.tup a,.int b b2,_=>by exact?;exact EqAt.tuple_int _ _ a hu
 | _,_,_,_,.tup a,.str b b2,_=>by exact?;exact EqAt.tuple_str _ _ a hu
 | _,_,_,_,.tup _,.tup _,h=>Bool.noConfusion h
 | _,_,_,_,.tup a,.lst b,_=>by exact?;exact EqAt.tuple_list a b hu
 | _,_,_,_,.lst a,.non,_=>by exact?;exact EqAt.list_none a hu
 | _,_,_,_,.lst a,.bl b,_=>by exact?;exact EqAt.list_bool _ a hu
 | _,_,_,_,.lst a,.int b b2,_=>by exact?;exact EqAt.list_int _ _ a hu
 | _,_,_,_,.lst a,.str b b2,_=>by exact?;exact EqAt.list_str _ _ a hu
 | _,_,_,_,.lst a,.tup b,_=>by exact?;exact EqAt.list_tuple a b hu
 | _,_,_,_,.lst _,.lst _,h=>Bool.noConfusion h
open SeqAt in
theorem zoI {B:Around}(hu:B.units < cLine): ∀{x y:PV} {vv ww:Value},Kd s x vv->Kd s y ww->iO x y=false->RcAt B s vv ww (y3 x y)
 | _,_,_,_,.non,.non,_=>by exact?;exact RcAt.none_none
 | _,_,_,_,.non,.bl b,_=>by exact?;exact RcAt.none_bool _
 | _,_,_,_,.non,.int b b2,_=>by exact?;exact RcAt.none_int _ _
 | _,_,_,_,.non,.str b b2,_=>by exact?;exact RcAt.none_str _ _
 | _,_,_,_,.non,.tup b,_=>by exact?;exact RcAt.none_tuple b hu
 | _,_,_,_,.non,.lst b,_=>by exact?;exact RcAt.none_list b hu
 | _,_,_,_,.bl a,.non,_=>by exact?;exact RcAt.bool_none _
 | _,_,_,_,.bl a,.bl b,_=>by exact?;exact RcAt.bool_bool _ _
 | _,_,_,_,.bl a,.int b b2,_=>by exact?;exact RcAt.bool_int _ _ _
 | _,_,_,_,.bl a,.str b b2,_=>by exact?;exact RcAt.bool_str _ _ _
 | _,_,_,_,.bl a,.tup b,_=>by exact?;exact RcAt.bool_tuple _ b hu
 | _,_,_,_,.bl a,.lst b,_=>by exact?;exact RcAt.bool_list _ b hu
 | _,_,_,_,.int a a2,.non,_=>by exact?;exact RcAt.int_none _ _
 | _,_,_,_,.int a a2,.bl b,_=>by exact?;exact RcAt.int_bool _ _ _
 | _,_,_,_,.int a a2,.int b b2,_=>by exact?;exact RcAt.int_int _ _ _ _
 | _,_,_,_,.int a a2,.str b b2,_=>by exact?;exact RcAt.int_str _ _ _ _
 | _,_,_,_,.int a a2,.tup b,_=>by exact?;exact RcAt.int_tuple _ _ b hu
 | _,_,_,_,.int a a2,.lst b,_=>by exact?;exact RcAt.int_list _ _ b hu
 | _,_,_,_,.str a a2,.non,_=>by exact?;exact RcAt.str_none _ _
 | _,_,_,_,.str a a2,.bl b,_=>by exact?;exact RcAt.str_bool _ _ _
 | _,_,_,_,.str a a2,.int b b2,_=>by exact?;exact RcAt.str_int _ _ _ _
 | _,_,_,_,.str a a2,.str b b2,_=>by exact?;exact RcAt.str_str _ _ _ _
 | _,_,_,_,.str a a2,.tup b,_=>by exact?;exact RcAt.str_tuple _ _ b hu
 | _,_,_,_,.str a a2,.lst b,_=>by exact?;exact RcAt.str_list _ _ b hu
 | _,_,_,_,.tup a,.non,_=>by exact?;exact RcAt.tuple_none a hu
 | _,_,_,_,.tup a,.bl b,_=>by exact?;exact RcAt.tuple_bool _ a hu
 | _,_,_,_,.tup a,.int b b2,_=>by exact?;exact RcAt.tuple_int _ _ a hu
 | _,_,_,_,.tup a,.str b b2,_=>by exact?;exact RcAt.tuple_str _ _ a hu
 | _,_,_,_,.tup _,.tup _,h=>Bool.noConfusion h
 | _,_,_,_,.tup a,.lst b,_=>by exact?;exact RcAt.tuple_list a b hu
 | _,_,_,_,.lst a,.non,_=>by exact?;exact RcAt.list_none a hu
 | _,_,_,_,.lst a,.bl b,_=>by exact?;exact RcAt.list_bool _ a hu
 | _,_,_,_,.lst a,.int b b2,_=>by exact?;exact RcAt.list_int _ _ a hu
 | _,_,_,_,.lst a,.str b b2,_=>by exact?;exact RcAt.list_str _ _ a hu
 | _,_,_,_,.lst a,.tup b,_=>by exact?;exact RcAt.list_tuple a b hu
 | _,_,_,_,.lst _,.lst _,h=>Bool.noConfusion h
open SeqAt in
theorem zoL {B:Around}(hu:B.units < cLine): ∀{x y:PV} {vv ww:Value},Kd s x vv->Kd s y ww->iO x y=false->RcNeAt B s vv ww (!y3 x y)
 | _,_,_,_,.non,.non,_=>by exact?;exact RcNeAt.none_none
 | _,_,_,_,.non,.bl b,_=>by exact?;exact RcNeAt.none_bool _
 | _,_,_,_,.non,.int b b2,_=>by exact?;exact RcNeAt.none_int _ _
 | _,_,_,_,.non,.str b b2,_=>by exact?;exact RcNeAt.none_str _ _
 | _,_,_,_,.non,.tup b,_=>by exact?;exact RcNeAt.none_tuple b hu
 | _,_,_,_,.non,.lst b,_=>by exact?;exact RcNeAt.none_list b hu
 | _,_,_,_,.bl a,.non,_=>by exact?;exact RcNeAt.bool_none _
 | _,_,_,_,.bl a,.bl b,_=>by exact?;exact RcNeAt.bool_bool _ _
 | _,_,_,_,.bl a,.int b b2,_=>by exact?;exact RcNeAt.bool_int _ _ _
 | _,_,_,_,.bl a,.str b b2,_=>by exact?;exact RcNeAt.bool_str _ _ _
 | _,_,_,_,.bl a,.tup b,_=>by exact?;exact RcNeAt.bool_tuple _ b hu
 | _,_,_,_,.bl a,.lst b,_=>by exact?;exact RcNeAt.bool_list _ b hu
 | _,_,_,_,.int a a2,.non,_=>by exact?;exact RcNeAt.int_none _ _
 | _,_,_,_,.int a a2,.bl b,_=>by exact?;exact RcNeAt.int_bool _ _ _
 | _,_,_,_,.int a a2,.int b b2,_=>by exact?;exact RcNeAt.int_int _ _ _ _
 | _,_,_,_,.int a a2,.str b b2,_=>by exact?;exact RcNeAt.int_str _ _ _ _
 | _,_,_,_,.int a a2,.tup b,_=>by exact?;exact RcNeAt.int_tuple _ _ b hu
 | _,_,_,_,.int a a2,.lst b,_=>by exact?;exact RcNeAt.int_list _ _ b hu
 | _,_,_,_,.str a a2,.non,_=>by exact?;exact RcNeAt.str_none _ _
 | _,_,_,_,.str a a2,.bl b,_=>by exact?;exact RcNeAt.str_bool _ _ _
 | _,_,_,_,.str a a2,.int b b2,_=>by exact?;exact RcNeAt.str_int _ _ _ _
 | _,_,_,_,.str a a2,.str b b2,_=>by exact?;exact RcNeAt.str_str _ _ _ _
 | _,_,_,_,.str a a2,.tup b,_=>by exact?;exact RcNeAt.str_tuple _ _ b hu
 | _,_,_,_,.str a a2,.lst b,_=>by exact?;exact RcNeAt.str_list _ _ b hu
 | _,_,_,_,.tup a,.non,_=>by exact?;exact RcNeAt.tuple_none a hu
 | _,_,_,_,.tup a,.bl b,_=>by exact?;exact RcNeAt.tuple_bool _ a hu
 | _,_,_,_,.tup a,.int b b2,_=>by exact?;exact RcNeAt.tuple_int _ _ a hu
 | _,_,_,_,.tup a,.str b b2,_=>by exact?;exact RcNeAt.tuple_str _ _ a hu
 | _,_,_,_,.tup _,.tup _,h=>Bool.noConfusion h
 | _,_,_,_,.tup a,.lst b,_=>by exact?;exact RcNeAt.tuple_list a b hu
 | _,_,_,_,.lst a,.non,_=>by exact?;exact RcNeAt.list_none a hu
 | _,_,_,_,.lst a,.bl b,_=>by exact?;exact RcNeAt.list_bool _ a hu
 | _,_,_,_,.lst a,.int b b2,_=>by exact?;exact RcNeAt.list_int _ _ a hu
 | _,_,_,_,.lst a,.str b b2,_=>by exact?;exact RcNeAt.list_str _ _ a hu
 | _,_,_,_,.lst a,.tup b,_=>by exact?;exact RcNeAt.list_tuple a b hu
 | _,_,_,_,.lst _,.lst _,h=>Bool.noConfusion h
theorem zcx (x y:PV):iO x y=false∨(∃xs ys,x= .tup xs/\y= .tup ys)∨∃xs ys,x= .lst xs/\y= .lst ys:=by
 cases x <;> cases y <;> first | exact .inl rfl | exact .inr (.inl ⟨_,_,rfl,rfl⟩) | exact .inr (.inr ⟨_,_,rfl,rfl⟩)
theorem zcj {xs ys:List PV}{n m:Nat}(h1:xs.length=n)(h2:ys.length=m):((List.range (min n m)).all (λj=>match xs[j]?,ys[j]? with | some x,some y=>y3 x y | _,_=>true)&&n==m)=eqPs xs ys:=by
 subst h1 h2;exact(j3 xs ys).symm
theorem zck {xs ys:List PV}{n m:Nat}(h1:xs.length=n)(h2:ys.length=m)(h:n=m):(List.range n).all (λj=>match xs[j]?,ys[j]? with | some x,some y=>y3 x y | _,_=>true)=eqPs xs ys:=by
 rw[j3,h1,h2,<- h,Nat.min_self];simp
theorem eL {xs ys:List PV}(h:xs.length≠ys.length):eqPs xs ys=false:=by
 rw[j3];simp[h]
theorem j5 (I:z6 X pins σ H s): ∀(n:Nat) (B:Around) (x y:PV) (v w:V) (vv ww:Value),B.units+n < cLine->zO x<=n->n < 1000->zO y < 1000->RV X.K A H x v->RV X.K A H y w->zL v vv->zL w ww->SeqAt.EqAt B s vv ww (y3 x y):=by
 intro n
 induction n with
 | zero=>
  intro B x y v w vv ww hu hx hn hy rx ry rv rw;refine zdY (by omega) (rN I rx rv (by omega)) (rN I ry rw hy) ?_;cases x <;> first | (unfold zO at hx;omega) | rfl
 | succ n ih=>
  intro B x y v w vv ww hu hx hn hy rx ry rv rw;rcases zcx x y with h | ⟨xs,ys,rfl,rfl⟩ | ⟨xs,ys,rfl,rfl⟩
  ·exact zdY (by omega) (rN I rx rv (by omega)) (rN I ry rw hy) h
  ·cases rx with | tup t z r=>cases ry with | tup t2 z2 r2=>
    rename_i a vs b ws;cases rv;cases rw;by_cases hab:a=b
    ·subst hab
     have e:=RV.inj I (.tup t z r) (.tup t2 z2 r2) (by omega) hy;rw[e,eK _ hy];exact SeqAt.EqAt.same _
    ·obtain⟨its,r3,p,_⟩:=I.tuple t.sq
     obtain⟨its2,r4,p2,_⟩:=I.tuple t2.sq;have hh:=SeqAt.RcAt.tuples (A:=B) (show s.heap.IsTuple a its.toArray from p) (show s.heap.IsTuple b its2.toArray from p2) (by omega) (oJ r r2 r3 r4 (λx y v w vv ww h1 h2=>ih B.in1 x y v w vv ww (by show B.units+1+n < cLine;omega) h1 (by omega) h2) (by unfold zO at hx;omega) (by unfold zO at hy;omega));rw[zcj (by rw[r.len,r3.length];simp) (by rw[r2.len,r4.length];simp)]at hh;unfold y3;exact SeqAt.EqAt.of_refs hab hh
  ·cases rx with | lst t z r=>cases ry with | lst t2 z2 r2=>
    rename_i a vs b ws;cases rv;cases rw;by_cases hab:a=b
    ·subst hab
     have e:=RV.inj I (.lst t z r) (.lst t2 z2 r2) (by omega) hy;rw[e,eK _ hy];exact SeqAt.EqAt.same _
    ·obtain⟨its,r3,p,_⟩:=I.list t.sq
     obtain⟨its2,r4,p2,_⟩:=I.list t2.sq;have l1:xs.length=its.toArray.size:=by rw[r.len,r3.length];simp
     have l2:ys.length=its2.toArray.size:=by rw[r2.len,r4.length];simp
     unfold y3;refine SeqAt.EqAt.of_refs hab ?_;by_cases hl:its.toArray.size=its2.toArray.size
     ·have hh:=SeqAt.RcAt.lists (A:=B) p.isList p2.isList hl (by omega) (oJ r r2 r3 r4 (λx y v w vv ww h1 h2=>ih B.in1 x y v w vv ww (by show B.units+1+n < cLine;omega) h1 (by omega) h2) (by unfold zO at hx;omega) (by unfold zO at hy;omega))
      rw[zck l1 l2 hl]at hh;exact hh
     ·rw[eL (by omega)]
      exact SeqAt.RcAt.lists_lengths p.isList p2.isList (by simpa using hl) (by omega)
def zbT:R3:=λx y st Q=>(zO x<=50/\zO y < 1000)/\Q (.bl (y3 x y)) st
def zhq:R3:=λx y st Q=>(zO x<=50/\zO y < 1000)/\Q (.bl (!y3 x y)) st
theorem jN {x:PV}(h:zO x < 1000):yG x=true:=by
 cases x <;> first | rfl | (unfold zO at h;omega)
theorem xE {k:Nat}(hr:zF k X.A):y1 X (compareOp .Eq) (xA X.K zbT):=uB λpins s σ H A st x y v w vv ww Q3 Q I rs ex ey rv rw h k=>by
 obtain⟨⟨h1,h2⟩,h⟩:=h;have hu:=hr.units;have rx:=ex.rv (jN (by omega));have ry:=ey.rv (jN h2);have fin: ∀b,b=y3 x y->EP X pins σ Q (.bool b) s:=λb e=>⟨.bl b,H,I,rfl,by rw[e];exact k.now rs (.val (.bl _)) h⟩;rcases zcx x y with hn | ⟨xs,ys,rfl,rfl⟩ | ⟨xs,ys,rfl,rfl⟩
 ·exact zoI (by omega) (rN I rx rv (by omega)) (rN I ry rw h2) hn _ _ _ _ (fin _ rfl)
 ·cases rx with | tup t z r=>cases ry with | tup t2 z2 r2=>
   cases rv;cases rw;obtain⟨its,r3,p,_⟩:=I.tuple t.sq;obtain⟨its2,r4,p2,_⟩:=I.tuple t2.sq;refine SeqAt.RcAt.tuples (show s.heap.IsTuple _ its.toArray from p) (show s.heap.IsTuple _ its2.toArray from p2) (by omega) (oJ (n:=50) r r2 r3 r4 (λx y v w vv ww h1 h2=>j5 I 50 X.A.in1 x y v w vv ww (by show X.A.units+1+50 < cLine;omega) h1 (by omega) h2) (by unfold zO at h1;omega) (by unfold zO at h2;omega)) _ _ _ _ (fin _ ?_);rw[zcj (by rw[r.len,r3.length];simp) (by rw[r2.len,r4.length];simp)];unfold y3;rfl
 ·cases rx with | lst t z r=>cases ry with | lst t2 z2 r2=>
   cases rv;cases rw;obtain⟨its,r3,p,_⟩:=I.list t.sq;obtain⟨its2,r4,p2,_⟩:=I.list t2.sq;have l1:xs.length=its.toArray.size:=by rw[r.len,r3.length];simp
   have l2:ys.length=its2.toArray.size:=by rw[r2.len,r4.length];simp
   by_cases hl:its.toArray.size=its2.toArray.size
   ·refine SeqAt.RcAt.lists p.isList p2.isList hl (by omega) (oJ (n:=50) r r2 r3 r4 (λx y v w vv ww h1 h2=>j5 I 50 X.A.in1 x y v w vv ww (by show X.A.units+1+50 < cLine;omega) h1 (by omega) h2) (by unfold zO at h1;omega) (by unfold zO at h2;omega)) _ _ _ _ (fin _ ?_)
    rw[zck l1 l2 hl];unfold y3;rfl
   ·refine SeqAt.RcAt.lists_lengths p.isList p2.isList (by simpa using hl) (by omega) _ _ _ _ (fin _ ?_)
    unfold y3;rw[eL (by omega)]
theorem mZ {k:Nat}(hr:zF k X.A):y1 X (compareOp .NotEq) (xA X.K zhq):=uB λpins s σ H A st x y v w vv ww Q3 Q I rs ex ey rv rw h k=>by
 obtain⟨⟨h1,h2⟩,h⟩:=h;have hu:=hr.units;have rx:=ex.rv (jN (by omega));have ry:=ey.rv (jN h2);have fin: ∀b,b= !y3 x y->EP X pins σ Q (.bool b) s:=λb e=>⟨.bl b,H,I,rfl,by rw[e];exact k.now rs (.val (.bl _)) h⟩;rcases zcx x y with hn | ⟨xs,ys,rfl,rfl⟩ | ⟨xs,ys,rfl,rfl⟩
 ·exact zoL (by omega) (rN I rx rv (by omega)) (rN I ry rw h2) hn _ _ _ _ (fin _ rfl)
 ·cases rx with | tup t z r=>cases ry with | tup t2 z2 r2=>
   cases rv;cases rw;obtain⟨its,r3,p,_⟩:=I.tuple t.sq;obtain⟨its2,r4,p2,_⟩:=I.tuple t2.sq;refine(SeqAt.RcNeAt.tuples (show s.heap.IsTuple _ its.toArray from p) (show s.heap.IsTuple _ its2.toArray from p2) (by omega) (oJ (n:=50) r r2 r3 r4 (λx y v w vv ww h1 h2=>j5 I 50 X.A.in1 x y v w vv ww (by show X.A.units+1+50 < cLine;omega) h1 (by omega) h2) (by unfold zO at h1;omega) (by unfold zO at h2;omega))) _ _ _ _ (fin _ ?_);rw[zcj (by rw[r.len,r3.length];simp) (by rw[r2.len,r4.length];simp)];unfold y3;rfl
 ·cases rx with | lst t z r=>cases ry with | lst t2 z2 r2=>
   cases rv;cases rw;obtain⟨its,r3,p,_⟩:=I.list t.sq;obtain⟨its2,r4,p2,_⟩:=I.list t2.sq;have l1:xs.length=its.toArray.size:=by rw[r.len,r3.length];simp
   have l2:ys.length=its2.toArray.size:=by rw[r2.len,r4.length];simp
   by_cases hl:its.toArray.size=its2.toArray.size
   ·refine(SeqAt.RcNeAt.lists p.isList p2.isList hl (by omega) (oJ (n:=50) r r2 r3 r4 (λx y v w vv ww h1 h2=>j5 I 50 X.A.in1 x y v w vv ww (by show X.A.units+1+50 < cLine;omega) h1 (by omega) h2) (by unfold zO at h1;omega) (by unfold zO at h2;omega))) _ _ _ _ (fin _ ?_)
    rw[zck l1 l2 hl];unfold y3;rfl
   ·refine(SeqAt.RcNeAt.lists_lengths p.isList p2.isList (by simpa using hl) (by omega)) _ _ _ _ (fin _ ?_)
    unfold y3;rw[eL (by omega)];rfl
end
def x8 (kvs:List (zC×PV))(k:zC):Option PV:=(kvs.find? λkv=>decide (kv.1=k)).map (·.2)
def vM (kvs:List (zC×PV))(k:zC)(v:PV):List (zC×PV):=
 if(kvs.any λkv=>decide (kv.1=k))=true then kvs.map (λkv=>if kv.1=k then(kv.1,v)else kv)else kvs++ [(k,v)]
def wU:PV->Option zC
 | .int i=>some (.inl i)
 | .str x=>some (.inr x)
 | _=>none
section
variable {K:Frag} {A:List Addr} {H:Hp}
theorem RKs.val {k:zC} : ∀{kvs:List (zC×PV)} {us:List (zC×V)},RKs K A H kvs us->(∃x v,x8 kvs k=some x/\vW us k=some v/\RV K A H x v)∨(x8 kvs k=none/\vW us k=none)
 | _,_,.nil=> .inr ⟨rfl,rfl⟩
 | _,_,.cons (k:=k') (x:=x) (v:=v) (xs:=xs) (vs:=vs) r t=>by
  by_cases e:k'=k
  ·refine .inl ⟨x,v,?_,?_,r⟩
   ·unfold x8;rw[List.find?_cons,decide_eq_true e];rfl
   ·exact gA e
  ·have e1:x8 ((k',x)::xs) k=x8 xs k:=by unfold x8;rw[List.find?_cons,decide_eq_false e]
   have e2:vW ((k',v)::vs) k=vW vs k:=g9 e;rw[e1,e2];exact RKs.val t
theorem RKs.any {k:zC} : ∀{kvs:List (zC×PV)} {us:List (zC×V)},RKs K A H kvs us->(us.any λkv=>decide (kv.1=k))=(kvs.any λkv=>decide (kv.1=k))
 | _,_,.nil=>rfl
 | _,_,.cons r t=>by rw[List.any_cons,List.any_cons,RKs.any t]
theorem RKs.map {k:zC}{x:PV}{v:V}(r:RV K A H x v): ∀{kvs:List (zC×PV)} {us:List (zC×V)},RKs K A H kvs us->RKs K A H (kvs.map λkv=>if kv.1=k then(kv.1,x)else kv) (us.map λkv=>if kv.1=k then(kv.1,v)else kv)
 | _,_,.nil=> .nil
 | _,_,.cons (k:=k') r' t=>by
  rw[List.map_cons,List.map_cons];by_cases e:k'=k
  ·rw[if_pos e,if_pos e];exact .cons r (RKs.map r t)
  ·rw[if_neg e,if_neg e];exact .cons r' (RKs.map r t)
theorem RKs.append: ∀{a b:List (zC×PV)} {c d:List (zC×V)},RKs K A H a c->RKs K A H b d->RKs K A H (a++b) (c++d)
 | _,_,_,_,.nil,h=>h
 | _,_,_,_,.cons r t,h=> .cons r (RKs.append t h)
theorem RKs.put {k:zC}{x:PV}{v:V}(r:RV K A H x v){kvs:List (zC×PV)}{us:List (zC×V)}(h:RKs K A H kvs us):RKs K A H (vM kvs k x) (wX us k v):=by
 unfold vM wX;rw[h.any]
 split
 ·exact h.map r
 ·exact h.append (.cons r .nil)
theorem rO {y:PV}{w:V}{k:zC}(e:RE K A H y w)(h:wU y=some k):w=kV k:=by
 cases e with
 | obj e=>cases h
 | val e=>cases e <;> first | cases h;rfl | cases h
end
section
variable {X:Cx} {a b e:Expr} {es:List Expr} {pos p2:Pos} {Ta Tb:zA} {TA:y2}
def pO:R3:=λx y st Q=>match x with
 | .tup xs=>match y with | .int i=>(match atI xs i with | some z=>Q z st | none=>False) | _=>False
 | .lst xs=>match y with | .int i=>(match atI xs i with | some z=>Q z st | none=>False) | _=>False
 | .str z=>match y with | .int i=>z.length<=sizeLine/\(match atI z.cps.toList i with | some c=>Q (.str ⟨#[c]⟩) st | none=>False) | _=>False
 | .dct kvs=>(match wU y with | some k=>(match x8 kvs k with | some z=>Q z st | none=>False) | none=>False)
 | .obj n=>(match st[n]? with
  | some (.lst xs)=>(match y with | .int i=>(match atI xs i with | some z=>Q z st | none=>False) | _=>False)
  | some (.dct kvs)=>(match wU y with | some k=>(match x8 kvs k with | some z=>Q z st | none=>False) | none=>False)
  | _=>False)
 | _=>False
theorem RVs.atI {K:Frag}{A:List Addr}{H:Hp}{xs:List PV}{vs:List V}{i:Int}{x:PV}(r:RVs K A H xs vs)(h:L2.atI xs i=some x): ∃v,L2.atI vs i=some v/\RV K A H x v:=by
 unfold L2.atI at h⊢
 rw[<- r.len];cases e:wN xs.length i with
 | none=>rw[e]at h;cases h
 | some j=>rw[e]at h;exact r.get h
theorem zfT {k:Nat}(hr:zF k X.A):qK X (λx y H Q=> ∃a v,x= .ref a/\qF H a y (some v)/\Q v H):=by
 intro value slice pins s σ H x y vv ww Q I rx ry h hs;obtain⟨a,v,rfl,g,q⟩:=h;cases rx;have hT:=zka I g;unfold subscriptTail;refine wpAny_bind ?_;rw[getitemInPython_of_ne hT.not_modules];refine wpAny_bind (wpAny_specialOf hT PySem.F.slot_dict_getitem.lookup ?_);have fin:wpAny (model X.prog X.w) X.A (subscripted slice false (.ref a) ww) (λr s₃=>wpAny (model X.prog X.w) X.A (letTemporaryGo value (.ref a) r >>= λ_=>pure r) (EP X pins σ Q) X.xe s₃) X.xe s:=by
  rw[hs];exact wpAny_operating (zjP (by have:=hr.units;omega) I g ry λw' s3 I3 rw'=>wpAny_bind (wpAny_letTemporaryGo (wpAny_pure ⟨v,H,I3,rw',q⟩)))
 first
  | exact wpAny_pure (wpAny_bind fin)
  | exact wpAny_bind (wpAny_pure (wpAny_bind fin))
  | exact wpAny_bind fin
theorem x5 {k:Nat}(hr:zF k X.A):qK X (xA X.K pO):=by
 intro value slice pins s σ H v w vv ww Q I rv rw ⟨A,st,x,y,Q3,rs,ex,ey,h,k⟩ hs;unfold pO at h
 split at h
 ·-- tuples
  cases ex with | val ex=>cases ex with | tup t z r=>
   split at h
   ·cases yY ey
    split at h
    ·rename_i i q z' e
     obtain⟨v',e',r'⟩:=r.atI e;exact zlc value slice pins s σ H _ _ vv ww Q I rv rw ⟨_,_,_,_,rfl,rfl,t.sq,e',k.now rs (.val r') h⟩ hs
    ·exact h.elim
   ·exact h.elim
 ·cases ex with | val ex=>cases ex with | lst t z r=>
   split at h
   ·cases yY ey
    split at h
    ·rename_i i q z' e
     obtain⟨v',e',r'⟩:=r.atI e;exact zfU value slice pins s σ H _ _ vv ww Q I rv rw ⟨_,_,_,_,rfl,rfl,t.sq,e',k.now rs (.val r') h⟩ hs
    ·exact h.elim
   ·exact h.elim
 ·cases wJ ex
  split at h
  ·cases yY ey
   obtain⟨hz,h⟩:=h
   split at h
   ·rename_i i q c e
    exact zlb value slice pins s σ H _ _ vv ww Q I rv rw ⟨_,_,_,rfl,rfl,hz,e,k.now rs (.val (.str _)) h⟩ hs
   ·exact h.elim
  ·exact h.elim
 ·cases ex with | val ex=>cases ex with | dct t z r=>
   split at h
   ·rename_i kk ek
    split at h
    ·rename_i z' e
     rcases r.val (k:=kk)with⟨x',v',e1,e2,r'⟩ | ⟨e1,e2⟩
     ·rw[e]at e1;cases e1
      exact zfT hr value slice pins s σ H _ _ vv ww Q I rv rw ⟨_,v',rfl,.inl ⟨_,kk,.inl t.1,rO ey ek,e2.symm⟩,k.now rs (.val r') h⟩ hs
     ·rw[e]at e1;cases e1
    ·exact h.elim
   ·exact h.elim
 ·cases ex with
  | val ex=>cases ex
  | obj eo=>
   split at h
   ·rename_i n xs q
    obtain⟨vs,h1,r,hzz⟩:=rs.at_ _ _ _ eo q
    split at h
    ·cases yY ey
     split at h
     ·rename_i i q z' e
      obtain⟨v',e',r'⟩:=r.atI e;exact zfU value slice pins s σ H _ _ vv ww Q I rv rw ⟨_,_,_,_,rfl,rfl,.of h1,e',k.now rs (.val r') h⟩ hs
     ·exact h.elim
    ·exact h.elim
   ·rename_i n kvs q
    obtain⟨us,h1,r,hzz⟩:=rs.at_ _ _ _ eo q
    split at h
    ·rename_i kk ek
     split at h
     ·rename_i z' e
      rcases r.val (k:=kk)with⟨x',v',e1,e2,r'⟩ | ⟨e1,e2⟩
      ·rw[e]at e1;cases e1
       exact zfT hr value slice pins s σ H _ _ vv ww Q I rv rw ⟨_,v',rfl,.inl ⟨_,kk,.inl h1,rO ey ek,e2.symm⟩,k.now rs (.val r') h⟩ hs
      ·rw[e]at e1;cases e1
     ·exact h.elim
    ·exact h.elim
   ·exact h.elim
 ·exact h.elim
def lG:PV->PV->PV->z7->(z7->Prop)->Prop:=λo i v st Q=>match o with
 | .obj n=>(match st[n]? with
  | some (.lst xs)=>(match i with | .int k=>yG v=true/\(match wN xs.length k with | some j=>Q (st.set n (.lst (xs.set j v))) | none=>False) | _=>False)
  | some (.dct kvs)=>(match wU i with | some k=>yG v=true/\kvs.length < sizeLine/\Q (st.set n (.dct (vM kvs k v))) | none=>False)
  | _=>False)
 | _=>False
def zj9 (K:Frag):V->V->V->Hp->(Hp->Prop)->Prop:=λo i v H Q=> ∃A st x y z Q3,RS K A H st/\RE K A H x o/\RE K A H y i/\RE K A H z v/\lG x y z st Q3/\∀A' H' st',zV A H A' H'->RS K A' H' st'->Q3 st'->Q H'
theorem RVs.set {K:Frag}{A:List Addr}{H:Hp}{x:PV}{v:V}(rx:RV K A H x v): ∀{xs:List PV} {vs:List V} (j:Nat),RVs K A H xs vs->RVs K A H (xs.set j x) (vs.set j v)
 | _,_,_,.nil=> .nil
 | _,_,0,.cons _ t=> .cons rx t
 | _,_,j+1,.cons r t=> .cons r (RVs.set rx j t)
theorem zoW {k:Nat}(hr:zF k X.A):gQ X (zj9 X.K):=by
 intro pins s σ H o i v ov iv u Q I ro ri rv ⟨A,st,x,y,z,Q3,rs,ex,ey,ez,h,k⟩;unfold lG at h
 split at h
 ·cases ex with
  | val ex=>cases ex
  | obj eo=>
   have hm:=List.mem_of_getElem? eo
   split at h
   ·rename_i n xs q
    obtain⟨vs,h1,r,hzz⟩:=rs.at_ _ _ _ eo q
    split at h
    ·cases yY ey
     obtain⟨hz,h⟩:=h
     split at h
     ·rename_i kk q2 j e
      rw[r.len]at e;exact zpp pins s σ H _ _ _ ov iv u Q I ro ri rv ⟨_,vs,_,j,rfl,rfl,h1,e,k A _ _ (.put hm) (rs.put (q:= .lst (xs.set j z)) eo ⟨_,xC,RVs.set ((ez.rv hz).grow (.put hm)) j (r.grow (.put hm)),by rw[List.length_set];exact hzz⟩) h⟩
     ·exact h.elim
    ·exact h.elim
   ·rename_i n kvs q
    obtain⟨us,h1,r,hzz⟩:=rs.at_ _ _ _ eo q
    split at h
    ·rename_i kk ek
     obtain⟨hz,hl,h⟩:=h;cases ro;refine zjT (by have:=hr.units;omega) I (.inl ⟨us,kk,h1,rO ey ek,by rw[<- r.len];exact hl,rfl⟩) ri rv λs' I'=>⟨_,I',k A _ _ (.put hm) (rs.put (q:= .dct (vM kvs kk z)) eo ⟨_,xC,RKs.put ((ez.rv hz).grow (.put hm)) (r.grow (.put hm)),Nat.le_trans (jH us kk v) (by rw[<- r.len];exact hl)⟩) h⟩
    ·exact h.elim
   ·exact h.elim
 ·exact h.elim
def gS (To Ti:zA):xN:=λv env st Q=>To env st λo st1=>Ti env st1 λi st2=>lG o i v st2 λst3=>Q env st3
theorem zhk {k:Nat}(hr:zF k X.A)(ho:PE X a (zG X.K Ta))(hi:PE X b (zG X.K Tb))
  (ha: ∀v,assign (.Subscript a b pos) X.env v=(do
   let ov <- holding [v] (eval a X.env)
   let iv <- holding [v,ov] (eval b X.env)
   standAt pos
   holding [v,ov,iv] (setItem ov iv v)
   release [v,ov,iv] []):=by intro _;rfl):PG X (.Subscript a b pos) (uU X.K (gS Ta Tb)):=
 zgX (zn4 ho hi (zoW hr) ha) λv σ H Q ⟨A,env,st,x,Q3,rel,e,h,k⟩=>⟨A,env,st,_,rel,h,λA1 H1 st1 o v1 g1 s1 e1 h1=>⟨A1,env,st1,_,rel.grow g1 s1,h1,λA2 H2 st2 i v2 g2 s2 e2 h2=>
  ⟨A2,st2,o,i,x,_,s2,e1.grow g2,e2,e.grow (g1.trans g2),h2,λA3 H3 st3 g3 s3 h3=>k A3 H3 σ env st3 ((g1.trans g2).trans g3) (rel.grow ((g1.trans g2).trans g3) s3) h3⟩⟩⟩
theorem yK.one {K:Frag}{A:List Addr}{H:Hp}{x:PV}{vs:List V}(h:yK K A H [x] vs): ∃v,vs= [v]/\RE K A H x v:=by
 cases h with
 | cons r t=>cases t;exact⟨_,rfl,r⟩
theorem yK.two {K:Frag}{A:List Addr}{H:Hp}{x y:PV}{vs:List V}(h:yK K A H [x,y] vs): ∃v w,vs= [v,w]/\RE K A H x v/\RE K A H y w:=by
 cases h with
 | cons r t=>obtain⟨w,rfl,e⟩:=yK.one t;exact⟨_,w,rfl,r,e⟩
def pD:PV->z7->(Nat->Prop)->Prop
 | .tup xs,_,k=>k xs.length
 | .lst xs,_,k=>k xs.length
 | .dct xs,_,k=>False
 | .str z,_,k=>z.length<=sizeLine/\k z.length
 | .obj i,st,k=>match st[i]? with | some (.lst xs)=>k xs.length | some (.dct kvs)=>k kvs.length | _=>False
 | _,_,_=>False
def zbX:zQ:=λxs st Q=>match xs with | [x]=>pD x st λn=>Q (.int n) st | _=>False
theorem vD:xK X (.builtin "len") (vR X.K zbX):=by
 intro pins s σ H vs us Q I rv ⟨A,st,xs,Q3,rs,ex,h,k⟩;unfold zbX at h
 split at h
 ·rename_i x
  obtain⟨v,rfl,ex1⟩:=yK.one ex;have fin: ∀{n:Nat},Q3 (.int n) st->Q (.int n) H:=λq=>k.now rs (.val (.int _)) q;cases ex1 with
  | obj eo=>
   dsimp only[pD]at h
   split at h
   ·rename_i q
    obtain⟨vs,h1,r,hzz⟩:=rs.at_ _ _ _ eo q;exact kX pins s σ H _ us Q I rv ⟨_,_,rfl,.inl ⟨_,.of h1,rfl⟩,by rw[<- r.len];exact fin h⟩
   ·rename_i q
    obtain⟨vs,h1,r,hzz⟩:=rs.at_ _ _ _ eo q;exact zj6 pins s σ H _ us Q I rv ⟨_,_,rfl,h1,by rw[<- r.len];exact fin h⟩
   ·exact h.elim
  | val e=>
   cases e with
   | str z=>exact kX pins s σ H _ us Q I rv ⟨_,_,rfl,⟨h.1,rfl⟩,fin h.2⟩
   | tup t z r=>exact kX pins s σ H _ us Q I rv ⟨_,_,rfl,.inr ⟨_,t.sq,rfl⟩,by rw[<- r.len];exact fin h⟩
   | lst t z r=>exact kX pins s σ H _ us Q I rv ⟨_,_,rfl,.inl ⟨_,t.sq,rfl⟩,by rw[<- r.len];exact fin h⟩
   | _=>exact False.elim h
 ·exact h.elim
def zci:zQ:=λxs st Q=>match xs with
 | [.lst ys]=>Q (.tup ys) st
 | [.tup ys]=>Q (.tup ys) st
 | [.obj i]=>(match st[i]? with | some (.lst ys)=>Q (.tup ys) st | some (.dct kvs)=>Q (.tup (kvs.map λq=>match q.1 with | .inl i=> .int i | .inr z=> .str z)) st | _=>False)
 | _=>False
def lH:zQ:=λxs st Q=>match xs with
 | [.lst ys]=>Q (.tup ys) st
 | [.tup ys]=>Q (.tup ys) st
 | [.obj i]=>(match st[i]? with | some (.lst ys)=>Q (.tup ys) st | _=>False)
 | _=>False
theorem zmu:xK X (.type "tuple") (vR X.K lH):=by
 intro pins s σ H vs us Q I rv ⟨A,st,xs,Q3,rs,ex,h,k⟩;unfold lH at h
 split at h
 ·cases ex with | cons ex et=>cases et;cases ex with | val e=>cases e with | lst t z r=>
   exact fP pins s σ H _ us Q I rv ⟨_,_,rfl,.inl ⟨t.sq,k.tup rs r z h⟩⟩
 ·cases ex with | cons ex et=>cases et;cases ex with | val e=>cases e with | tup t z r=>
   exact fP pins s σ H _ us Q I rv ⟨_,_,rfl,.inr ⟨t.sq,k.now rs (.val (.tup t z r)) h⟩⟩
 ·cases ex with | cons ex et=>cases et;cases ex with
  | val e=>cases e
  | obj eo=>
   split at h
   ·rename_i q
    obtain⟨vs,h1,r,hz⟩:=rs.at_ _ _ _ eo q;exact fP pins s σ H _ us Q I rv ⟨_,_,rfl,.inl ⟨.of h1,k.tup rs r hz h⟩⟩
   ·exact h.elim
 ·exact h.elim
def vS (xs:List PV)(lo hi:Option Int):List PV:=(xs.drop (HT.sIx xs.length 0 lo)).take (HT.sIx xs.length xs.length hi - HT.sIx xs.length 0 lo)
def pP:PV->Option Int->Option Int->z7->K3->Prop:=λx lo hi st Q=>match x with
 | .tup xs=>Q (.tup (vS xs lo hi)) st
 | .lst xs=>Q (.lst (vS xs lo hi)) st
 | .str z=>z.length<=sizeLine/\((Txt.slice z lo hi).length<=z.length->Q (.str (Txt.slice z lo hi)) st)
 | _=>False
def zj_ (K:Frag):V->Option Int->Option Int->Hp->VK->Prop:=λv lo hi H Q=> ∃A st x Q3,RS K A H st/\RE K A H x v/\pP x lo hi st Q3/\w6 K A H Q3 Q
theorem RVs.cut {K:Frag}{A:List Addr}{H:Hp}{xs:List PV}{vs:List V}(r:RVs K A H xs vs)(lo hi:Option Int):RVs K A H (vS xs lo hi) (rE vs lo hi):=by
 unfold vS rE;rw[r.len];exact(r.drop _).take _
theorem zmt:mB X (zj_ X.K):=by
 intro pins s σ H v vv vl vu lo hi sl Q I rx hs pl pu ⟨A,st,x,Q3,rs,ex,h,k⟩;unfold pP at h
 split at h
 ·cases ex with | val e=>cases e with | tup t z r=>
   rename_i xs a vs;by_cases hw:HT.sIx vs.length 0 lo=0/\HT.sIx vs.length vs.length hi=vs.length
   ·cases rx
    obtain⟨its,r',ht,hz⟩:=I.tuple t.sq;refine⟨"tuple",_,PyProof.Rows.slot_tuple_getitem.lookup,ht.typeIs,?_⟩;have hl:its.toArray.size=vs.length:=by rw[List.size_toArray,<- r'.length]
    refine zk5 ht hs pl pu (by rw[hl];exact hw) ⟨.ref a,H,I,rfl,k.now rs (.val (.tup t z r)) ?_⟩;rw[<- r.len]at hw;have e:vS xs lo hi=xs:=by
     unfold vS;rw[hw.1,hw.2,List.drop_zero,Nat.sub_zero,List.take_of_length_le (Nat.le_refl _)]
    rw[e]at h;exact h
   ·refine zpw pins s σ H _ vv vl vu lo hi sl Q I rx hs pl pu ⟨_,_,rfl,t.sq,?_,k.tup rs (r.cut lo hi) (Nat.le_trans (j0 _ lo hi) z) h⟩
    exact hw
 ·cases ex with | val e=>cases e with | lst t z r=>
   exact zpu pins s σ H _ vv vl vu lo hi sl Q I rx hs pl pu ⟨_,_,rfl,t.sq,k.lst rs (r.cut lo hi) (Nat.le_trans (j0 _ lo hi) z) h⟩
 ·cases wJ ex
  exact zpv pins s σ H _ vv vl vu lo hi sl Q I rx hs pl pu ⟨_,rfl,h.1,λhl=>k.now rs (.val (.str _)) (h.2 hl)⟩
 ·exact h.elim
abbrev rA:=zE->z7->(Option Int->z7->Prop)->Prop
def kY (K:Frag)(T:rA):TO:=λσ H Q=> ∃A env st Q3,yV K A H σ env st/\T env st Q3/\∀A' H' st' i,zV A H A' H'->RS K A' H' st'->Q3 i st'->Q i H'
def zgw:rA:=λ_ st Q=>Q none st
def zgx (T:zA):rA:=λenv st Q=>T env st λx st1=>match x with | .int i=>Q (some i) st1 | _=>False
theorem zgZ {o:Option Expr}{t t':TO}(h:L2.PO X o t)(w: ∀σ H Q,t' σ H Q->t σ H Q):L2.PO X o t':=⟨λpins s σ H Q I q=>h pins s σ H Q I (w σ H Q q)⟩
theorem pL:L2.PO X none (kY X.K zgw):=zgZ znA λσ H Q ⟨A,env,st,Q3,rel,h,k⟩=>k A H st none (.refl _ _) rel.rs h
theorem sS (h:PE X e (zG X.K Ta)):L2.PO X (some e) (kY X.K (zgx Ta)):=by
 refine zgZ (znB h) λσ H Q ⟨A,env,st,Q3,rel,h,k⟩=>⟨A,env,st,_,rel,h,λA1 H1 st1 x v g1 s1 e1 h1=> ?_⟩;cases x with
 | int i=>cases yY e1;exact⟨i,rfl,k A1 H1 st1 _ g1 s1 h1⟩
 | _=>exact False.elim h1
def vSl (T:zA)(Tl Th:rA):zA:=λenv st Q=>T env st λx st1=>Tl env st1 λl st2=>Th env st2 λu st3=>pP x l u st3 Q
theorem rY {lo hi:Option Expr}{Tl Th:rA}(he:PE X e (zG X.K Ta))(hl:L2.PO X lo (kY X.K Tl))(hu:L2.PO X hi (kY X.K Th)):PE X (.Subscript e (.Slice lo hi none p2) pos) (zG X.K (vSl Ta Tl Th)):=
 xH (znv zmt he hl hu) λσ H Q ⟨A,env,st,Q3,rel,h,k⟩=>⟨A,env,st,_,rel,h,λA1 H1 st1 x v g1 s1 e1 h1=>⟨A1,env,st1,_,rel.grow g1 s1,h1,λA2 H2 st2 l g2 s2 h2=>⟨A2,env,st2,_,(rel.grow g1 s1).grow g2 s2,h2,λA3 H3 st3 u g3 s3 h3=>
  ⟨A3,st3,x,Q3,s3,e1.grow (g2.trans g3),h3,k.after (g1.trans (g2.trans g3))⟩⟩⟩⟩
end
section
variable {X:Cx} {tg iter a b e:Expr} {es:List Expr} {pos p:Pos} {Ta:zA} {TA:y2}
def zkG (K:Frag)(tl:TE):TI:=λσ H R=>tl σ H λx H1=>(∃a,x= .ref a/\(∃xs,yS K H1 a xs)/\R (kG K a) H1)∨(∃a,x= .ref a/\(∃xs,xQ K H1 a xs)/\R (gM K a) H1)∨∃z,x= .str z/\R (kJ z) H1
theorem zn5 {tl:TE}(hl:PE X iter tl):PI X tg iter (zkG X.K tl):=by
 refine⟨λpins s σ H R I h=> ?_⟩;refine zJ (hl pins s σ H _ I h) λv s1 ⟨x,H1,I1,r1,q1⟩=> ?_;rcases q1 with⟨a,rfl,⟨xs,hq⟩,q⟩ | ⟨a,rfl,⟨xs,hq⟩,q⟩ | ⟨x,rfl,q⟩
 ·cases r1
  obtain⟨its,rv,p,hz⟩:=I1.list hq;refine wpAny_pyIter_list p.isList ?_;refine⟨s1.heap.objs.size,[s1.heap.objs.size],_,_,H1,rfl,I1.kept (t':=s1.toks) λb o e=>Heap.get?_push_of_some _ e,zqr a _,⟨_,Heap.get?_push_size _ rfl,rfl,rfl⟩,λb hb=> ?_,q⟩;have e:b=s1.heap.objs.size:=by simpa using hb
  subst e;exact I1.fpOk (Nat.le_refl _) (I1.hok.fresh (Nat.le_refl _))
 ·cases r1
  obtain⟨its,rv,p,hz⟩:=I1.tuple hq;refine wpAny_pyIter_tuple (show s1.heap.IsTuple a its.toArray from p) ?_;refine⟨s1.heap.objs.size,[s1.heap.objs.size],_,_,H1,rfl,I1.kept (t':=s1.toks) λb o e=>Heap.get?_push_of_some _ e,zqt a _,⟨_,Heap.get?_push_size _ rfl,rfl,rfl⟩,λb hb=> ?_,q⟩;have e:b=s1.heap.objs.size:=by simpa using hb
  subst e;exact I1.fpOk (Nat.le_refl _) (I1.hok.fresh (Nat.le_refl _))
 ·obtain⟨t,rfl⟩:=r1
  have fin: ∀(n:String) (o:Obj),pZ X.prog X.w X.K tg (kJ x) [s1.heap.objs.size] s1.heap.objs.size (λi h=>h.IsStrIter s1.heap.objs.size n x t i)->(s1.heap.push o).IsStrIter s1.heap.objs.size n x t 0->kM X pins σ tg R (.ref s1.heap.objs.size) {s1 with heap:=s1.heap.push o} :=λn o T st=>
   ⟨s1.heap.objs.size,[s1.heap.objs.size],_,_,H1,rfl,I1.kept (t':=s1.toks) λb u e=>Heap.get?_push_of_some _ e,T,st,λb hb=>by
    have e:b=s1.heap.objs.size:=by simpa using hb
    subst e;exact I1.fpOk (Nat.le_refl _) (I1.hok.fresh (Nat.le_refl _)),q⟩
  cases ha:x.cps.all (· < 128)
  ·exact wpAny_pyIter_wide ha (fin "str_iterator" _ (zif _ x t (by decide) (λA hA=>Walks.strWide hA _ x t) λ_ _ _ _ _ st hQ=>wpAny_pyIter_striter_wide st hQ) ⟨_,Heap.get?_push_size _ rfl,rfl,rfl⟩)
  ·exact wpAny_pyIter_ascii ha (fin "str_ascii_iterator" _ (zif _ x t (by decide) (λA hA=>Walks.strAscii hA _ x t) λ_ _ _ _ _ st hQ=>wpAny_pyIter_striter_ascii st hQ) ⟨_,Heap.get?_push_size _ rfl,rfl,rfl⟩)
def vV (z:Str):List PV:=z.cps.toList.map λc=> .str ⟨#[c]⟩
theorem zkX {K:Frag}{A:List Addr}{H:Hp}{z:Str}(hz:z.length<=sizeLine):qJ K A H none (kJ z) (vV z) where
 go:=λi A' H' st g s _ hi=>by
  unfold vV at hi;have hi':i < z.cps.size:=by simpa using hi
  exact hi'
 yld:=λi x A' H' st v H2 hx g s _ y=>by
  obtain⟨rfl,c,hc,rfl⟩:=y;unfold vV at hx;rw[List.getElem?_map]at hx;have hc':z.cps.toList[i]?=some c:=by simpa using hc
  rw[hc']at hx;cases hx;exact⟨.refl _ _,s,.val (.str _)⟩
 stop:=λA' H' st g s _=>by
  unfold vV;show _=z.cps.size;simp
 small:=by
  unfold vV;rw[List.length_map];have:z.cps.toList.length=z.length:=by simp[Str.length]
  omega
def zfJ (T:zA):vQ:=λenv st Q=>T env st λx st1=>match x with
 | .lst xs=>Q none xs st1
 | .tup xs=>Q none xs st1
 | .str z=>z.length<=sizeLine/\Q none (vV z) st1
 | .obj i=>(match st1[i]? with | some (.lst xs)=>Q (some (i,.lst xs)) xs st1 | _=>False)
 | _=>False
theorem tT (h:PE X iter (zG X.K Ta)):PI X tg iter (qS X.K (zfJ Ta)):=by
 refine zgY (zn5 h) λσ H R ⟨A,env,st,Q3,rel,h,k⟩=>⟨A,env,st,_,rel,h,λA1 H1 st1 x v g1 s1 e1 h1=> ?_⟩;cases e1 with
 | obj eo=>
  dsimp only at h1
  split at h1
  ·rename_i q
   obtain⟨vs,h2,r,hz⟩:=s1.at_ _ _ _ eo q;exact .inl ⟨_,rfl,⟨_,.of h2⟩,k A1 H1 st1 _ _ _ g1 s1 (zkV eo (by rw[r.len];exact hz)) h1⟩
  ·exact h1.elim
 | val e=>
  cases e with
  | tup t z r=>exact .inr (.inl ⟨_,rfl,⟨_,t.sq⟩,k A1 H1 st1 none _ _ g1 s1 (zkY t z r) h1⟩)
  | lst t z r=>exact .inl ⟨_,rfl,⟨_,t.sq⟩,k A1 H1 st1 none _ _ g1 s1 (zkU t z r) h1⟩
  | str z=>exact .inr (.inr ⟨z,rfl,k A1 H1 st1 none _ _ g1 s1 (zkX h1.1) h1.2⟩)
  | _=>exact False.elim h1
theorem lF (hg:Gl X "range")(hm:X.mg "range" =none)(ha:PA X [a] (vI X.K TA))(hs:starEach [a] X.env= [(false,eval a X.env)]:=by rfl):PI X tg (.Call (.Name "range" p) [a] [] pos) (qS X.K (zfK TA)):=by
 refine zgY (zn6 hg hm ha hs) λσ H R ⟨A,env,st,Q3,rel,h,k⟩=>⟨A,env,st,_,rel,h,λA1 H1 st1 xs vs g1 s1 e1 h1=> ?_⟩
 split at h1
 ·rename_i j
  obtain⟨v,rfl,e⟩:=yK.one e1;cases yY e;have hb:(2000000:Nat)<=sizeLine:=by rw[sizeLine_eq];decide
  exact⟨j,rfl,by omega,by omega,k A1 H1 st1 none _ _ g1 s1 (zkW (by omega)) h1.2⟩
 ·exact h1.elim
end
def uM (N:List Str)(xs:List PV):zE:=xs.map some++List.replicate (N.length - xs.length) none
def yZ (m:Nat)(Q:K3):K3:=λr st=>match r with
 | .obj i=>if i < m then Q (.obj i) (st.take m)else(match st[i]? with | some (.lst xs)=>Q (.lst xs) (st.take m) | some (.dct xs)=>Q (.dct xs) (st.take m) | some (.itb xs)=>Q (.itb xs) (st.take m) | _=>False)
 | r=>Q r (st.take m)
section
variable {K:Frag} {A B:List Addr} {H H':Hp}
theorem yV.begin {st:z7}{xs:List PV}{vs:List V}{N:List Str}(s:RS K A H st)(e:yK K A H xs vs):yV K A H (L2.start N vs) (uM N xs) st:=by
 have hl:xs.length=vs.length:=Paired.length e;refine⟨s,by unfold L2.start uM;rw[List.length_append,List.length_append,List.length_map,List.length_map,List.length_replicate,List.length_replicate,hl],λi x h=> ?_⟩;unfold uM at h;by_cases hi:i < xs.length
 ·rw[List.getElem?_append_left (by rw[List.length_map];exact hi),List.getElem?_map]at h
  cases ex:xs[i]? with
  | none=>rw[ex]at h;cases h
  | some y=>
   rw[ex]at h;cases h;have hv:i < vs.length:=by omega
   refine⟨vs[i],?_,zgK e ex (List.getElem?_eq_getElem hv)⟩;unfold L2.start;rw[List.getElem?_append_left (by rw[List.length_map];exact hv),List.getElem?_map,List.getElem?_eq_getElem hv];rfl
 ·rw[List.getElem?_append_right (by rw[List.length_map];omega),List.getElem?_replicate]at h
  split at h <;> cases h
theorem u3.less {A A':List Addr}(h: ∀b,b∈A'->b∈A){a:Addr}{vs:List V}(t:u3 K A H a vs):u3 K A' H a vs:=t.imp (λt=>⟨t.1,λm=>t.2 (h _ m)⟩) id
theorem tE.less {A A':List Addr}(h: ∀b,b∈A'->b∈A){a:Addr}{vs:List V}(t:tE K A H a vs):tE K A' H a vs:=t.imp (λt=>⟨t.1,λm=>t.2 (h _ m)⟩) id
mutual
theorem RV.less {A A':List Addr}(h: ∀b,b∈A'->b∈A){x:PV}{v:V} :RV K A H x v->RV K A' H x v
 | .non=> .non
 | .bl b=> .bl b
 | .int i=> .int i
 | .str x=> .str x
 | .ty n=> .ty n
 | .tup t z r=> .tup (t.less h) z (RVs.less h r)
 | .lst t z r=> .lst (t.less h) z (RVs.less h r)
 | .dct t z r=> .dct ⟨t.1,λm=>t.2 (h _ m)⟩ z (RKs.less h r)
 | .itb e n=> .itb e λm=>n (h _ m)
 | .clo e=> .clo ⟨⟨e.fn.1,λm=>e.fn.2 (h _ m)⟩,⟨e.cd.1,λm=>e.cd.2 (h _ m)⟩,⟨e.cl.1,λm=>e.cl.2 (h _ m)⟩,⟨e.dt.1,λm=>e.dt.2 (h _ m)⟩⟩
theorem RVs.less {A A':List Addr}(h: ∀b,b∈A'->b∈A){xs:List PV}{vs:List V} :RVs K A H xs vs->RVs K A' H xs vs
 | .nil=> .nil
 | .cons r t=> .cons (RV.less h r) (RVs.less h t)
theorem RKs.less {A A':List Addr}(h: ∀b,b∈A'->b∈A){xs:List (zC×PV)}{vs:List (zC×V)} :RKs K A H xs vs->RKs K A' H xs vs
 | .nil=> .nil
 | .cons r t=> .cons (RV.less h r) (RKs.less h t)
end
def kO (A A':List Addr)(a:Addr):Prop:= ∀(i j:Nat) (p:Addr),A[i]?=some a->j < i->A[j]?=some p->∃i',A'[i']?=some a/\j < i'/\A'[j]?=some p
theorem RR.less {A A':List Addr}(h: ∀b,b∈A'->b∈A){a:Addr}(hp:kO A A' a){x:PV}{v:V}(r:RR K A H a x v):RR K A' H a x v:=by
 cases r with
 | val r=>exact .val (r.less h)
 | obj e l e'=>obtain⟨_,x,y,z⟩:=hp _ _ _ e l e';exact .obj x y z
theorem uT.less {A A':List Addr}(h: ∀b,b∈A'->b∈A){a:Addr}(hp:kO A A' a){xs:List (zC×PV)}{vs:List (zC×V)} :uT K A H a xs vs->uT K A' H a xs vs
 | .nil=> .nil
 | .cons r t=> .cons ⟨r.1,r.2.less h hp⟩ (uT.less h hp t)
theorem uS.less {A A':List Addr}(h: ∀b,b∈A'->b∈A){a:Addr}(hp:kO A A' a){xs:List PV}{vs:List V} :uS K A H a xs vs->uS K A' H a xs vs
 | .nil=> .nil
 | .cons r t=> .cons (r.less h hp) (uS.less h hp t)
theorem xP.less {A A':List Addr}(h: ∀b,b∈A'->b∈A){xs:List (Str×PV)}{vs:List (Str×V)} :xP K A H xs vs->xP K A' H xs vs
 | .nil=> .nil
 | .cons r t=> .cons ⟨r.1,r.2.less h⟩ (xP.less h t)
theorem OA.less {A A':List Addr}(h: ∀b,b∈A'->b∈A){a:Addr}{o:PO}(hp:kO A A' a)(x:OA K A H a o):OA K A' H a o:=by
 cases o with
 | lst xs=>obtain⟨vs,e,r,z⟩:=x;exact⟨vs,e,r.less h,z⟩
 | dct xs=>obtain⟨vs,e,r,z⟩:=x;exact⟨vs,e,r.less h,z⟩
 | tbl T pos q=>obtain⟨ea,ps,e,r⟩:=x;exact⟨ea,ps,e,r.imp id λ⟨c',e1,e2,e3⟩=>⟨c',e1,e2,λm=>e3 (h _ m)⟩⟩
 | itb kvs=>exact x
 | rcd xs=>obtain⟨vs,e,r,z⟩:=x;exact⟨vs,e,uT.less h hp r,z⟩
 | fd ob xs=>obtain⟨vs,e,r,z⟩:=x;exact⟨vs,e,r.less h,z⟩
 | ros xs=>obtain⟨vs,e,r,z⟩:=x;exact⟨vs,e,uS.less h hp r,z⟩
 | ins C dx fs=>obtain⟨vs,e,r⟩:=x;exact⟨vs,e,xP.less h r⟩
theorem jL {α:Type}{l:List α}{m:Nat} : ∀b,b∈l.take m->b∈l:=λb h=>List.mem_of_mem_take h
theorem RS.take {st:z7}(s:RS K A H st)(m:Nat):RS K (A.take m) H (st.take m):=by
 refine⟨List.Nodup.sublist (List.take_sublist _ _) s.nd,by rw[List.length_take,List.length_take,s.len],λi a o h1 h2=> ?_⟩;have hi:i < m:=by
  have:=(List.getElem?_eq_some_iff.mp h1).1;rw[List.length_take]at this;omega
 rw[List.getElem?_take_of_lt hi]at h1 h2;refine(s.at_ i a o h1 h2).less jL λi' j p e l e'=> ?_;have hii:i'=i:=(List.getElem?_inj (List.getElem?_eq_some_iff.mp e).1 s.nd).mp (e.trans h1.symm);subst hii;exact⟨i',by rw[List.getElem?_take_of_lt hi];exact e,l,by rw[List.getElem?_take_of_lt (by omega)];exact e'⟩
theorem zV.take {B':List Addr}(g:zV A H B' H'){m:Nat}(h:A.length<=m):zV A H (B'.take m) H':=by
 obtain⟨⟨C,rfl,hC⟩,k,l⟩:=g;refine⟨⟨C.take (m - A.length),?_,λb hb=>hC b (List.mem_of_mem_take hb)⟩,k,l⟩;rw[List.take_append,List.take_of_length_le h]
theorem w6.exit {Q3:K3}{Q:VK}{m:Nat}(k:w6 K A H Q3 Q)(hm:A.length<=m):w6 K A H (yZ m Q3) Q:=by
 intro A' H' st' r v g s e q;have g':=g.take hm;have s':=s.take m;cases e with
 | val e=>
  refine k _ H' _ r v g' s' (.val (e.less jL)) ?_;cases r with
  | obj i=>cases e
  | _=>exact q
 | obj eo=>
  rename_i i a;unfold yZ at q;dsimp only at q;by_cases hi:i < m
  ·rw[if_pos hi]at q
   exact k _ H' _ _ _ g' s' (.obj (by rw[List.getElem?_take_of_lt hi];exact eo)) q
  ·rw[if_neg hi]at q
   have na:a∉A'.take m:=λhm'=>by
    obtain⟨j,hj,e⟩:=List.getElem_of_mem hm';rw[List.length_take]at hj;have e2:A'[j]?=some a:=by
     rw[<- List.getElem?_take_of_lt (show j < m by omega),List.getElem?_eq_getElem (by rw[List.length_take];omega),e]
    have:=(List.getElem?_inj (List.getElem?_eq_some_iff.mp e2).1 s.nd).mp (e2.trans eo.symm);omega
   split at q
   ·rename_i xs e
    obtain⟨vs,h1,r,z⟩:=s.at_ _ _ _ eo e;exact k _ H' _ _ _ g' s' (.val (.lst (.inl ⟨.inl h1,na⟩) z (r.less jL))) q
   ·rename_i xs e
    obtain⟨vs,h1,r,z⟩:=s.at_ _ _ _ eo e;exact k _ H' _ _ _ g' s' (.val (.dct ⟨h1,na⟩ z (r.less jL))) q
   ·rename_i xs e
    exact k _ H' _ _ _ g' s' (.val (.itb (s.at_ _ _ _ eo e) na)) q
   ·exact q.elim
end
theorem xU {P:Program}{w:World}{K:Frag}{mg:Str->Option Value}{base:Heap}{x qual:Str}{st:Stmt}{f:Addr}{fd:FuncData}{N ps:List Str}{k:Nat}{S:zQ}(keep:Nat)(F:zN K x qual st f fd)(sc:yB N ps (zR st))(len: ∀xs st Q,S xs st Q->xs.length=ps.length)
  (hB: ∃T:yC,(∀(cdv:Value) (A:Around) (outer:List Env) (s:Shared) (H:Hp) (E:XK),zF k (A.deeper (envOfC qual (zR st) s.heap.objs.size f cdv))->yI (xT yE P w K mg base N qual (zR st) f cdv A outer s H E).nox (u6 st) (yP K T))/\
   ∀xs sto Q,S xs sto Q->T {nx:=λ_ s'=>yZ (sto.length+keep) Q .non s',rt:=yZ (sto.length+keep) Q} (uM N xs) sto):zZ P w K mg base yE (k+1) f fd ps (yD K S):=by
 obtain⟨T,hT,hb⟩:=hB;refine F.ok sc (λvs H Q E h=> ?_) (λcdv A outer s H vs Q E hr h=>⟨_,hT cdv A outer s H E hr,?_⟩)
 ·obtain⟨A,sto,xs,Q3,rs,ex,hS,_⟩:=h
  rw[<- len xs sto Q3 hS];exact(Paired.length ex).symm
 ·obtain⟨A,sto,xs,Q3,rs,ex,hS,k⟩:=h
  have hm:A.length<=sto.length+keep:=by rw[rs.len];omega
  refine⟨A,uM N xs,sto,_,yV.begin rs ex,hb xs sto Q3 hS,⟨λA' H' σ' env' st' g r q=> ?_,k.exit hm,λA' H' σ' env' st' g r q=>q.elim,λA' H' σ' env' st' g r q=>q.elim⟩⟩;exact k.exit hm A' H' st' .non .non g r.rs (.val .non) q
section
variable {X:Cx} {scope:Scope} {N' own:List Str} {Ti:vQ} {Tg:xN} {tt:yR} {te:zA}
theorem zot {elt target iter:Expr}{ifs:List Expr}{pos spos pos':Pos}{i0:Nat}{x:Str}(S:uQ X scope N' own)(hN:X.N.Nodup)(hi0:X.N[i0]?=some x)(hx:uE X.env.scope x)(hc:X.calm=true)(hi:PI X target iter (qS X.K Ti))
  (hg: ∀C s H fp pins,PG (yF X scope (N'++own) C s H fp pins) target (uU X.K Tg)) (ht: ∀C s H fp pins,PF (yF X scope (N'++own) C s H fp pins) ifs (yW X.K tt)) (he: ∀C s H fp pins,PE (yF X scope (N'++own) C s H fp pins) elt (zG X.K te))
  (hs: ∀x,foldedSetIterable iter X.env x=pure x:=by intro _;rfl) (hsw:swapsWith (.ListComp elt [⟨target,iter,ifs,0⟩] scope pos) (some (.Name x pos')) spos.line X.env=pure true:=by rfl)
  (hf:X.fn x=true∨X.env.scope.names.lookup x=some .local:=by first | exact .inl rfl | exact .inr rfl | assumption):
  PS X (.Assign [.Name x pos'] (.ListComp elt [⟨target,iter,ifs,0⟩] scope pos) spos) (yP X.K (r6 (lW own.length Ti Tg tt te) (gN i0))):=by
 refine uZ (znO hN hi0 hx S hc hi hg ht he hs hsw hf) λD σ H h=> ?_;obtain⟨A,env,st,Q3,rel,h,k⟩:=mL h;exact fS ⟨A,env,st,Q3,rel,h,λA1 H1 st1 r v g s e q=>mM (k A1 H1 st1 r v g s e q)⟩
end
def mQ (a b c d e:Bool)(n:String):Option Bool:=if n= "int" then some a else if n= "bool" then some b else if n= "str" then some c else if n= "tuple" then some d else if n= "list" then some e else none
def xX:PV->String->Option Bool
 | .bl _,n=>mQ true true false false false n
 | .int _,n=>mQ true false false false false n
 | .str _,n=>mQ false false true false false n
 | .tup _,n=>mQ false false false true false n
 | .lst _,n=>mQ false false false false true n
 | _,_=>none
def zo2:zQ:=λxs st Q=>match xs with | [x,.ty n]=>(match xX x n with | some b=>Q (.bl b) st | none=>False) | _=>False
section
variable {X:Cx} {pins:List (Addr×Obj)} {σ:St} {H:Hp} {s:Shared} {A:List Addr}
def i3:zQ:=λxs st Q=>match xs with | [.int i]=>Q (.int i) st | [.bl b]=>Q (.int (if b then 1 else 0)) st | _=>False
theorem mY:xK X (.type "int") (vR X.K i3):=by
 intro pins s σ H vs us Q I rv ⟨A,st,xs,Q3,rs,ex,h,k⟩;unfold i3 at h
 split at h
 ·obtain⟨v,rfl,ex1⟩:=yK.one ex
  cases yY ex1;exact zd_ pins s σ H _ us Q I rv (.inl ⟨_,rfl,k.now rs (.val (.int _)) h⟩)
 ·obtain⟨v,rfl,ex1⟩:=yK.one ex
  cases fM ex1;exact zd_ pins s σ H _ us Q I rv (.inr ⟨_,rfl,k.now rs (.val (.int _)) h⟩)
 ·exact h.elim
def zca:zQ:=λxs st Q=>match xs with | [.int i,.int j]=>Q (.int (if j < i then j else i)) st | _=>False
def zbZ:zQ:=λxs st Q=>match xs with | [.int i,.int j]=>Q (.int (if j > i then j else i)) st | _=>False
theorem zg1 (hc:X.calm=true):xK X (.builtin "min") (vR X.K zca):=by
 intro pins s σ H vs us Q I rv ⟨A,st,xs,Q3,rs,ex,h,k⟩;unfold zca at h
 split at h
 ·obtain⟨v,w,rfl,ex1,ey1⟩:=yK.two ex
  cases yY ex1;cases yY ey1;exact zj8 hc pins s σ H _ us Q I rv ⟨_,_,rfl,k.now rs (.val (.int _)) h⟩
 ·exact h.elim
theorem zg0 (hc:X.calm=true):xK X (.builtin "max") (vR X.K zbZ):=by
 intro pins s σ H vs us Q I rv ⟨A,st,xs,Q3,rs,ex,h,k⟩;unfold zbZ at h
 split at h
 ·obtain⟨v,w,rfl,ex1,ey1⟩:=yK.two ex
  cases yY ex1;cases yY ey1;exact zj7 hc pins s σ H _ us Q I rv ⟨_,_,rfl,k.now rs (.val (.int _)) h⟩
 ·exact h.elim
theorem zhx {K:Frag} : ∀{bs:List Bool} {vs:List V},RVs K A H (bs.map PV.bl) vs->vs=bs.map V.bl
 | [],_,.nil=>rfl
 | b::bs,_,.cons r t=>by cases r;rw[zhx t];rfl
theorem zhy {K:Frag} : ∀{bs:List Str} {vs:List V},RVs K A H (bs.map PV.str) vs->vs=bs.map V.str
 | [],_,.nil=>rfl
 | b::bs,_,.cons r t=>by cases r;rw[zhy t];rfl
theorem zfN {K:Frag} : ∀(bs:List Int),RVs K A H (bs.map PV.int) (bs.map V.int)
 | []=> .nil
 | b::bs=> .cons (.int b) (zfN bs)
def jJ:PV->z7->Option (List PV)
 | .lst xs,_=>some xs
 | .obj i,st=>(match st[i]? with | some (.lst xs)=>some xs | _=>none)
 | _,_=>none
theorem zgk {st:z7}{x:PV}{v:V}{xs:List PV}(rs:RS X.K A H st)(ex:RE X.K A H x v)(h:jJ x st=some xs): ∃a vs,v= .ref a/\yS X.K H a vs/\RVs X.K A H xs vs/\vs.length<=sizeLine:=by
 cases ex with
 | val e=>
  cases e with
  | lst t z r=>cases h;exact⟨_,_,rfl,t.sq,r,z⟩
  | _=>cases h
 | obj eo=>
  dsimp only[jJ]at h
  split at h
  ·rename_i q
   cases h;obtain⟨vs,h1,r,z⟩:=rs.at_ _ _ _ eo q;exact⟨_,_,rfl,.of h1,r,z⟩
  ·cases h
def jZ:zQ:=λxs st Q=>match xs with | [x]=> ∃bs:List Bool,jJ x st=some (bs.map PV.bl)/\Q (.bl (bs.all id)) st | _=>False
theorem mX (hc:X.calm=true):xK X (.builtin "all") (vR X.K jZ):=by
 intro pins s σ H vs us Q I rv ⟨A,st,xs,Q3,rs,ex,h,k⟩;unfold jZ at h
 split at h
 ·obtain⟨v,rfl,ex1⟩:=yK.one ex
  obtain⟨bs,e,h⟩:=h;obtain⟨a,ws,rfl,hs,r,z⟩:=zgk rs ex1 e;cases zhx r;exact zj3 hc pins s σ H _ us Q I rv ⟨a,bs,rfl,hs,k.now rs (.val (.bl _)) h⟩
 ·exact h.elim
def u9:zC->PV
 | .inl i=> .int i
 | .inr z=> .str z
def tN:PV->z7->Option (List PV)
 | .lst xs,_=>some xs
 | .tup xs,_=>some xs
 | .obj i,st=>(match st[i]? with | some (.lst xs)=>some xs | some (.dct kvs)=>some (kvs.map λq=>u9 q.1) | _=>none)
 | .dct kvs,_=>some (kvs.map λq=>u9 q.1)
 | _,_=>none
def zbY:zQ:=λxs st Q=>match xs with | [x]=>(match tN x st with | some ys=>Q (.lst ys) st | none=>False) | _=>False
def zo9:zQ:=λxs st Q=>match xs with | [x]=>(match tN x st with | some ys=>Q (.obj st.length) (st++ [.lst ys]) | none=>False) | _=>False
theorem zbu {K:Frag} : ∀{kvs:List (zC×PV)} {us:List (zC×V)},RKs K A H kvs us->RVs K A H (kvs.map λq=>u9 q.1) (us.map λq=>kV q.1)
 | _,_,.nil=> .nil
 | _,_,.cons (k:=k) r t=>by
  rw[List.map_cons,List.map_cons];refine .cons ?_ (zbu t);cases k with
  | inl i=>exact .int i
  | inr z=>exact .str z
theorem zlw (hc:X.calm=true){vs:List V}{us:List Value}{Q:VK}{st:z7}{x:PV}{ys:List PV}{v:V}(I:z6 X pins σ H s)(rv:zI [v] us)(rs:RS X.K A H st)(ex1:RE X.K A H x v)(e:tN x st=some ys)
  (k: ∀ws,RVs X.K A H ys ws->ws.length<=sizeLine->∀p,H p=none->Q (.ref p) (upd H p (.lst ws))):wpAny (model X.prog X.w) X.A (call (.type "list") us) (EP X pins σ Q) X.xe s:=by
 cases ex1 with
 | val e1=>
  cases e1 with
  | lst t z r=>cases e;exact fO pins s σ H _ us Q I rv ⟨_,_,rfl,.inl t.sq,k _ r z⟩
  | tup t z r=>cases e;exact fO pins s σ H _ us Q I rv ⟨_,_,rfl,.inr t.sq,k _ r z⟩
  | dct t z r=>cases e;exact zdA hc pins s σ H _ us Q I rv ⟨_,_,rfl,t.1,k _ (zbu r) (by rw[List.length_map];exact z)⟩
  | _=>cases e
 | obj eo=>
  dsimp only[tN]at e
  split at e
  ·rename_i q
   cases e;obtain⟨ws,h1,r,z⟩:=rs.at_ _ _ _ eo q;exact fO pins s σ H _ us Q I rv ⟨_,_,rfl,.inl (.of h1),k _ r z⟩
  ·rename_i q
   cases e;obtain⟨ws,h1,r,z⟩:=rs.at_ _ _ _ eo q;exact zdA hc pins s σ H _ us Q I rv ⟨_,_,rfl,h1,k _ (zbu r) (by rw[List.length_map];exact z)⟩
  ·cases e
theorem zmq (hc:X.calm=true):xK X (.type "list") (vR X.K zbY):=by
 intro pins s σ H vs us Q I rv ⟨A,st,xs,Q3,rs,ex,h,k⟩;unfold zbY at h
 split at h
 ·obtain⟨v,rfl,ex1⟩:=yK.one ex
  split at h
  ·rename_i ys e
   exact zlw (vs:= []) hc I rv rs ex1 e λws r z=>k.lst rs r z h
  ·exact h.elim
 ·exact h.elim
def zq3:zA:=λ_ st Q=>Q (.obj st.length) (st++ [.dct []])
def oO (kvs more:List (zC×PV)):List (zC×PV):=more.foldl (λacc kv=>vM acc kv.1 kv.2) kvs
theorem RKs.merge {K:Frag} : ∀{b:List (zC×PV)} {d:List (zC×V)} {a:List (zC×PV)} {c:List (zC×V)},RKs K A H a c->RKs K A H b d->RKs K A H (oO a b) (pF c d)
 | _,_,_,_,h,.nil=>h
 | _,_,a,c,h,.cons (k:=k) (x:=x) (v:=v) r t=>RKs.merge (a:=vM a k x) (c:=wX c k v) (RKs.put r h) t
theorem zlM {us:List (zC×V)}{n:Nat}(h:us.length<=n):(pF [] us).length<=n:=by
 have:=zby us [];simp only[List.length_nil,Nat.zero_add]at this;exact Nat.le_trans this h
end
def tM:PV->z7->String
 | .lst _,_=> "list"
 | .dct _,_=> "dict"
 | .str _,_=> "str"
 | .obj i,st=>(match st[i]? with | some (.lst _)=> "list" | some (.dct _)=> "dict" | _=> "")
 | _,_=> ""
def o6 (K:Frag)(R:PV->zQ):V->List V->Hp->VK->Prop:=λv vs H Q=> ∃A st x xs Q3,RS K A H st/\RE K A H x v/\yK K A H xs vs/\R x xs st Q3/\w6 K A H Q3 Q
def vBM (T:String)(R:PV->zQ)(To:zA)(TA:y2):zA:=λenv st Q=>To env st λx st1=>tM x st1=T/\TA env st1 λxs st2=>R x xs st2 Q
def zqx (T:String)(R:PV->zQ)(To:zA):zA:=λenv st Q=>To env st λx st1=>tM x st1=T/\R x [] st1 Q
section
variable {X:Cx} {o e:Expr} {es:List Expr} {apos cpos:Pos} {To:zA} {TA:y2} {T id:String} {name:Str} {R:PV->zQ}
theorem zqu {K:Frag}{A:List Addr}{H:Hp}{st:z7}{x:PV}{v:V}(rs:RS K A H st)(ex:RE K A H x v)(h:tM x st=T)(hT:T≠ ""):tyV K T v H:=by
 subst h;cases ex with
 | val e=>
  cases e with
  | lst t z r=>exact .inl ⟨rfl,_,t.sq⟩
  | dct t z r=>exact .inr (.inr (.inl ⟨rfl,.inl ⟨_,t.1⟩⟩))
  | str z=>exact rfl
  | _=>exact absurd rfl hT
 | obj eo=>
  dsimp only[tM]at hT⊢
  split
  ·rename_i q
   obtain⟨vs,h1,r,z⟩:=rs.at_ _ _ _ eo q;exact .inl ⟨rfl,_,.of h1⟩
  ·rename_i q
   obtain⟨vs,h1,r,z⟩:=rs.at_ _ _ _ eo q;exact .inr (.inr (.inl ⟨rfl,.inl ⟨_,h1⟩⟩))
  ·exfalso
   split at hT
   ·rename_i n1 n2 _ _ q;exact n1 _ q
   ·rename_i n1 n2 _ _ q;exact n2 _ q
   ·exact hT rfl
theorem sO (pa:PlainAttrs T)(slot:Slot T name id)(hty:typeOf (.builtin id)=pure (.type "method_descriptor"))(hT:T≠ "")(hm:uR X id (o6 X.K R))(ho:PE X o (zG X.K To))(ha:PA X (e::es) (vI X.K TA))
  (hbase:attributeBase o name X.env (eval o X.env)=eval o X.env:=by rfl)
  (hfew:((backTo cpos (starEach (e::es) X.env)).all (λx=> !x.1)&&(backToKw cpos (keywordEach [] X.env)).all (λx=>x.1.isSome)
   &&decide ((e::es).length+([]:List Keyword).length+(if([]:List Keyword).isEmpty then 0 else 1) < 30))=true:=by rfl)
  (hline:(apos.endLine==cpos.line)=true:=by rfl) (hs:starEach (e::es) X.env=(false,eval e X.env)::starEach es X.env:=by rfl) (hplain:(backTo cpos (starEach es X.env)).any (·.1)=false:=by rfl):
  PE X (.Call (.Attribute o name apos) (e::es) [] cpos) (zG X.K (vBM T R To TA)):=
 xH (zni pa slot hty hm ho ha hbase hfew hline hs hplain) λσ H Q ⟨A,env,st,Q3,rel,h,k⟩=>⟨A,env,st,_,rel,h,λA1 H1 st1 x v g1 s1 e1 h1=>⟨zqu s1 e1 h1.1 hT,A1,env,st1,_,rel.grow g1 s1,h1.2,λA2 H2 st2 xs vs g2 s2 e2 h2=>
  ⟨A2,st2,x,xs,Q3,s2,e1.grow g2,e2,h2,k.after (g1.trans g2)⟩⟩⟩
def zoy:PV->zQ:=λx xs st Q=>match x,xs with
 | .obj i,[y]=>(match st[i]? with | some (.lst zs)=>yG y=true/\zs.length < sizeLine/\Q .non (st.set i (.lst (zs++ [y]))) | _=>False)
 | _,_=>False
def zo1:PV->zQ:=λx xs st Q=>match x,xs with
 | .obj i,[.lst ys]=>(match st[i]? with | some (.lst zs)=>zs.length+ys.length<=sizeLine/\Q .non (st.set i (.lst (zs++ys))) | _=>False)
 | _,_=>False
def zoB:PV->zQ:=λx xs st Q=>match x,xs with
 | .obj i,[]=>(match st[i]? with | some (.lst zs)=>(match zs.getLast? with | some y=>Q y (st.set i (.lst zs.dropLast)) | none=>False) | _=>False)
 | _,_=>False
def tH:PV->z7->Option (List (zC×PV))
 | .dct kvs,_=>some kvs
 | .obj i,st=>(match st[i]? with | some (.dct kvs)=>some kvs | _=>none)
 | _,_=>none
theorem j1 {K:Frag}{A:List Addr}{H:Hp}{st:z7}{x:PV}{v:V}{kvs:List (zC×PV)}(rs:RS K A H st)(ex:RE K A H x v)(h:tH x st=some kvs): ∃a us,v= .ref a/\H a=some (.dK us)/\RKs K A H kvs us/\us.length<=sizeLine:=by
 cases ex with
 | val e=>
  cases e with
  | dct t z r=>cases h;exact⟨_,_,rfl,t.1,r,z⟩
  | _=>cases h
 | obj eo=>
  dsimp only[tH]at h
  split at h
  ·rename_i q
   cases h;obtain⟨vs,h1,r,z⟩:=rs.at_ _ _ _ eo q;exact⟨_,_,rfl,h1,r,z⟩
  ·cases h
def nA:PV->zQ:=λx xs st Q=>match tH x st,xs with
 | some kvs,[y]=>(match wU y with | some k=>Q ((x8 kvs k).getD .non) st | none=>False)
 | some kvs,[y,z]=>(match wU y with | some k=>yG z=true/\Q ((x8 kvs k).getD z) st | none=>False)
 | _,_=>False
theorem zmn {k:Nat}(hr:zF k X.A):uR X "dict.get" (o6 X.K nA):=by
 intro pins s σ H v vs vv us Q I rv rvs ⟨A,st,x,xs,Q3,rs,ex,exs,h,k⟩;have hu:X.A.units+1 < cLine:=by have:=hr.units;omega
 unfold nA at h
 split at h
 ·rename_i kvs y ed
  obtain⟨a,ks,rfl,h1,r,z⟩:=j1 rs ex ed;obtain⟨w,rfl,ey⟩:=yK.one exs;cases rv;obtain⟨u,rfl,ru⟩:=zI.one rvs
  split at h
  ·rename_i kk ek
   have ew:=rO ey ek;refine zjN hu I (.inl ⟨ks,kk,.inl h1,ew,rfl⟩) ru λw' s' I' rw'=> ?_;rcases r.val (k:=kk)with⟨x',v',e1,e2,r'⟩ | ⟨e1,e2⟩
   ·rw[e2]at rw';rw[e1]at h
    exact⟨v',H,I',rw',k.now rs (.val r') h⟩
   ·rw[e2]at rw';rw[e1]at h
    exact⟨.non,H,I',rw',k.now rs (.val .non) h⟩
  ·exact h.elim
 ·rename_i kvs y z0 ed
  obtain⟨a,ks,rfl,h1,r,z⟩:=j1 rs ex ed;obtain⟨w,w2,rfl,ey,ez⟩:=yK.two exs;cases rv;obtain⟨u,u2,rfl,ru,ru2⟩:=zI.two rvs
  split at h
  ·rename_i kk ek
   have ew:=rO ey ek;refine zjO hu I (.inl ⟨ks,kk,.inl h1,ew,rfl⟩) ru ru2 λw' s' I' rw'=> ?_;rcases r.val (k:=kk)with⟨x',v',e1,e2,r'⟩ | ⟨e1,e2⟩
   ·rw[e2]at rw';rw[e1]at h
    exact⟨v',H,I',rw',k.now rs (.val r') h.2⟩
   ·rw[e2]at rw';rw[e1]at h
    exact⟨_,H,I',rw',k.now rs ez h.2⟩
  ·exact h.elim
 ·exact h.elim
def zhp:PV->zQ:=λx xs st Q=>match x,xs with
 | .str sep,[y]=> ∃ss:List Str,jJ y st=some (ss.map PV.str)/\(ss.map (·.length)).sum+ss.length * sep.length<=16777216/\Q (.str (Txt.join sep ss)) st
 | _,_=>False
theorem zb_:uR X "str.join" (o6 X.K zhp):=by
 intro pins s σ H v vs vv us Q I rv rvs ⟨A,st,x,xs,Q3,rs,ex,exs,h,k⟩;unfold zhp at h
 split at h
 ·obtain⟨w,rfl,ey⟩:=yK.one exs
  cases wJ ex;obtain⟨ss,e,hl,h⟩:=h;obtain⟨a,ws,rfl,hs,r,z⟩:=zgk rs ey e;cases zhy r;exact zlT pins s σ H _ _ vv us Q I rv rvs ⟨_,a,ss,rfl,rfl,hs,hl,k.now rs (.val (.str _)) h⟩
 ·exact h.elim
def vL:PV->Bool
 | .non=>true
 | .bl _=>true
 | .int _=>true
 | .str _=>true
 | _=>false
def tK (x:PV)(ys:List PV):Bool:=ys.any λy=>y3 y x
theorem zba {K:Frag}{A:List Addr}{H:Hp}{x:PV}{v:V}(r:RV K A H x v):tJ v=vL x:=by
 cases r <;> rfl
theorem zbb {K:Frag}{A:List Addr}{H:Hp} : ∀{xs:List PV} {vs:List V},RVs K A H xs vs->vs.all tJ=xs.all vL
 | _,_,.nil=>rfl
 | _,_,.cons r t=>by rw[List.all_cons,List.all_cons,zba r,zbb t]
theorem zkf {K:Frag}{A:List Addr}{H:Hp}{x y:PV}{v w:V}(r:RV K A H x v)(r2:RV K A H y w)(f:vL x=true)(f2:vL y=true):tI v w=y3 x y:=by
 cases r <;> first | (exact absurd f Bool.false_ne_true) | skip
 all_goals (cases r2 <;> first | (exact absurd f2 Bool.false_ne_true) | skip)
 all_goals (unfold tI y3;rfl)
theorem zbk {K:Frag}{A:List Addr}{H:Hp}{x:PV}{v:V}(r:RV K A H x v)(f:vL x=true): ∀{xs:List PV} {vs:List V},RVs K A H xs vs->xs.all vL=true->rK v vs=tK x xs
 | _,_,.nil,_=>rfl
 | _,_,.cons r1 t,h=>by
  rw[List.all_cons,Bool.and_eq_true]at h;have ih:=zbk r f t h.2;unfold rK tK at ih⊢
  rw[List.any_cons,List.any_cons,ih,zkf r1 r h.1 f]
def zcw:PV->z7->Option (List PV)
 | .tup xs,_=>some xs
 | .lst xs,_=>some xs
 | .obj i,st=>(match st[i]? with | some (.lst xs)=>some xs | _=>none)
 | _,_=>none
def wY (neg:Bool):R3:=λx y st Q=>match zcw y st with
 | some xs=>(vL x=true/\xs.all vL=true)/\Q (.bl (if neg then !tK x xs else tK x xs)) st
 | none=>(match tH y st with
  | some kvs=>(match wU x with | some k=>Q (.bl (if neg then !(x8 kvs k).isSome else(x8 kvs k).isSome)) st | none=>False)
  | none=>(match x,y with | .str i,.str j=>Q (.bl (if neg then !(!(Builtin.Str.occurrences j i 0 j.length 1).isEmpty)else !(Builtin.Str.occurrences j i 0 j.length 1).isEmpty)) st | _,_=>False))
theorem zh7 {K:Frag}{A:List Addr}{H:Hp}{st:z7}{x:PV}{v:V}{xs:List PV}(rs:RS K A H st)(ex:RE K A H x v)(h:zcw x st=some xs): ∃a vs,v= .ref a/\(yS K H a vs∨xQ K H a vs)/\RVs K A H xs vs:=by
 cases ex with
 | val e=>
  cases e with
  | lst t z r=>cases h;exact⟨_,_,rfl,.inl t.sq,r⟩
  | tup t z r=>cases h;exact⟨_,_,rfl,.inr t.sq,r⟩
  | _=>cases h
 | obj eo=>
  dsimp only[zcw]at h
  split at h
  ·rename_i q
   cases h;obtain⟨vs,h1,r,z⟩:=rs.at_ _ _ _ eo q;exact⟨_,_,rfl,.inl (.of h1),r⟩
  ·cases h
theorem zfD {x:PV}(h:vL x=true):yG x=true:=by
 cases x <;> first | rfl | cases h
theorem sK {k:Nat}(hr:zF k X.A):y1 X (compareOp .In) (xA X.K (wY false)):=uB λpins s σ H A st x y v w vv ww Q3 Q I rs ex ey rv rw h k=>by
 have hu:X.A.units+1 < cLine:=by have:=hr.units;omega
 unfold wY at h
 split at h
 ·rename_i xs e
  obtain⟨a,ws,rfl,hs,r⟩:=zh7 rs ey e;obtain⟨⟨f1,f2⟩,h⟩:=h;have ex':=ex.rv (zfD f1);refine zmP pins s σ H _ _ vv ww Q I rv rw ⟨a,ws,rfl,hs,by rw[zba ex'];exact f1,by rw[zbb r];exact f2,?_⟩;have e2:=zbk ex' f1 r f2;have:(if false=true then !rK v ws else rK v ws)=tK x xs:=by rw[if_neg Bool.false_ne_true,e2]
  rw[this];exact k.now rs (.val (.bl _)) h
 ·split at h
  ·rename_i kvs e
   obtain⟨a,us,rfl,h1,r,z⟩:=j1 rs ey e
   split at h
   ·rename_i kk ek
    cases rw;refine zjQ hu I (.inl ⟨us,kk,.inl h1,rO ex ek,rfl⟩) rv λs' I'=>⟨.bl _,H,I',rfl,?_⟩;rcases r.val (k:=kk)with⟨x',v',e1,e2,r'⟩ | ⟨e1,e2⟩
    ·rw[e2];rw[e1]at h;exact k.now rs (.val (.bl _)) h
    ·rw[e2];rw[e1]at h;exact k.now rs (.val (.bl _)) h
   ·exact h.elim
  ·split at h
   ·cases wJ ex;cases wJ ey
    exact zmQ pins s σ H _ _ vv ww Q I rv rw ⟨_,_,rfl,rfl,k.now rs (.val (.bl _)) h⟩
   ·exact h.elim
theorem zg3 {k:Nat}(hr:zF k X.A):y1 X (compareOp .NotIn) (xA X.K (wY true)):=uB λpins s σ H A st x y v w vv ww Q3 Q I rs ex ey rv rw h k=>by
 have hu:X.A.units+1 < cLine:=by have:=hr.units;omega
 unfold wY at h
 split at h
 ·rename_i xs e
  obtain⟨a,ws,rfl,hs,r⟩:=zh7 rs ey e;obtain⟨⟨f1,f2⟩,h⟩:=h;have ex':=ex.rv (zfD f1);refine zmW pins s σ H _ _ vv ww Q I rv rw ⟨a,ws,rfl,hs,by rw[zba ex'];exact f1,by rw[zbb r];exact f2,?_⟩;have e2:=zbk ex' f1 r f2;have:(if true=true then !rK v ws else rK v ws)= !tK x xs:=by rw[if_pos rfl,e2]
  rw[this];exact k.now rs (.val (.bl _)) h
 ·split at h
  ·rename_i kvs e
   obtain⟨a,us,rfl,h1,r,z⟩:=j1 rs ey e
   split at h
   ·rename_i kk ek
    cases rw;refine zjS hu I (.inl ⟨us,kk,.inl h1,rO ex ek,rfl⟩) rv λs' I'=>⟨.bl _,H,I',rfl,?_⟩;rcases r.val (k:=kk)with⟨x',v',e1,e2,r'⟩ | ⟨e1,e2⟩
    ·rw[e2];rw[e1]at h;exact k.now rs (.val (.bl _)) h
    ·rw[e2];rw[e1]at h;exact k.now rs (.val (.bl _)) h
   ·exact h.elim
  ·split at h
   ·cases wJ ex;cases wJ ey
    exact zmX pins s σ H _ _ vv ww Q I rv rw ⟨_,_,rfl,rfl,k.now rs (.val (.bl _)) h⟩
   ·exact h.elim
end
theorem at0 {α:Type}{x:α}{xs:List α} :atI (x::xs) 0=some x:=sC (j:=0) rfl
theorem mH {α:Type}{x y:α}{xs:List α} :atI (x::y::xs) 1=some y:=sC (j:=1) rfl
theorem at2 {α:Type}{x y z:α}{xs:List α} :atI (x::y::z::xs) 2=some z:=sC (j:=2) rfl
theorem at3 {α:Type}{x y z u:α}{xs:List α} :atI (x::y::z::u::xs) 3=some u:=sC (j:=3) rfl
theorem at4 {α:Type}{x y z u v:α}{xs:List α} :atI (x::y::z::u::v::xs) 4=some v:=sC (j:=4) rfl
theorem ix0 {n:Nat} :wN (n+1) 0=some 0:=by unfold wN;rw[if_pos (by decide),if_pos (by omega)];rfl
theorem ix1 {n:Nat} :wN (n+2) 1=some 1:=by unfold wN;rw[if_pos (by decide),if_pos (by omega)];rfl
theorem zqk {α:Type}{st:List α} :st.take (st.length+0)=st:=by simp
theorem zhW {α:Type}{st:List α}{i:Nat}{x:α} :(st.set i x).take (st.length+0)=st.set i x:=by rw[Nat.add_zero,List.take_of_length_le (by simp)]
theorem set_set {α:Type}{st:List α}{i:Nat}{x y:α} :(st.set i x).set i y=st.set i y:=by simp
theorem zk8 {α:Type}{st:List α}{i:Nat}{x y:α}(h:st[i]?=some y):(st.set i x)[i]?=some x:=List.getElem?_set_self (List.getElem?_eq_some_iff.mp h).1
theorem zi1 {p:zC×PV}{r:List (zC×PV)}{k:zC}(e:p.1=k):x8 (p::r) k=some p.2:=by simp[x8,List.find?_cons,e]
theorem zcS {p:zC×PV}{r:List (zC×PV)}{k:zC}(e: ¬ p.1=k):x8 (p::r) k=x8 r k:=by simp[x8,List.find?_cons,e]
theorem ziy (k:zC): ∀kvs:List (zC×PV),(kvs.any λkv=>decide (kv.1=k))=(x8 kvs k).isSome
 | []=>rfl
 | p::r=>by
  rw[List.any_cons];by_cases e:p.1=k
  ·rw[zi1 e,decide_eq_true e];rfl
  ·rw[zcS e,decide_eq_false e,ziy k r];rfl
theorem zoc {kvs:List (zC×PV)}{k:zC}(v:PV)(h:x8 kvs k=none):vM kvs k v=kvs++ [(k,v)]:=by
 unfold vM;rw[ziy,h];rfl
def xR (l:List (Str×Int)):List (zC×PV):=l.map λq=>(Sum.inr q.1,PV.int q.2)
theorem mR {q:Str×Int}{l:List (Str×Int)} :xR (q::l)=(Sum.inr q.1,PV.int q.2)::xR l:=rfl
theorem ziz: ∀(l:List (Str×Int)) (x:Str),(x8 (xR l) (Sum.inr x)).getD (.int 0)= .int (lZ l x)
 | [],_=>rfl
 | q::l,x=>by
  rw[mR];unfold lZ;by_cases h:q.1=x
  ·rw[zi1 (by rw[h]),if_pos h];rfl
  ·rw[zcS (λe=>h (by cases e;rfl)),if_neg h]
   exact ziz l x
theorem zi0: ∀{l:List (Str×Int)} {x:Str},¬ x∈l.map (·.1)->x8 (xR l) (Sum.inr x)=none
 | [],_,_=>rfl
 | q::l,x,h=>by
  rw[List.map_cons,List.mem_cons,not_or]at h;rw[mR,zcS (λe=>h.1 (by cases e;rfl))];exact zi0 h.2
theorem zln (a b:List (Str×Int)):xR (a++b)=xR a++xR b:=by
 unfold xR;simp
theorem zgm: ∀{l:List (Str×Int)} {x:Str} {m:Int},¬ x∈l.map (·.1)->((xR l).map λkv=>if kv.1=Sum.inr x then(kv.1,PV.int m)else kv)=xR l
 | [],_,_,_=>rfl
 | q::l,x,m,h=>by
  rw[List.map_cons,List.mem_cons,not_or]at h;rw[mR,List.map_cons,zgm h.2,if_neg (λe=>h.1 (by cases e;rfl))]
theorem mapP: ∀{l:List (Str×Int)} {x:Str} {m:Int},(l.map (·.1)).Nodup->x∈l.map (·.1)->((xR l).map λkv=>if kv.1=Sum.inr x then(kv.1,PV.int m)else kv)=xR (oX l x m)
 | q::l,x,m,hn,h=>by
  have hn':=List.nodup_cons.mp hn;rw[mR,List.map_cons];unfold oX;by_cases e:q.1=x
  ·subst e
   rw[if_pos rfl,if_pos rfl,zgm hn'.1];rfl
  ·rw[if_neg (λz=>e (by cases z;rfl)),if_neg e,mapP hn'.2 ((List.mem_cons.mp h).resolve_left λz=>e z.symm)];rfl
theorem zdt: ∀{l:List (Str×Int)} {x:Str},x∈l.map (·.1)->((xR l).any λkv=>decide (kv.1=Sum.inr x))=true
 | q::l,x,h=>by
  rw[mR,List.any_cons];rcases List.mem_cons.mp h with e | h
  ·subst e;simp
  ·rw[zdt h];simp
theorem zob {l:List (Str×Int)}{x:Str}{m:Int}(hn:(l.map (·.1)).Nodup):vM (xR l) (Sum.inr x) (.int m)=xR (oX l x m):=by
 by_cases h:x∈l.map (·.1)
 ·unfold vM
  rw[if_pos (by simpa using zdt h)];exact mapP hn h
 ·rw[zoc _ (zi0 h),zbL h,zln];rfl
theorem zgo: ∀(b a:List (Str×Int)),((a++b).map (·.1)).Nodup->oO (xR a) (xR b)=xR (a++b)
 | [],a,_=>by rw[List.append_nil];rfl
 | q::b,a,hn=>by
  have hq: ¬ q.1∈a.map (·.1):=λz=>by
   rw[List.map_append,List.map_cons]at hn;exact(List.nodup_append.mp hn).2.2 _ z _ (.head _) rfl
  have hna:(a.map (·.1)).Nodup:=by
   rw[List.map_append]at hn;exact(List.nodup_append.mp hn).1
  have e1:a++q::b=(a++ [q])++b:=by simp
  rw[e1]at hn⊢
  show oO (vM (xR a) (Sum.inr q.1) (.int q.2)) (xR b)=_;rw[zob hna,zbL hq];exact zgo b (a++ [q]) hn
theorem zlL {l:List (Str×Int)}(hn:(l.map (·.1)).Nodup):oO [] (xR l)=xR l:=zgo l [] hn
def qQ (l:List (Str×Int)):PV:= .tup (l.map λq=> .tup [.str q.1,.int q.2])
theorem zk9 {α:Type}{st:List α}{i:Nat}{x:α}(h:(st[i]?).isSome=true):(st.set i x)[i]?=some x:=by
 obtain⟨y,e⟩:=Option.isSome_iff_exists.mp h;exact zk8 e
theorem zkl {Q:K3}{st:z7}{x:PO} :yZ (st.length+1) Q (.obj st.length) (st++ [x])=Q (.obj st.length) (st++ [x]):=by
 show(if st.length < st.length+1 then _ else _)=_;rw[if_pos (Nat.lt_succ_self _),List.take_of_length_le (by simp)]
theorem zdZ {Q:K3}{st:z7}{xs:List PV} :yZ (st.length+0) Q (.obj st.length) (st++ [.lst xs])=Q (.lst xs) st:=by
 show(if st.length < st.length+0 then _ else _)=_;rw[if_neg (by omega)];have:(st++ [PO.lst xs])[st.length]?=some (.lst xs):=by simp
 rw[this];simp
theorem zea {Q:K3}{st:z7}{xs:List (zC×PV)} :yZ (st.length+0) Q (.obj st.length) (st++ [.dct xs])=Q (.dct xs) st:=by
 show(if st.length < st.length+0 then _ else _)=_;rw[if_neg (by omega)];have:(st++ [PO.dct xs])[st.length]?=some (.dct xs):=by simp
 rw[this];simp
theorem zdv {α:Type}(f:α->PV){ns:List α}{k:Int}(h0:0<=k)(h1:k < ns.length): ∃z∈ns,atI (ns.map f) k=some (f z):=by
 obtain⟨y,hy,e⟩:=zjk (ns.map f) h0 (by simpa using h1);obtain⟨z,hz,rfl⟩:=List.mem_map.mp hy;exact⟨z,hz,e⟩
theorem zlu {α:Type}{st:List α}{x:α} :(st++ [x])[st.length]?=some x:=by simp
theorem zpo {α:Type}{st:List α}{x y:α} :(st++ [x]).set st.length y=st++ [y]:=by simp
theorem zhV {α:Type}{st:List α}{x:α} :(st++ [x]).take (st.length+0)=st:=by simp
theorem zqj {α:Type}{st:List α}{x:α} :(st++ [x]).take (st.length+1)=st++ [x]:=by rw[List.take_of_length_le (by simp)]
theorem pB {α:Type}{e:List α}(h:e.length=1): ∃a,e= [a]:=List.length_eq_one_iff.mp h
theorem zls {α:Type}{e:List α}(h:e.length=2): ∃a b,e= [a,b]:=by
 match e,h with
 | [a,b],_=>exact⟨a,b,rfl⟩
theorem zlt {α:Type}{e:List α}(h:e.length=3): ∃a b c,e= [a,b,c]:=by
 match e,h with
 | [a,b,c],_=>exact⟨a,b,c,rfl⟩
def CP (f:PV->Option PV)(own:Nat)(xs:List PV)(env:zE)(st:z7)(i:Nat)(ys:List PV)(env':zE)(st':z7):Prop:=ys=(xs.take i).filterMap f/\st'=st/\∃e',e'.length=own/\env'=env++e'
theorem zcC {α:Type}{xs:List α}{i:Nat}{x:α}(h:xs[i]?=some x):xs.take (i+1)=xs.take i++ [x]:=by rw[List.take_succ,h];rfl
theorem CP.yes {f:PV->Option PV}{own:Nat}{xs:List PV}{env:zE}{st:z7}{i:Nat}{x y:PV}{e':zE}(h:xs[i]?=some x)(hf:f x=some y)(he:e'.length=own):CP f own xs env st (i+1) ((xs.take i).filterMap f++ [y]) (env++e') st:=by
 refine⟨?_,rfl,e',he,rfl⟩;rw[zcC h,List.filterMap_append,List.filterMap_cons,hf];rfl
theorem CP.no {f:PV->Option PV}{own:Nat}{xs:List PV}{env:zE}{st:z7}{i:Nat}{x:PV}{e':zE}(h:xs[i]?=some x)(hf:f x=none)(he:e'.length=own):CP f own xs env st (i+1) ((xs.take i).filterMap f) (env++e') st:=by
 refine⟨?_,rfl,e',he,rfl⟩;rw[zcC h,List.filterMap_append,List.filterMap_cons,hf];simp
theorem o8 {own:Nat}{g:xN}{tt:yR}{el:zA}{xs:List PV}{Q:List PV->z7->Prop}{env:zE}{st:z7}(f:PV->Option PV)
  (hs: ∀i x e,xs[i]?=some x->e.length=own->g x (env++e) st λe1 s1=>tt e1 s1 λb s2=>if b=true then el e1 s2 λy s3=>yG y=true/\CP f own xs env st (i+1) ((xs.take i).filterMap f++ [y]) e1 s3 else CP f own xs env st (i+1) ((xs.take i).filterMap f) e1 s2)
  (hd:Q (xs.filterMap f) st):tX own g tt el none xs Q env st:=by
 refine⟨CP f own xs env st,⟨by simp,rfl,_,by simp,rfl⟩,?_,?_⟩
 ·rintro i x ys env' st' hx ⟨rfl,rfl,e',he,rfl⟩
  exact hs i x e' hx he
 ·rintro ys env' st' ⟨rfl,rfl,e',he,rfl⟩
  show Q _ _;rw[List.take_of_length_le (Nat.le_refl _)];exact hd
theorem jA {g:xN}{b:yC}{src:xM}{xs:List PV}{D:yU}{env:zE}{st:z7}(P:Nat->zE->z7->Prop)(h0:P 0 env st)
  (hs: ∀i x env st,xs[i]?=some x->P i env st->uP src st (g x env st λe s=>b {D with nx:=P (i+1),ct:=P (i+1),bk:=D.nx} e s)) (hd: ∀env st,P xs.length env st->uP src st (D.nx env st)):gD g b src xs D env st:=⟨P,h0,hs,hd⟩
theorem rQ {α:Type}{f:α->PV}{l:List α}{i:Nat}{x:PV}(h:(l.map f)[i]?=some x): ∃y,l[i]?=some y/\x=f y:=by
 rw[List.getElem?_map]at h;cases e:l[i]? with
 | none=>rw[e]at h;cases h
 | some y=>rw[e]at h;exact⟨y,rfl,(Option.some.inj h).symm⟩
theorem eI {α:Type}{f:α->PV}{n:Nat}(h: ∀x,zO (f x)<=n): ∀(l:List α),dpts (l.map f)<=n
 | []=>by rw[List.map_nil];unfold dpts;exact Nat.zero_le _
 | x::l=>by
  rw[List.map_cons];unfold dpts;exact Nat.max_le.mpr ⟨h x,eI h l⟩
theorem zdQ (l:List (Str×Int)):zO (qQ l)<=2:=by
 unfold qQ zO;exact Nat.succ_le_succ (eI (λq=>by simp[zO,dpts]) l)
theorem zdW:(∀{i j:Int},y3 (.int i) (.int j)=(i==j))/\(∀{a b:Str},y3 (.str a) (.str b)=(a==b))/\(∀{a b:Bool},y3 (.bl a) (.bl b)=(a==b))/\(y3 .non .non=true)/\(∀{a b:List PV},y3 (.tup a) (.tup b)=eqPs a b)/\(∀{a b:List PV},y3 (.lst a) (.lst b)=eqPs a b)/\(∀{i:Int},y3 (.int i) .non=false)/\(∀{i:Str},y3 (.str i) .non=false)/\(∀{i:List PV},y3 (.tup i) .non=false)/\(∀{i:Int},y3 .non (.int i)=false)/\(∀{i:Str},y3 .non (.str i)=false)/\(∀{i:List PV},y3 .non (.tup i)=false)/\(∀{a:List PV} {b:Str},y3 (.tup a) (.str b)=false)/\(∀{a:List PV} {b:Str},y3 (.str b) (.tup a)=false)/\(eqPs [] []=true)/\(∀{x xs},eqPs (x::xs) []=false)/\(∀{x xs},eqPs [] (x::xs)=false)/\(∀{x xs y ys},eqPs (x::xs) (y::ys)=(y3 x y&&eqPs xs ys)):=by
 refine⟨?_,?_,?_,?_,?_,?_,?_,?_,?_,?_,?_,?_,?_,?_,?_,?_,?_,?_⟩ <;> intros <;> first | rfl | (unfold y3;rfl) | (unfold eqPs;rfl)
theorem zdR:(zO .non=0)/\(∀{i},zO (.int i)=0)/\(∀{i},zO (.str i)=0)/\(∀{i},zO (.bl i)=0)/\(∀{i},zO (.tup i)=dpts i+1)/\(∀{i},zO (.lst i)=dpts i+1)/\(dpts []=0)/\(∀{x xs},dpts (x::xs)=max (zO x) (dpts xs)):=by
 refine⟨?_,?_,?_,?_,?_,?_,?_,?_⟩ <;> intros <;> first | rfl | (unfold zO;rfl) | (unfold dpts;rfl)
theorem zdS (l:List (Str×Int)):zO (qQ l)<=50:=Nat.le_trans (zdQ l) (by decide)
theorem zdT (l:List (Str×Int)):zO (qQ l) < 1000:=Nat.lt_of_le_of_lt (zdQ l) (by decide)
def zis:yC:=λ_ _ _=>False
section
variable {X:Cx}
theorem zbQ {st:Stmt} :PS X st (yP X.K zis):=uZ znL λD σ H ⟨A,env,s,D3,rel,h,k⟩=>h
def zqF (T:zA)(Tl:rA):zA:=λenv st Q=>T env st λx st1=>Tl env st1 λl st2=>l=some (-1)/\(match x with | .lst xs=>Q (.lst xs.reverse) st2 | _=>False)
end
theorem zdM (xs:List PV)(a:Nat):vS xs (some (a:Int)) none=xs.drop a:=by
 unfold vS;rw[HT.sIx_nat,HT.sIx_none];rcases Nat.le_total a xs.length with h | h
 ·rw[Nat.min_eq_left h,List.take_of_length_le (by rw[List.length_drop];exact Nat.le_refl _)]
 ·rw[Nat.min_eq_right h,List.drop_of_length_le (Nat.le_refl _),List.drop_of_length_le h];simp
section
variable {α:Type} [DecidableEq α]
def lcp:List α->List α->Nat
 | x::xs,y::ys=>if x=y then lcp xs ys+1 else 0
 | _,_=>0
def tG (xs ys:List α):Nat:=lcp xs ys
def chE (xs ys:List α):Nat:=lcp (xs.drop (tG xs ys)).reverse (ys.drop (tG xs ys)).reverse
def kZ (xs ys:List α):List α:=(ys.take (ys.length - chE xs ys)).drop (tG xs ys)
end
section
variable {α:Type} [DecidableEq α]
def qT (xs ys:List α):Nat:=xs.length - chE xs ys
def both (w:List α)(a b:Nat)(u:List α)(c d:Nat)(v:List α):List α:=w.take a++u++(w.take c).drop b++v++w.drop d
def three (w m y:List α):Option (List α):=
 if y=w then some m else if m=w∨m=y then some y else
 if decide (qT w m<=tG w y)=decide (qT w y<=tG w m)then none else
 if qT w m<=tG w y then some (both w (tG w m) (qT w m) (kZ w m) (tG w y) (qT w y) (kZ w y))
 else some (both w (tG w y) (qT w y) (kZ w y) (tG w m) (qT w m) (kZ w m))
end
section
variable {X:Cx}
def zqI (T:zA):zA:=λenv st Q=>T env st λx st1=>match x with | .tup xs=>Q (.tup xs.reverse) st1 | _=>False
end
section
variable {X:Cx} {a b c:Expr} {pos:Pos} {Tx:y2}
def zqB (i j l:Nat)(T:y2):yC:=λD env st=>T env st λxs st1=>match xs with | [x,y,z]=>D.nx (((env.set l (some z)).set j (some y)).set i (some x)) st1 | _=>False
end
set_option smartUnfolding false
def xG {α:Type}(o:Option α)(F:α->Prop):Prop:=match o with | some x=>F x | none=>False
section
variable {i j:Int} {a b:Str} {xs ys zs:List PV} {x y z:PV} {n m:Nat} {st:z7} {Q:K3} {p q:Bool} {kvs:List (zC×PV)} {env:zE}
@[simp] theorem zrp:n0 (.int i) (.int j) st Q=Q (.int (i+j)) st:=rfl
@[simp] theorem zrr:n0 (.str a) (.str b) st Q=(a.length+b.length<=sizeLine/\Q (.str (a++b)) st):=rfl
@[simp] theorem zrs:n0 (.tup xs) (.tup ys) st Q=(xs.length+ys.length<=sizeLine/\Q (.tup (xs++ys)) st):=rfl
@[simp] theorem zrq:n0 (.lst xs) (.lst ys) st Q=(xs.length+ys.length<=sizeLine/\Q (.lst (xs++ys)) st):=rfl
@[simp] theorem zt0:zch (.int i) (.int j) st Q=Q (.int (i - j)) st:=rfl
@[simp] theorem zsD:i4 (.int i) (.int j) st Q=(((-(2 ^ 64) < i/\i < 2 ^ 64)∨(-(2 ^ 64) < j/\j < 2 ^ 64))/\Q (.int (i * j)) st):=rfl
@[simp] theorem zsE:i4 (.str a) (.int i) st Q=(if i=0 then Q (.str Str.empty) st else i=1/\Q (.str a) st):=rfl
@[simp] theorem zsC:zcb (.int i) (.int j) st Q=(0 < j/\Q (.int (i % j)) st):=rfl
@[simp] theorem zr7:zbS (.int i) (.int j) st Q=((0 < j/\j < 1099511627776)/\Q (.int (i / j)) st):=rfl
@[simp] theorem zti:zcd (.int i) (.int j) st Q=(k6 i j/\Q (.int (i ^ j.toNat)) st):=rfl
@[simp] theorem zsG:zo_ (.int i) st Q=Q (.int (-i)) st:=rfl
@[simp] theorem zr3 {f:Int->Int->Bool} :pM f (.int i) (.int j) st Q=Q (.bl (f i j)) st:=rfl
@[simp] theorem zsb:zbW x .non st Q=Q (.bl (u8 x)) st:=rfl
@[simp] theorem zsR:zoA x .non st Q=Q (.bl (!u8 x)) st:=rfl
@[simp] theorem zsH:u8 .non=true:=rfl
@[simp] theorem zsK:u8 (.int i)=false:=rfl
@[simp] theorem zsN:u8 (.str a)=false:=rfl
@[simp] theorem zsI:u8 (.bl p)=false:=rfl
@[simp] theorem zsO:u8 (.tup xs)=false:=rfl
@[simp] theorem zsL:u8 (.lst xs)=false:=rfl
@[simp] theorem zsJ:u8 (.dct kvs)=false:=rfl
@[simp] theorem zsM:u8 (.obj n)=false:=rfl
@[simp] theorem zs0:wU (.int i)=some (.inl i):=rfl
@[simp] theorem zs1:wU (.str a)=some (.inr a):=rfl
def ixO (o:Option PO)(y:PV)(st:z7)(Q:K3):Prop:=match o with
 | some (.lst xs)=>(match y with | .int i=>xG (atI xs i) λz=>Q z st | _=>False)
 | some (.dct kvs)=>xG (wU y) λk=>xG (x8 kvs k) λz=>Q z st
 | _=>False
@[simp] theorem zsz:pO (.tup xs) (.int i) st Q=xG (atI xs i) λz=>Q z st:=rfl
@[simp] theorem zst:pO (.lst xs) (.int i) st Q=xG (atI xs i) λz=>Q z st:=rfl
@[simp] theorem zsy:pO (.str a) (.int i) st Q=(a.length<=sizeLine/\xG (atI a.cps.toList i) λc=>Q (.str ⟨#[c]⟩) st):=rfl
@[simp] theorem zsr:pO (.dct kvs) y st Q=xG (wU y) λk=>xG (x8 kvs k) λz=>Q z st:=rfl
@[simp] theorem zsu:pO (.obj n) y st Q=ixO st[n]? y st Q:=rfl
@[simp] theorem zsw:ixO (some (.lst xs)) (.int i) st Q=xG (atI xs i) λz=>Q z st:=rfl
@[simp] theorem zsv:ixO (some (.dct kvs)) y st Q=xG (wU y) λk=>xG (x8 kvs k) λz=>Q z st:=rfl
def zcy (o:Option PO)(n:Nat)(i v:PV)(st:z7)(Q:z7->Prop):Prop:=match o with
 | some (.lst xs)=>(match i with | .int k=>yG v=true/\xG (wN xs.length k) λj=>Q (st.set n (.lst (xs.set j v))) | _=>False)
 | some (.dct kvs)=>xG (wU i) λk=>yG v=true/\kvs.length < sizeLine/\Q (st.set n (.dct (vM kvs k v)))
 | _=>False
@[simp] theorem ztq {Q:z7->Prop} :lG (.obj n) x y st Q=zcy st[n]? n x y st Q:=rfl
@[simp] theorem zts {Q:z7->Prop} :zcy (some (.lst xs)) n (.int i) y st Q=(yG y=true/\xG (wN xs.length i) λj=>Q (st.set n (.lst (xs.set j y)))):=rfl
@[simp] theorem ztr {Q:z7->Prop} :zcy (some (.dct kvs)) n x y st Q=xG (wU x) λk=>yG y=true/\kvs.length < sizeLine/\Q (st.set n (.dct (vM kvs k y))):=rfl
@[simp] theorem ztv {l h:Option Int} :pP (.tup xs) l h st Q=Q (.tup (vS xs l h)) st:=rfl
@[simp] theorem ztt {l h:Option Int} :pP (.lst xs) l h st Q=Q (.lst (vS xs l h)) st:=rfl
@[simp] theorem ztu {l h:Option Int} :pP (.str a) l h st Q=(a.length<=sizeLine/\((Txt.slice a l h).length<=a.length->Q (.str (Txt.slice a l h)) st)):=rfl
def zbx (o:Option PO)(k:Nat->Prop):Prop:=match o with | some (.lst xs)=>k xs.length | some (.dct kvs)=>k kvs.length | _=>False
@[simp] theorem zs2:zbX [x] st Q=pD x st λn=>Q (.int n) st:=rfl
@[simp] theorem zs8 {k:Nat->Prop} :pD (.tup xs) st k=k xs.length:=rfl
@[simp] theorem zs3 {k:Nat->Prop} :pD (.lst xs) st k=k xs.length:=rfl
@[simp] theorem zs7 {k:Nat->Prop} :pD (.str a) st k=(a.length<=sizeLine/\k a.length):=rfl
@[simp] theorem zs4 {k:Nat->Prop} :pD (.obj n) st k=zbx st[n]? k:=rfl
@[simp] theorem zs6 {k:Nat->Prop} :zbx (some (.lst xs)) k=k xs.length:=rfl
@[simp] theorem zs5 {k:Nat->Prop} :zbx (some (.dct kvs)) k=k kvs.length:=rfl
def zid (o:Option PO)(st:z7)(Q:K3):Prop:=match o with | some (.lst ys)=>Q (.tup ys) st | _=>False
@[simp] theorem zt3:lH [.lst ys] st Q=Q (.tup ys) st:=rfl
@[simp] theorem zt6:lH [.tup ys] st Q=Q (.tup ys) st:=rfl
@[simp] theorem zt4:lH [.obj n] st Q=zid st[n]? st Q:=rfl
@[simp] theorem zt5:zid (some (.lst ys)) st Q=Q (.tup ys) st:=rfl
def zcE (o:Option PO)(st:z7)(Q:K3):Prop:=match o with | some (.lst ys)=>Q (.tup ys) st | some (.dct kvs)=>Q (.tup (kvs.map λq=>match q.1 with | .inl i=> .int i | .inr z=> .str z)) st | _=>False
@[simp] theorem ztI:zci [.lst ys] st Q=Q (.tup ys) st:=rfl
@[simp] theorem ztM:zci [.tup ys] st Q=Q (.tup ys) st:=rfl
@[simp] theorem ztJ:zci [.obj n] st Q=zcE st[n]? st Q:=rfl
@[simp] theorem ztL:zcE (some (.lst ys)) st Q=Q (.tup ys) st:=rfl
@[simp] theorem ztK:zcE (some (.dct kvs)) st Q=Q (.tup (kvs.map λq=>match q.1 with | .inl i=> .int i | .inr z=> .str z)) st:=rfl
@[simp] theorem zsk {t:String} :zo2 [x,.ty t] st Q=xG (xX x t) λb=>Q (.bl b) st:=rfl
@[simp] theorem zrP:xX (.bl p) "int" =some true:=rfl
@[simp] theorem zrQ:xX (.bl p) "bool" =some true:=rfl
@[simp] theorem zrR:xX (.bl p) "str" =some false:=rfl
@[simp] theorem zrS:xX (.bl p) "tuple" =some false:=rfl
@[simp] theorem zrT:xX (.bl p) "list" =some false:=rfl
@[simp] theorem zrU:xX (.int i) "int" =some true:=rfl
@[simp] theorem zrV:xX (.int i) "bool" =some false:=rfl
@[simp] theorem zrW:xX (.int i) "str" =some false:=rfl
@[simp] theorem zrX:xX (.int i) "tuple" =some false:=rfl
@[simp] theorem zrY:xX (.int i) "list" =some false:=rfl
@[simp] theorem zsc:xX (.str a) "int" =some false:=rfl
@[simp] theorem zsd:xX (.str a) "str" =some true:=rfl
@[simp] theorem zse:xX (.str a) "tuple" =some false:=rfl
@[simp] theorem zsf:xX (.tup xs) "int" =some false:=rfl
@[simp] theorem zsg:xX (.tup xs) "str" =some false:=rfl
@[simp] theorem zsh:xX (.tup xs) "tuple" =some true:=rfl
@[simp] theorem zsi:xX (.tup xs) "list" =some false:=rfl
@[simp] theorem zrZ:xX (.lst xs) "tuple" =some false:=rfl
@[simp] theorem zsa:xX (.lst xs) "list" =some true:=rfl
@[simp] theorem zrN:i3 [.int i] st Q=Q (.int i) st:=rfl
@[simp] theorem zrM:i3 [.bl p] st Q=Q (.int (if p then 1 else 0)) st:=rfl
@[simp] theorem zsB:zca [.int i,.int j] st Q=Q (.int (if j < i then j else i)) st:=rfl
@[simp] theorem zsA:zbZ [.int i,.int j] st Q=Q (.int (if j > i then j else i)) st:=rfl
def zcD (o:Option PO)(k:Bool->Prop):Prop:=match o with | some (.lst xs)=>k (!xs.isEmpty) | some (.dct xs)=>k (!xs.isEmpty) | _=>False
@[simp] theorem ztC {k:Bool->Prop} :uL .non st k=k false:=rfl
@[simp] theorem zt9 {k:Bool->Prop} :uL (.bl p) st k=k p:=rfl
@[simp] theorem ztA {k:Bool->Prop} :uL (.int i) st k=k (i !=0):=rfl
@[simp] theorem ztG {k:Bool->Prop} :uL (.str a) st k=(a.length<=sizeLine/\k ((a.length:Int) !=0)):=rfl
@[simp] theorem ztH {k:Bool->Prop} :uL (.tup xs) st k=k (!xs.isEmpty):=rfl
@[simp] theorem ztB {k:Bool->Prop} :uL (.lst xs) st k=k (!xs.isEmpty):=rfl
@[simp] theorem zt_ {k:Bool->Prop} :uL (.dct kvs) st k=k (!kvs.isEmpty):=rfl
@[simp] theorem ztD {k:Bool->Prop} :uL (.obj n) st k=zcD st[n]? k:=rfl
@[simp] theorem ztF {k:Bool->Prop} :zcD (some (.lst xs)) k=k (!xs.isEmpty):=rfl
@[simp] theorem ztE {k:Bool->Prop} :zcD (some (.dct kvs)) k=k (!kvs.isEmpty):=rfl
def zdu (o:Option PO)(n:Nat)(y:PV)(st:z7)(Q:K3):Prop:=match o with | some (.lst zs)=>yG y=true/\zs.length < sizeLine/\Q .non (st.set n (.lst (zs++ [y]))) | _=>False
@[simp] theorem zr1:zoy (.obj n) [y] st Q=zdu st[n]? n y st Q:=rfl
@[simp] theorem zr2:zdu (some (.lst zs)) n y st Q=(yG y=true/\zs.length < sizeLine/\Q .non (st.set n (.lst (zs++ [y])))):=rfl
def zeb (o:Option PO)(n:Nat)(ys:List PV)(st:z7)(Q:K3):Prop:=match o with | some (.lst zs)=>zs.length+ys.length<=sizeLine/\Q .non (st.set n (.lst (zs++ys))) | _=>False
@[simp] theorem zrE:zo1 (.obj n) [.lst ys] st Q=zeb st[n]? n ys st Q:=rfl
@[simp] theorem zrF:zeb (some (.lst zs)) n ys st Q=(zs.length+ys.length<=sizeLine/\Q .non (st.set n (.lst (zs++ys)))):=rfl
def zha (o:Option PO)(n:Nat)(st:z7)(Q:K3):Prop:=match o with | some (.lst zs)=>xG zs.getLast? λy=>Q y (st.set n (.lst zs.dropLast)) | _=>False
@[simp] theorem ztg:zoB (.obj n) [] st Q=zha st[n]? n st Q:=rfl
@[simp] theorem zth:zha (some (.lst zs)) n st Q=xG zs.getLast? λy=>Q y (st.set n (.lst zs.dropLast)):=rfl
def zdN (o:Option PO):Option (List (zC×PV)):=match o with | some (.dct kvs)=>some kvs | _=>none
@[simp] theorem zr4:tH (.dct kvs) st=some kvs:=rfl
@[simp] theorem zr5:tH (.obj n) st=zdN st[n]?:=rfl
@[simp] theorem zr6:zdN (some (.dct kvs))=some kvs:=rfl
theorem zdU:nA x [y] st Q=xG (tH x st) λkvs=>xG (wU y) λk=>Q ((x8 kvs k).getD .non) st:=by
 unfold nA xG;cases tH x st <;> rfl
theorem zdV:nA x [y,z] st Q=xG (tH x st) λkvs=>xG (wU y) λk=>yG z=true/\Q ((x8 kvs k).getD z) st:=by
 unfold nA xG;cases tH x st <;> rfl
def tyO (o:Option PO):String:=match o with | some (.lst _)=> "list" | some (.dct _)=> "dict" | _=> ""
@[simp] theorem ztO:tM (.lst xs) st= "list" :=rfl
@[simp] theorem ztN:tM (.dct kvs) st= "dict" :=rfl
@[simp] theorem ztS:tM (.str a) st= "str" :=rfl
@[simp] theorem ztP:tM (.obj n) st=tyO st[n]?:=rfl
@[simp] theorem ztR:tyO (some (.lst xs))= "list" :=rfl
@[simp] theorem ztQ:tyO (some (.dct kvs))= "dict" :=rfl
def zbq (o:Option PO):Option (List PV):=match o with | some (.lst xs)=>some xs | some (.dct kvs)=>some (kvs.map λq=>u9 q.1) | _=>none
@[simp] theorem zsm:tN (.lst xs) st=some xs:=rfl
@[simp] theorem zsq:tN (.tup xs) st=some xs:=rfl
@[simp] theorem zsl:tN (.dct kvs) st=some (kvs.map λq=>u9 q.1):=rfl
@[simp] theorem zsn:tN (.obj n) st=zbq st[n]?:=rfl
@[simp] theorem zsp:zbq (some (.lst xs))=some xs:=rfl
@[simp] theorem zso:zbq (some (.dct kvs))=some (kvs.map λq=>u9 q.1):=rfl
@[simp] theorem zs9:zbY [x] st Q=xG (tN x st) λys=>Q (.lst ys) st:=rfl
@[simp] theorem zs_:zo9 [x] st Q=xG (tN x st) λys=>Q (.obj st.length) (st++ [.lst ys]):=rfl
def zhX (Q:Bool->z7->Prop)(x:PV)(st:z7):Prop:=match x with | .bl k=>Q k st | _=>False
@[simp] theorem zt1 {T:zA}{Q:Bool->z7->Prop} :g8 T env st Q=T env st (zhX Q):=rfl
@[simp] theorem zt2 {Q:Bool->z7->Prop} :zhX Q (.bl p) st=Q p st:=rfl
def zds (T:zA)(env:zE)(Q:K3)(x:PV)(st:z7):Prop:=match x with | .bl c=>if c=true then T env st Q else Q (.bl false) st | _=>False
@[simp] theorem zrt {T U:zA} :hV T U env st Q=T env st (zds U env Q):=rfl
@[simp] theorem zru {T:zA} :zds T env Q (.bl p) st=if p=true then T env st Q else Q (.bl false) st:=rfl
def orK (T:zA)(env:zE)(Q:K3)(x:PV)(st:z7):Prop:=match x with | .bl c=>if c=true then Q (.bl true) st else T env st Q | _=>False
@[simp] theorem zta {T U:zA} :zq_ T U env st Q=T env st (orK U env Q):=rfl
@[simp] theorem ztb {T:zA} :orK T env Q (.bl p) st=if p=true then Q (.bl true) st else T env st Q:=rfl
def zgu (Q:K3)(x:PV)(st:z7):Prop:=match x with | .bl c=>Q (.bl (!c)) st | _=>False
@[simp] theorem zsP {T:zA} :zit T env st Q=T env st (zgu Q):=rfl
@[simp] theorem zsQ:zgu Q (.bl p) st=Q (.bl (!p)) st:=rfl
@[simp] theorem zrJ {gs:tF}{Q:zE->z7->Prop} :gT n gs (.tup xs) env st Q=(xs.length=n/\gs xs env st Q):=rfl
@[simp] theorem zrH {gs:tF}{Q:zE->z7->Prop} :gT n gs (.lst xs) env st Q=(xs.length=n/\gs xs env st Q):=rfl
@[simp] theorem zrL {Q:zE->z7->Prop} :gsN [] env st Q=Q env st:=rfl
@[simp] theorem zrK {g:xN}{gs:tF}{Q:zE->z7->Prop} :gsC g gs (x::xs) env st Q=g x env st λenv1 st1=>gs xs env1 st1 Q:=rfl
def zgN (n m:Nat)(D:yU)(env:zE)(xs:List PV)(st:z7):Prop:=match xs with | [x,y]=>D.nx ((env.set n (some x)).set m (some y)) st | _=>False
@[simp] theorem ztc {T:y2}{D:yU} :zqA n m T D env st=T env st (zgN n m D env):=rfl
@[simp] theorem ztd {D:yU} :zgN n m D env [x,y] st=D.nx ((env.set n (some x)).set m (some y)) st:=rfl
def zgM (n m l:Nat)(D:yU)(env:zE)(xs:List PV)(st:z7):Prop:=match xs with | [x,y,z]=>D.nx (((env.set l (some z)).set m (some y)).set n (some x)) st | _=>False
@[simp] theorem zte {l:Nat}{T:y2}{D:yU} :zqB n m l T D env st=T env st (zgM n m l D env):=rfl
@[simp] theorem ztf {l:Nat}{D:yU} :zgM n m l D env [x,y,z] st=D.nx (((env.set l (some z)).set m (some y)).set n (some x)) st:=rfl
def gZ (o:Option PO)(n:Nat)(st:z7)(Q:xM->List PV->z7->Prop):Prop:=match o with | some (.lst xs)=>Q (some (n,.lst xs)) xs st | _=>False
def mF (Q:xM->List PV->z7->Prop)(x:PV)(st:z7):Prop:=match x with
 | .lst xs=>Q none xs st
 | .tup xs=>Q none xs st
 | .str z=>z.length<=sizeLine/\Q none (vV z) st
 | .obj n=>gZ st[n]? n st Q
 | _=>False
@[simp] theorem zrv {T:zA}{Q:xM->List PV->z7->Prop} :zfJ T env st Q=T env st (mF Q):=rfl
@[simp] theorem zrw {Q:xM->List PV->z7->Prop} :mF Q (.lst xs) st=Q none xs st:=rfl
@[simp] theorem zr0 {Q:xM->List PV->z7->Prop} :mF Q (.tup xs) st=Q none xs st:=rfl
@[simp] theorem zrz {Q:xM->List PV->z7->Prop} :mF Q (.str a) st=(a.length<=sizeLine/\Q none (vV a) st):=rfl
@[simp] theorem zrx {Q:xM->List PV->z7->Prop} :mF Q (.obj n) st=gZ st[n]? n st Q:=rfl
@[simp] theorem zry {Q:xM->List PV->z7->Prop} :gZ (some (.lst xs)) n st Q=Q (some (n,.lst xs)) xs st:=rfl
def zhv (Q:xM->List PV->z7->Prop)(xs:List PV)(st:z7):Prop:=match xs with | [.int j]=>(-1000000<=j/\j<=1000000)/\Q none (t3 0 j.toNat) st | _=>False
@[simp] theorem ztl {T:y2}{Q:xM->List PV->z7->Prop} :zfK T env st Q=T env st (zhv Q):=rfl
@[simp] theorem ztm {Q:xM->List PV->z7->Prop} :zhv Q [.int j] st=((-1000000<=j/\j<=1000000)/\Q none (t3 0 j.toNat) st):=rfl
def zhu (Q:xM->List PV->z7->Prop)(xs:List PV)(st:z7):Prop:=match xs with | [.int i,.int j]=>(-1000000<=i/\i<=1000000/\ -1000000<=j/\j<=1000000)/\Q none (t3 i (j - i).toNat) st | _=>False
@[simp] theorem ztn {T:y2}{Q:xM->List PV->z7->Prop} :zkJ T env st Q=T env st (zhu Q):=rfl
@[simp] theorem zto {Q:xM->List PV->z7->Prop} :zhu Q [.int i,.int j] st=((-1000000<=i/\i<=1000000/\ -1000000<=j/\j<=1000000)/\Q none (t3 i (j - i).toNat) st):=rfl
def zh_ (Q:Option Int->z7->Prop)(x:PV)(st:z7):Prop:=match x with | .int i=>Q (some i) st | _=>False
@[simp] theorem ztw {T:zA}{Q:Option Int->z7->Prop} :zgx T env st Q=T env st (zh_ Q):=rfl
@[simp] theorem ztx {Q:Option Int->z7->Prop} :zh_ Q (.int i) st=Q (some i) st:=rfl
def zic (Q:K3)(x:PV)(st:z7):Prop:=match x with | .tup xs=>Q (.tup xs.reverse) st | _=>False
@[simp] theorem zt7 {T:zA} :zqI T env st Q=T env st (zic Q):=rfl
@[simp] theorem zt8:zic Q (.tup xs) st=Q (.tup xs.reverse) st:=rfl
def zht (Q:K3)(x:PV)(st:z7):Prop:=match x with | .lst xs=>Q (.lst xs.reverse) st | _=>False
@[simp] theorem ztj {T:zA}{U:rA} :zqF T U env st Q=T env st λx st1=>U env st1 λl st2=>l=some (-1)/\zht Q x st2:=rfl
@[simp] theorem ztk:zht Q (.lst xs) st=Q (.lst xs.reverse) st:=rfl
@[simp] theorem zr_:yZ m Q (.int i) st=Q (.int i) (st.take m):=rfl
@[simp] theorem zrC:yZ m Q (.str a) st=Q (.str a) (st.take m):=rfl
@[simp] theorem zr8:yZ m Q (.bl p) st=Q (.bl p) (st.take m):=rfl
@[simp] theorem zrB:yZ m Q .non st=Q .non (st.take m):=rfl
@[simp] theorem zrD:yZ m Q (.tup xs) st=Q (.tup xs) (st.take m):=rfl
@[simp] theorem zrA:yZ m Q (.lst xs) st=Q (.lst xs) (st.take m):=rfl
@[simp] theorem zr9:yZ m Q (.dct kvs) st=Q (.dct kvs) (st.take m):=rfl
@[simp] theorem ztT {P:Prop} :uP none st P=P:=rfl
@[simp] theorem ztU {P:Prop}{o:PO} :uP (some (n,o)) st P=(st[n]?=some o/\P):=rfl
@[simp] theorem zsW:yG .non=true:=rfl
@[simp] theorem zsU:yG (.int i)=true:=rfl
@[simp] theorem zsY:yG (.str a)=true:=rfl
@[simp] theorem zsS:yG (.bl p)=true:=rfl
@[simp] theorem zsZ:yG (.tup xs)=true:=rfl
@[simp] theorem zsV:yG (.lst xs)=true:=rfl
@[simp] theorem zsT:yG (.dct kvs)=true:=rfl
@[simp] theorem zsX:yG (.obj n)=false:=rfl
end
@[simp] theorem zvb {D:yU}{env:zE}{st:z7} :zcL D env st=(D.nx env st):=rfl
@[simp] theorem zu8 {T:zA}{g:xN}{D:yU}{env:zE}{st:z7} :r6 T g D env st=(T env st λx st1=>g x env st1 D.nx):=rfl
@[simp] theorem zuQ {c:yR}{t u:yC}{D:yU}{env:zE}{st:z7} :hZ c t u D env st=(c env st λb st1=>if b=true then t D env st1 else u D env st1):=rfl
@[simp] theorem zvk {T:zA}{D:yU}{env:zE}{st:z7} :zcP T D env st=(T env st D.rt):=rfl
@[simp] theorem zvl {D:yU}{w1:zE}{st:z7} :zqE D w1 st=(D.rt .non st):=rfl
@[simp] theorem zuM {T:zA}{D:yU}{env:zE}{st:z7} :zik T D env st=(T env st λ_ st1=>D.nx env st1):=rfl
@[simp] theorem zvo {T:zA}{env:zE}{st:z7}{Q:Bool->z7->Prop} :zcQ T env st Q=(T env st λx st1=>uL x st1 λk=>Q k st1):=rfl
@[simp] theorem zu7 {t u:yR}{env:zE}{st:z7}{Q:Bool->z7->Prop} :hU t u env st Q=(t env st λc st1=>if c=true then u env st1 Q else Q false st1):=rfl
@[simp] theorem zvf {t u:yR}{env:zE}{st:z7}{Q:Bool->z7->Prop} :vOr t u env st Q=(t env st λc st1=>if c=true then Q true st1 else u env st1 Q):=rfl
@[simp] theorem zvd {t:yR}{env:zE}{st:z7}{Q:Bool->z7->Prop} :zcM t env st Q=(t env st λc st1=>Q (!c) st1):=rfl
@[simp] theorem zuP {t:yR}{Ta Tb:zA}{env:zE}{st:z7}{Q:K3} :vIf t Ta Tb env st Q=(t env st λc st1=>if c=true then Ta env st1 Q else Tb env st1 Q):=rfl
@[simp] theorem zve {R:R3}{Ta Tb:zA}{env:zE}{st:z7}{Q:K3} :tW R Ta Tb env st Q=(Ta env st λx st1=>Tb env st1 λy st2=>R x y st2 Q):=rfl
@[simp] theorem zvt {R:PV->z7->K3->Prop}{Ta:zA}{env:zE}{st:z7}{Q:K3} :vUn R Ta env st Q=(Ta env st λx st1=>R x st1 Q):=rfl
@[simp] theorem zuC {x:PV}{w0:zE}{st:z7}{Q:K3} :vC x w0 st Q=(Q x st):=rfl
@[simp] theorem zvc {w0:zE}{st:z7}{Q:List PV->z7->Prop} :g6 w0 st Q=(Q [] st):=rfl
@[simp] theorem zuI {Ta:zA}{Tr:y2}{env:zE}{st:z7}{Q:List PV->z7->Prop} :lX Ta Tr env st Q=(Ta env st λx st1=>Tr env st1 λxs st2=>Q (x::xs) st2):=rfl
@[simp] theorem zvs {T:y2}{env:zE}{st:z7}{Q:K3} :zcR T env st Q=(T env st λxs st1=>vT xs=true/\Q (.tup xs) st1):=rfl
@[simp] theorem zuS {T:y2}{env:zE}{st:z7}{Q:K3} :zin T env st Q=(T env st λxs st1=>vT xs=true/\Q (.lst xs) st1):=rfl
@[simp] theorem zuT {T:y2}{env:zE}{st:z7}{Q:K3} :zio T env st Q=(T env st λxs st1=>vT xs=true/\Q (.obj st1.length) (st1++ [.lst xs])):=rfl
@[simp] theorem zuD {R:zQ}{T:y2}{env:zE}{st:z7}{Q:K3} :nO R T env st Q=(T env st λxs st1=>R xs st1 Q):=rfl
@[simp] theorem zvn {T:zA}{Tl Th:rA}{env:zE}{st:z7}{Q:K3} :vSl T Tl Th env st Q=(T env st λx st1=>Tl env st1 λl st2=>Th env st2 λu st3=>pP x l u st3 Q):=rfl
@[simp] theorem zu2 {w0:zE}{st:z7}{Q:Option Int->z7->Prop} :zgw w0 st Q=(Q none st):=rfl
@[simp] theorem zu0 {To Ti:zA}{v:PV}{env:zE}{st:z7}{Q:zE->z7->Prop} :gS To Ti v env st Q=(To env st λo st1=>Ti env st1 λi st2=>lG o i v st2 λst3=>Q env st3):=rfl
@[simp] theorem zu9 {T:String}{R:PV->zQ}{To:zA}{TA:y2}{env:zE}{st:z7}{Q:K3} :vBM T R To TA env st Q=(To env st λx st1=>tM x st1=T/\TA env st1 λxs st2=>R x xs st2 Q):=rfl
@[simp] theorem zu_ {T:String}{R:PV->zQ}{To:zA}{env:zE}{st:z7}{Q:K3} :zqx T R To env st Q=(To env st λx st1=>tM x st1=T/\R x [] st1 Q):=rfl
@[simp] theorem zuK {w0:zE}{st:z7}{Q:K3} :zq3 w0 st Q=(Q (.obj st.length) (st++ [.dct []])):=rfl
@[simp] theorem zuB {D:yU}{env:zE}{st:z7} :zqz D env st=(D.bk env st):=rfl
@[simp] theorem zuJ {D:yU}{env:zE}{st:z7} :zq2 D env st=(D.ct env st):=rfl
@[simp] theorem zu4 {x:PV}{y:PV}{st:z7}{Q:K3} :zbT x y st Q=((zO x<=50/\zO y < 1000)/\Q (.bl (y3 x y)) st):=rfl
@[simp] theorem zu5 {x:PV}{y:PV}{st:z7}{Q:K3} :zhq x y st Q=((zO x<=50/\zO y < 1000)/\Q (.bl (!y3 x y)) st):=rfl
@[simp] theorem zuz {i:Nat}{x:PV}{env:zE}{st:z7}{Q:zE->z7->Prop} :gN i x env st Q=(Q (env.set i (some x)) st):=rfl
@[simp] theorem zva {w0:yU}{w1:zE}{w2:z7} :zis w0 w1 w2=(False):=rfl
@[simp] theorem zuO {I:vQ}{g:xN}{b:yC}{D:yU}{env:zE}{st:z7} :zim I g b D env st=(I env st λsrc xs st1=>gD g b src xs D env st1):=rfl
@[simp] theorem zuG {own:Nat}{I:vQ}{g:xN}{tt:yR}{el:zA}{env:zE}{st:z7}{Q:K3} :lW own I g tt el env st Q=(I env st λsrc xs st1=>tX own g tt el src xs (λys st2=>Q (.lst ys) st2) env st1):=rfl
@[simp] theorem zuH {own:Nat}{I:vQ}{g:xN}{tt:yR}{el:zA}{env:zE}{st:z7}{Q:K3} :zq1 own I g tt el env st Q=(I env st λsrc xs st1=>tX own g tt el src xs (λys st2=>Q (.obj st2.length) (st2++ [.lst ys])) env st1):=rfl
@[simp] theorem zvu {w0:zE}{st:z7}{Q:Bool->z7->Prop} :lY w0 st Q=(Q true st):=rfl
@[simp] theorem zu6 {N:List Str}{xs:List PV} :uM N xs=xs.map some++List.replicate (N.length - xs.length) none:=rfl
@[simp] theorem zu3 {xs:List PV} :vT xs=(xs.all yG&&Nat.ble xs.length 1000):=rfl
@[simp] theorem zrl {x:PV}{e:zE}{st:z7}{Q:K3} :uO 0 (some x::e) st Q=Q x st:=rfl
@[simp] theorem zrm {i:Nat}{x:Option PV}{e:zE}{st:z7}{Q:K3} :uO (i+1) (x::e) st Q=uO i e st Q:=rfl
@[simp] theorem zrg {α:Type}{x:α}{F:α->Prop} :xG (some x) F=F x:=rfl
section
variable {α β:Type} {x y z u v:α} {xs ys:List α} {f:α->β} {n i:Nat} {p:Prop} {b:Bool} {st:List α}
@[simp] theorem zrb:(x::xs).map f=f x::xs.map f:=rfl
@[simp] theorem zrc:([]:List α).map f= []:=rfl
@[simp] theorem zqZ:(x::xs).length=xs.length+1:=rfl
@[simp] theorem zra:([]:List α).length=0:=rfl
@[simp] theorem zqR:(x::xs)++ys=x::(xs++ys):=rfl
@[simp] theorem zqS: []++ys=ys:=rfl
@[simp] theorem zrh:List.replicate (n+1) x=x::List.replicate n x:=rfl
@[simp] theorem zri:List.replicate 0 x= []:=rfl
@[simp] theorem zrj:(x::xs).set 0 y=y::xs:=rfl
@[simp] theorem zrk:(x::xs).set (n+1) y=x::xs.set n y:=rfl
@[simp] theorem zqX:(x::xs)[0]?=some x:=rfl
@[simp] theorem zqY:(x::xs)[n+1]?=xs[n]?:=rfl
@[simp] theorem zre:(!true)=false:=rfl
@[simp] theorem zrd:(!false)=true:=rfl
@[simp] theorem zd9:(some x).isSome=true:=rfl
@[simp] theorem zqW:(some x).getD y=x:=rfl
@[simp] theorem zqV:(none:Option α).getD y=y:=rfl
@[simp] theorem zqP {q:α->Bool} :(x::xs).all q=(q x&&xs.all q):=rfl
@[simp] theorem zqQ {q:α->Bool} :([]:List α).all q=true:=rfl
@[simp] theorem zqT {m:Nat} :Nat.ble (n+1) (m+1)=Nat.ble n m:=rfl
end
section
variable {Q:K3} {st:z7} {x:PO} {xs:List PV} {kvs:List (zC×PV)} {i j:Int} {a b:Str} {p q:Bool} {l:List (Str×Int)}
@[simp] theorem zqU {m:Nat} :yZ m Q (qQ l) st=Q (qQ l) (st.take m):=rfl
@[simp] theorem zrf:yG (qQ l)=true:=rfl
end
theorem cB:(∀{α:Type} {x:α} {xs:List α},atI (x::xs) 0=some x)/\(∀{α:Type} {x y:α} {xs:List α},atI (x::y::xs) 1=some y)/\(∀{α:Type} {x y z:α} {xs:List α},atI (x::y::z::xs) 2=some z)/\(∀{α:Type} {x y z u:α} {xs:List α},atI (x::y::z::u::xs) 3=some u)/\(∀{α:Type} {x y z u v:α} {xs:List α},atI (x::y::z::u::v::xs) 4=some v)/\
  (∀{n:Nat},wN (n+1) 0=some 0)/\(∀{n:Nat},wN (n+2) 1=some 1)/\(∀{p:Prop},(True/\p)=p)/\(∀{p:Prop},(p/\True)=p)/\(∀{q r:Prop},(if True then q else r)=q)/\(∀{q r:Prop},(if False then q else r)=r)/\((false=true)=False)/\(∀{p:Prop},(p∨True)=True)/\(∀{p:Prop},(True∨p)=True)/\(∀{p:Prop},(p/\p)=p)/\
  (∀{α:Type} {st:List α},st.take (st.length+0)=st)/\(∀{α:Type} {st:List α},st.take st.length=st)/\(∀{α:Type} {st:List α} {i:Nat} {x:α},(st.set i x).take (st.length+0)=st.set i x)/\(∀{α:Type} {st:List α} {i:Nat} {x:α},(st.set i x).take st.length=st.set i x)/\(∀{α:Type} {st:List α} {i:Nat} {x y:α},(st.set i x).set i y=st.set i y)/\
  (∀{α:Type} {st:List α} {i:Nat} {x:α},(st[i]?).isSome=true->(st.set i x)[i]?=some x)/\(∀{α:Type} {st:List α} {x:α},(st++ [x])[st.length]?=some x)/\(∀{α:Type} {st:List α} {x y:α},(st++ [x]).set st.length y=st++ [y])/\(∀{α:Type} {st:List α} {x:α},(st++ [x]).take (st.length+0)=st)/\(∀{α:Type} {st:List α} {x:α},(st++ [x]).take st.length=st)/\(∀{α:Type} {st:List α} {x:α},(st++ [x]).take (st.length+1)=st++ [x])/\
  (∀{b:Bool},(b&&true)=b)/\(∀{b:Bool},(true&&b)=b)/\(∀{m:Nat},Nat.ble 0 m=true)/\(∀{m:Nat},(0<=m)=True)/\(∀{n:Nat},max n 0=n)/\(∀{n:Nat},max 0 n=n)/\(∀{h:Decidable True},@decide True h=true)/\(∀{h:Decidable False},@decide False h=false)/\
  (∀{Q:K3} {st:z7} {x:PO},yZ (st.length+1) Q (.obj st.length) (st++ [x])=Q (.obj st.length) (st++ [x]))/\(∀{Q:K3} {st:z7} {xs:List PV},yZ (st.length+0) Q (.obj st.length) (st++ [.lst xs])=Q (.lst xs) st)/\(∀{Q:K3} {st:z7} {kvs:List (zC×PV)},yZ (st.length+0) Q (.obj st.length) (st++ [.dct kvs])=Q (.dct kvs) st)/\
  (∀{Q:K3} {st:z7} {xs:List PV},yZ st.length Q (.obj st.length) (st++ [.lst xs])=Q (.lst xs) st)/\(∀{Q:K3} {st:z7} {kvs:List (zC×PV)},yZ st.length Q (.obj st.length) (st++ [.dct kvs])=Q (.dct kvs) st):=
 ⟨at0,mH,at2,at3,at4,ix0,ix1,true_and _,and_true _,if_pos trivial,if_neg id,Bool.false_eq_true,or_true _,true_or _,and_self _,zqk,List.take_length,zhW,zhW,set_set,zk9,zlu,zpo,zhV,zhV,zqj,Bool.and_true _,Bool.true_and _,Nat.ble_eq_true_of_le (Nat.zero_le _),eq_true (Nat.zero_le _),Nat.max_zero _,Nat.zero_max _,(by simp),(by simp),zkl,zdZ,zea,zdZ,zea⟩
def g7:List (zA×zA)->zE->z7->(List (PV×PV)->z7->Prop)->Prop
 | [],_,st,Q=>Q [] st
 | (tk,tv)::r,env,st,Q=>tk env st λx st1=>tv env st1 λy st2=>g7 r env st2 λps st3=>Q ((x,y)::ps) st3
abbrev PRs (K:Frag)(A:List Addr)(H:Hp):List (PV×PV)->List (V×V)->Prop:=Paired λp q=>RE K A H p.1 q.1/\RE K A H p.2 q.2
theorem zgL {K:Frag} : ∀{trs:List (zA×zA)} {A:List Addr} {env:zE} {st:z7} {σ:St} {H:Hp} {Q3:List (PV×PV)->z7->Prop} {Q:List (V×V)->Hp->Prop},yV K A H σ env st->g7 trs env st Q3->
  (∀A' H' st' ps qs,zV A H A' H'->RS K A' H' st'->PRs K A' H' ps qs->Q3 ps st'->Q qs H')->iZ (trs.map λp=>(zG K p.1,zG K p.2)) σ H Q
 | [],A,env,st,σ,H,Q3,Q,rel,h,k=>k A H st [] [] (.refl _ _) rel.rs .nil h
 | (tk,tv)::r,A,env,st,σ,H,Q3,Q,rel,h,k=>
  ⟨A,env,st,_,rel,h,λA1 H1 st1 x v g1 s1 e1 h1=>⟨A1,env,st1,_,rel.grow g1 s1,h1,λA2 H2 st2 y u g2 s2 e2 h2=>
   zgL (trs:=r) (rel.grow (g1.trans g2) s2) h2 λA3 H3 st3 ps qs g3 s3 e3 h3=>k A3 H3 st3 _ _ ((g1.trans g2).trans g3) s3 (.cons ⟨e1.grow (g2.trans g3),e2.grow g3⟩ e3) h3⟩⟩
theorem zoJ {K:Frag}{A:List Addr}{H:Hp}{x:PV}{v:V}(e:RE K A H x v)(h:yG x=true):RV K A H x v:=by
 cases e with
 | val e=>exact e
 | obj e=>cases h
theorem zli {k:zC} :wU (u9 k)=some k:=by cases k <;> rfl
theorem zhb {K:Frag}{A:List Addr}{H:Hp} : ∀{kvs:List (zC×PV)} {qs:List (V×V)},PRs K A H (kvs.map λkv=>(u9 kv.1,kv.2)) qs->(kvs.all λkv=>yG kv.2)=true->∃us:List (zC×V),qs=us.map (λkv=>(kV kv.1,kv.2))/\RKs K A H kvs us
 | [],qs,h,_=>by cases h;exact⟨[],rfl,.nil⟩
 | kv::kvs,qs,h,hn=>by
  rw[List.all_cons,Bool.and_eq_true]at hn;cases h with
  | @cons _ b _ _ r t=>
   obtain⟨us,rfl,rk⟩:=zhb t hn.2;obtain⟨q1,q2⟩:=b;have e1:q1=kV kv.1:=rO r.1 zli;subst e1;exact⟨(kv.1,q2)::us,rfl,.cons (zoJ r.2 hn.1) rk⟩
def zij (trs:List (zA×zA)):zA:=λenv st Q=>g7 trs env (st++ [.dct []]) λps st2=> ∃kvs:List (zC×PV),ps=kvs.map (λkv=>(u9 kv.1,kv.2))/\kvs.length<=15/\(kvs.all λkv=>yG kv.2)=true/\st2[st.length]?=some (.dct [])/\Q (.obj st.length) (st2.set st.length (.dct (oO [] kvs)))
section
variable {X:Cx}
theorem zol {pos:Pos}{keys:List (Option Expr)}{values:List Expr}{trs:List (zA×zA)}(h:r9 X pos keys values (trs.map λp=>(zG X.K p.1,zG X.K p.2)))(hall:keys.all (·.isSome)=true)(hl:keys.length=values.length)(h0:keys≠ [])(h15:keys.length<=15):
  PE X (.Dict keys values pos) (zG X.K (zij trs)):=by
 refine xH (znn h hall hl h0 h15) λσ H Q ⟨A,env,st,Q3,rel,hT,k⟩=> ?_;intro p hp;have g0:zV A H (A++ [p]) (upd H p (.dK [])):= .newObj hp;have rs1:RS X.K (A++ [p]) (upd H p (.dK [])) (st++ [.dct []]):=rel.rs.newObj (q:= .dct []) hp ⟨[],xC,.nil,Nat.zero_le _⟩;refine zgL (rel.grow g0 rs1) hT λA2 H2 st2 ps qs g s2 e h2=> ?_;obtain⟨kvs,rfl,h15,hno,hat,q⟩:=h2;have hA:A2[st.length]?=some p:=by
  obtain⟨B,rfl,_⟩:=g.ext;rw[List.getElem?_append_left (by rw[List.length_append,<- rel.rs.len];exact Nat.lt_succ_self _),<- rel.rs.len,List.getElem?_append_right (Nat.le_refl _),Nat.sub_self];rfl
 obtain⟨us0,e0,r0,_⟩:=s2.at_ _ _ _ hA hat;cases r0;obtain⟨us,rfl,rk⟩:=zhb e hno;have hlen:us.length<=15:=by rw[<- rk.len];exact h15
 refine⟨e0,us,rfl,hlen,?_⟩;have mp:p∈A2:=List.mem_of_getElem? hA;exact k A2 _ _ _ _ ((g0.trans g).trans (.put mp)) (s2.put (q:= .dct (oO [] kvs)) hA ⟨_,xC,(RKs.merge .nil rk).grow (.put mp),Nat.le_trans (zlM hlen) (by decide)⟩) (.obj hA) q
abbrev fQ (K:Frag)(trs:List (zA×zA)):List (TE×TE):=trs.map λp=>(zG K p.1,zG K p.2)
theorem zop {pos:Pos} :r9 X pos [] [] (fQ X.K []):=znE
theorem rZ {pos:Pos}{k v:Expr}{ks:List (Option Expr)}{vs:List Expr}{Tk Tv:zA}{trs:List (zA×zA)}(hk:PE X k (zG X.K Tk))(hv:PE X v (zG X.K Tv))(hr:r9 X pos ks vs (fQ X.K trs)):r9 X pos (some k::ks) (v::vs) (fQ X.K ((Tk,Tv)::trs)):=znD hk hv hr
end
open PySem.SeqAt
section
variable {X:Cx} {o e:Expr} {es:List Expr} {apos cpos:Pos} {To:zA} {TA:y2} {id:String} {name:Str} {R:PV->zQ}
def zbp:PV->Bool | .tup _=>true | _=>false
@[simp] theorem zsj {xs:List PV} :zbp (.tup xs)=true:=rfl
def zqy (R:PV->zQ)(To:zA)(TA:y2):zA:=λenv st Q=>To env st λx st1=>zbp x=true/\TA env st1 λys st2=>R x ys st2 Q
@[simp] theorem zuA {env:zE}{st:z7}{Q:K3} :zqy R To TA env st Q=To env st λx st1=>zbp x=true/\TA env st1 λys st2=>R x ys st2 Q:=rfl
end
def jI (kvs:List (List Int×Int))(k:List Int):Option Int:=(kvs.find? λkv=>decide (kv.1=k)).map (·.2)
def zhg (kvs:List (List Int×Int))(k:List Int)(v:Int):List (List Int×Int):=
 if(kvs.any λkv=>decide (kv.1=k))=true then kvs.map (λkv=>if kv.1=k then(kv.1,v)else kv)else kvs++ [(k,v)]
def zfQ:PV->z7->Option (List (List Int×Int))
 | .itb kvs,_=>some kvs
 | .obj i,st=>(match st[i]? with | some (.itb kvs)=>some kvs | _=>none)
 | _,_=>none
def zq4:zA:=λ_ st Q=>Q (.obj st.length) (st++ [.itb []])
def zq6 (Ta:zA)(TA:y2):zA:=λenv st Q=>Ta env st λx st1=>TA env st1 λys st2=> ∃(k:List Int) (kvs:List (List Int×Int)) (v:Int),ys=k.map PV.int/\zfQ x st2=some kvs/\k.length<=100/\jI kvs k=some v/\Q (.int v) st2
def zqC (Td:zA)(TA:y2)(Tv:zA):yC:=λD env st=>Tv env st λv st1=>Td env st1 λx st2=>TA env st2 λys st3=> ∃(k:List Int) (i:Nat) (kvs:List (List Int×Int)) (z:Int),ys=k.map PV.int/\v= .int z/\x= .obj i/\st3[i]?=some (.itb kvs)/\k.length<=100/\kvs.length < sizeLine/\D.nx env (st3.set i (.itb (zhg kvs k z)))
@[simp] theorem zuL {env:zE}{st:z7}{Q:K3} :zq4 env st Q=Q (.obj st.length) (st++ [.itb []]):=rfl
@[simp] theorem zuR {Ta:zA}{TA:y2}{env:zE}{st:z7}{Q:K3} :zq6 Ta TA env st Q=(Ta env st λx st1=>TA env st1 λys st2=> ∃(k:List Int) (kvs:List (List Int×Int)) (v:Int),ys=k.map PV.int/\zfQ x st2=some kvs/\k.length<=100/\jI kvs k=some v/\Q (.int v) st2):=rfl
@[simp] theorem zvg {Td:zA}{TA:y2}{Tv:zA}{D:yU}{env:zE}{st:z7} :zqC Td TA Tv D env st=(Tv env st λv st1=>Td env st1 λx st2=>TA env st2 λys st3=> ∃(k:List Int) (i:Nat) (kvs:List (List Int×Int)) (z:Int),ys=k.map PV.int/\v= .int z/\x= .obj i/\st3[i]?=some (.itb kvs)/\k.length<=100/\kvs.length < sizeLine/\D.nx env (st3.set i (.itb (zhg kvs k z)))):=rfl
def zq0 (good:qE->Prop)(i:Nat)(TA:y2):zA:=λenv st Q=> ∃D:qE,env[i]?=some (some (.clo D))/\good D/\TA env st λxs st1=> ∃(k:List Int) (v:Int),xs=k.map PV.int/\k.length=3/\jI D.kvs k=some v/\Q (.int v) st1
@[simp] theorem zuF {good:qE->Prop}{i:Nat}{TA:y2}{env:zE}{st:z7}{Q:K3} :zq0 good i TA env st Q= ∃D:qE,env[i]?=some (some (.clo D))/\good D/\TA env st λxs st1=> ∃(k:List Int) (v:Int),xs=k.map PV.int/\k.length=3/\jI D.kvs k=some v/\Q (.int v) st1:=rfl
end L3
namespace Sets
open PySem
def ziV (xs:Array Nat):Prop:= ∀i j (hi:i < xs.size) (hj:j < xs.size),i < j->xs[i] < xs[j]
structure Good (led:Bool)(n:Nat)(t:SetTable):Prop where
 fits:t.fits n=true
 led:t.led=led
 rise:ziV t.place
 dum:t.dummies= #[]
open PyProof.Rows
def ziX (led:Bool)(a:Addr)(es:Array (Int×Value))(h:Heap):Prop:= ∃o ep t,h.get? a=some o/\o.ExactSet/\o.data= .set es ep t/\Good led es.size t
structure At (a:Addr)(es:Array (Int×Value))(ep:Nat)(t:SetTable)(h:Heap):Prop where
 at_: ∃o,h.get? a=some o/\o.ExactSet/\o.data= .set es ep t
section
variable {prog:Program} {w:World} {A:Around} {E:Value->Shared->Prop} {s:Shared}
abbrev zlr (w:World):Bool:= !w.params.followText "set-order"
end
inductive kP {α β:Type}(R:α->β->Prop):List α->List β->Prop
 | nil:kP R [] []
 | cons {a:α} {b:β} {l:List α} {m:List β} :R a b->kP R l m->kP R (a::l) (b::m)
def zjc {K:Type}[DecidableEq K](ds:List K)(k:K):List K:=if k∈ds then ds else ds++ [k]
def dd {K:Type}[DecidableEq K](ks:List K):List K:=ks.foldl zjc []
section
variable {prog:Program} {w:World} {K:Type} [DecidableEq K] (knd:KeyKind prog w K)
def IsE (e:Int×Value)(k:K):Prop:=knd.is k e.2=true/\e.1=knd.hash k/\e.2.scannable=true
def ziA (es:Array (Int×Value))(ds:List K):Prop:= ∃ds':List K,ds'.Perm ds/\kP (IsE knd) es.toList ds'
variable {knd}
end
section
variable {prog:Program} {w:World} {A:Around} {E:Value->Shared->Prop} {s:Shared} {K:Type} [DecidableEq K] {knd:KeyKind prog w K}
def Holds (knd:KeyKind prog w K)(a:Addr)(ds:List K)(h:Heap):Prop:= ∃es,ziX (zlr w) a es h/\ziA knd es ds
end
end Sets
set_option maxHeartbeats 1000000
set_option maxHeartbeats 4000000
namespace L3
open PySem PySem.Spec PyProof.Rows L2
section
variable {X:Cx} {a b e:Expr} {es:List Expr} {pos p2:Pos} {Ta Tb:zA} {TA:y2}
def zo5:R3:=λx y st Q=>match x with
 | .obj n=>(match y with
  | .str k=>(match st[n]? with | some (.rcd kvs)=>(match x8 kvs (.inr k)with | some z=>Q z st | none=>False) | _=>False)
  | _=>False)
 | _=>False
@[simp] theorem zsx {n:Nat}{x:Str}{st:z7}{Q:K3} :zo5 (.obj n) (.str x) st Q=(match st[n]? with | some (.rcd kvs)=>(match x8 kvs (.inr x)with | some z=>Q z st | none=>False) | _=>False):=rfl
end
section
variable {prog:Program} {w:World} {A:Around} {E:Value->Shared->Prop} {s:Shared}
theorem zrn {T:String}{n:Nat}{It:Nat->Value->Prop}{St:Nat->Heap->Prop}{Q:Value->Shared->Prop}{I l:Addr}(W:Walks prog w A.in1.in1 I [I,l] [I] n It St)(st:St 0 s.heap)(hn:n<=sizeLine)(hIl:I < s.heap.objs.size)(hll:l < s.heap.objs.size)
  (hT: ∀s:Shared,St 0 s.heap->s.TypeIs (.ref I) T) (t1:(Value.type T==Value.type "list")=false) (t2:(Value.type T==Value.type "tuple")=false) (hi: ∀{s:Shared} {Q:Value->Shared->Prop} {E:Value->Shared->Prop},St 0 s.heap->Q (.ref I) s->wpAny (model prog w) A.in1.in1 (pyIter (.ref I)) Q E s)
  (hl: ∀{s:Shared} {Q:Bool->Shared->Prop} {E:Value->Shared->Prop},St 0 s.heap->(∀b tk,Q b {s with toks:=tk})->wpAny (model prog w) A.in1.in1 (Builtin.List.listLengthHint (.ref I)) Q E s)
  (hQ: ∀h' tk acc' c',(∀b o,b≠I->s.heap.get? b=some o->h'.get? b=some o)->h'.get? s.heap.objs.size=some {cls:= .type "list",dict:=none,data:= .seq acc' c',slots:= #[]} ->ItemsOf It acc' n->Q (.ref s.heap.objs.size) {s with heap:=h',toks:=tk}):
  wpAny (model prog w) A (call (.type "list") [.ref I]) Q E s:=by
 refine callType_codes (Q₁:=λobj s₁=>obj= .ref s.heap.objs.size/\s₁= {s with heap:=s.heap.push {cls:= .type "list",data:= .seq #[]}}) PySem.F.called_list (PySem.F.typeCall_list_1 _) PySem.F.entry_list_init
  (code_list_new _ ⟨rfl,rfl⟩) λobj s₁ h₁=> ?_
 obtain⟨rfl,rfl⟩:=h₁;have kp: ∀b o,s.heap.get? b=some o->(s.heap.push {cls:= .type "list",data:= .seq #[]}).get? b=some o:=λb o e=>Heap.get?_push_of_some _ e;generalize hS':s.heap.objs.size=S at *;have nS: ∀b o,s.heap.get? b=some o->b≠S:=λb o e=>by rw[<- hS'];exact Nat.ne_of_lt (Heap.lt_size e)
 have hS:(s.heap.push {cls:= .type "list",data:= .seq #[]}).get? S=some {cls:= .type "list",data:= .seq #[]} :=by rw[<- hS'];exact Heap.get?_push_size _ rfl
 refine⟨⟨_,hS,rfl⟩,PySem.F.args_list_init_2 _ _,?_⟩;show wpAny _ _ (do let old <- Builtin.List.listItems (.ref S);Builtin.List.listUpdate (.ref S) (λ_=> #[]);letGo old.toList.reverse;Builtin.List.listExtendWith (.ref S) (.ref I) .none) _ _ _;refine wpAny_bind ?_;unfold Builtin.List.listItems;refine wpAny_bind (wpAny_seqItems hS rfl (wpAny_pure ?_));show wpAny _ _ (updateSeq S (λ_=> #[]) >>= λ_=>letGo (#[]:Array Value).toList.reverse >>= λ_=>Builtin.List.listExtendWith (.ref S) (.ref I) .none) _ _ _;refine wpAny_bind (wpAny_updateSeq hS rfl ?_);have hS₂:=Heap.get?_update_self (Obj.mapSeq (λ_=>(#[]:Array Value))) hS rfl;have oth: ∀b o,b≠S->s.heap.get? b=some o->((s.heap.push {cls:= .type "list",data:= .seq #[]}).update S (Obj.mapSeq (λ_=>(#[]:Array Value)))).get? b=some o:=
  λb o hb e=>(Heap.get?_update_other _ _ (Ne.symm hb)).trans (kp b o e)
 refine wpAny_bind (wpAny_letGo ?_);have hSf:S∉ [I,l]:=by simp only[List.mem_cons,List.not_mem_nil,or_false,not_or];exact⟨Nat.ne_of_gt hIl,Nat.ne_of_gt hll⟩
 have mv: ∀h,(∀b o,b≠S->s.heap.get? b=some o->h.get? b=some o)->St 0 h:=λh k=>W.frame 0 _ _ st λb hb o e=>k b o (λz=>hSf (z▸hb)) e;obtain⟨h2,eh2⟩: ∃h2,(s.heap.push {cls:= .type "list",data:= .seq #[]}).update S (Obj.mapSeq (λ_=>(#[]:Array Value)))=h2:=⟨_,rfl⟩;rw[eh2]at hS₂ oth⊢
 have st2:=mv h2 oth;have key: ∀(h:Heap) (c₁ tk:Nat),(∀b o,b≠S->s.heap.get? b=some o->h.get? b=some o)->h.get? S=some {cls:= .type "list",data:= .seq #[] c₁} ->codeAny (model prog w) A.in1 (.builtin "list.extend.loop" ⟨[.ref S,.ref I,.none],[]⟩) (wants (λr s₂=>r=Value.none/\Q (Value.ref S) s₂) E) {s with heap:=h,toks:=tk} :=by
  intro h c₁ tk hk hS₁;refine codeAny_extend_loopS W.toS hn S hSf .none n 0 _ #[] c₁ rfl (Nat.zero_le _) (mv h hk) hS₁ (ItemsOf.nil _) λs' acc' c' hm hS' hacc=> ?_;rw[Moved.eq_with hm];refine⟨rfl,hQ s'.heap s'.toks acc' c' (λb o hbI e=>hm.heap b o (λhmem=> ?_) (hk b o (nS b o e) e)) hS' hacc⟩;rcases List.mem_cons.mp hmem with e' | hmem
  ·exact nS b o e e'
  ·exact hbI (List.mem_singleton.mp hmem)
 unfold Builtin.List.listExtendWith;refine wpAny_bind (wpAny_typeOf (T:=T) (hT {s with heap:=h2} st2) ?_);have h1:Builtin.List.listSameRef (.ref S) (.ref I)=false:=by simp[Builtin.List.listSameRef,Nat.ne_of_gt hIl]
 simp only[h1,t1,t2,Bool.or_false,Bool.false_eq_true,if_false];refine wpAny_bind (hi st2 ?_);refine wpAny_bind (wpAny_holding (hl st2 λb tk=> ?_));refine wpAny_ite_split (λ_=> ?_) (λ_=>wpAny_pure ⟨plainId_quiet PySem.F.plain_extend_loop _,key _ _ _ oth hS₂⟩);refine wpAny_bind (wpAny_rule ?_);refine wpAny_bind ?_;show wpAny _ _ (updateSeq S (·.push .none) >>= λ_=>updateSeq S (·.pop)) _ _ _;refine wpAny_bind (wpAny_updateSeq (s:= {s with heap:=h2,toks:=tk}) hS₂ rfl ?_);have hS₃:=Heap.get?_update_self (Obj.mapSeq (·.push Value.none)) hS₂ rfl;refine wpAny_updateSeq (s:= {s with heap:=h2.update S (Obj.mapSeq (·.push Value.none)),toks:=tk}) (hz:=by seq_fits) hS₃ rfl ?_;have hS₄:=Heap.get?_update_self (Obj.mapSeq (·.pop)) hS₃ rfl;exact wpAny_pure ⟨plainId_quiet PySem.F.plain_extend_loop _,key _ _ _ (λb o hb e=>(Heap.get?_update_other _ _ (Ne.symm hb)).trans ((Heap.get?_update_other _ _ (Ne.symm hb)).trans (oth b o hb e))) hS₄⟩
end
section
variable {X:Cx}
def zq7 (T:zA):zA:=λenv st Q=>T env st λx st1=>match x with | .lst xs=>Q (.lst xs.reverse) st1 | _=>False
@[simp] theorem zuU {T:zA}{env:zE}{st:z7}{Q:K3} :zq7 T env st Q=(T env st λx st1=>match x with | .lst xs=>Q (.lst xs.reverse) st1 | _=>False):=rfl
def zq9 (T:y2):zA:=λenv st Q=>T env st λxs st1=>match xs with | [.int lo,.int hi]=>(-(2 ^ 20)<=lo/\lo < 2 ^ 20/\ -(2 ^ 20)<=hi/\hi < 2 ^ 20)/\Q (.obj st1.length) (st1++ [.lst ((List.range (hi - lo).toNat).map λ(i:Nat)=> .int (lo+(i:Int)))]) | _=>False
@[simp] theorem zuW {T:y2}{env:zE}{st:z7}{Q:K3} :zq9 T env st Q=(T env st λxs st1=>match xs with | [.int lo,.int hi]=>(-(2 ^ 20)<=lo/\lo < 2 ^ 20/\ -(2 ^ 20)<=hi/\hi < 2 ^ 20)/\Q (.obj st1.length) (st1++ [.lst ((List.range (hi - lo).toNat).map λ(i:Nat)=> .int (lo+(i:Int)))]) | _=>False):=rfl
end
section
variable {X:Cx} {es:List Expr} {pos:Pos}
def zh8 (x:Str):List Str:=x.cps.toList.map λc=>⟨#[c]⟩
def gTS (n:Nat)(gs:tF):xN:=λx env st Q=>match x with | .str z=>z.cps.size=n/\gs ((zh8 z).map PV.str) env st Q | _=>False
@[simp] theorem zrI {n:Nat}{gs:tF}{z:Str}{env:zE}{st:z7}{Q:zE->z7->Prop} :gTS n gs (.str z) env st Q=(z.cps.size=n/\gs ((zh8 z).map PV.str) env st Q):=rfl
end
section
variable {X:Cx}
def zq8 (T:zA):zA:=λenv st Q=>T env st λx st1=>match x with | .tup xs=>Q (.lst xs.reverse) st1 | _=>False
@[simp] theorem zuV {T:zA}{env:zE}{st:z7}{Q:K3} :zq8 T env st Q=(T env st λx st1=>match x with | .tup xs=>Q (.lst xs.reverse) st1 | _=>False):=rfl
end
section
variable {X:Cx} {a b c:Expr} {pos:Pos} {Ta Tb Tc:zA}
def zcJ (R R':R3)(Ta Tb Tc:zA):zA:=λenv st Q=>Ta env st λx st1=>Tb env st1 λy st2=>R x y st2 λr st3=>match r with
 | .bl true=>Tc env st3 λz st4=>R' y z st4 Q
 | .bl false=>Q (.bl false) st3
 | _=>False
@[simp] theorem zqv {R R':R3}{env:zE}{st:z7}{Q:K3} :zcJ R R' Ta Tb Tc env st Q=(Ta env st λx st1=>Tb env st1 λy st2=>R x y st2 λr st3=>match r with | .bl true=>Tc env st3 λz st4=>R' y z st4 Q | .bl false=>Q (.bl false) st3 | _=>False):=rfl
theorem zjB {K:Frag}{R R':R3}{σ:St}{H:Hp}{Q:VK} :zG K (zcJ R R' Ta Tb Tc) σ H Q->zhR (xA K R) (xA K R') (zG K Ta) (zG K Tb) (zG K Tc) σ H Q:=by
 rintro⟨A,env,st,Q3,rel,h,k⟩;refine⟨A,env,st,_,rel,h,λA1 H1 st1 x v g1 s1 e1 h1=>⟨A1,env,st1,_,rel.grow g1 s1,h1,λA2 H2 st2 y w g2 s2 e2 h2=>⟨A2,st2,x,y,_,s2,e1.grow g2,e2,h2,λA3 H3 st3 r u g3 s3 e3 h3=> ?_⟩⟩⟩;have g12:=g1.trans g2
 split at h3
 ·cases e3 with
  | val e3=>
   cases e3;refine⟨true,rfl,?_⟩;rw[if_pos rfl];exact⟨A3,env,st3,_,rel.grow (g12.trans g3) s3,h3,λA4 H4 st4 z v4 g4 s4 e4 h4=>⟨A4,st4,y,z,Q3,s4,e2.grow (g3.trans g4),e4,h4,k.after ((g12.trans g3).trans g4)⟩⟩
 ·cases e3 with
  | val e3=>
   cases e3;refine⟨false,rfl,?_⟩;rw[if_neg (by decide)];exact k A3 H3 st3 _ _ (g12.trans g3) s3 (.val (.bl _)) h3
 ·exact h3.elim
theorem zoj {op op':CmpOp}{R R':R3}(ho:y1 X (compareOp op) (xA X.K R))(ho':y1 X (compareOp op') (xA X.K R'))(ha:PE X a (zG X.K Ta))(hb:PE X b (zG X.K Tb))(hc:PE X c (zG X.K Tc))(hm:lastMarks [op,op'] [b,c]=false:=by with_unfolding_all rfl):PE X (.Compare a [op,op'] [b,c] pos) (zG X.K (zcJ R R' Ta Tb Tc)):=
 xH (znk ho ho' ha hb hc hm) λ_ _ _=>zjB
end
section
variable {X:Cx} {iter tg a b:Expr} {Ta:zA}
def zkH (T:zA):vQ:=λenv st Q=>T env st λx st1=> ∃(i:Nat) (kvs:List (zC×PV)),x= .obj i/\((st1[i]?=some (.dct kvs)/\∀o,Q (some (i,.fd o kvs)) (kvs.map λq=>u9 q.1) (st1.set i (.fd o kvs)))∨∃o,st1[i]?=some (.fd o kvs)/\Q (some (i,.fd o kvs)) (kvs.map λq=>u9 q.1) st1)
def zo3:R3:=λx y st Q=>match x with
 | .obj n=>(match y with
  | .str k=>(match st[n]? with | some (.fd _ kvs)=>(match x8 kvs (.inr k)with | some z=>Q z st | none=>False) | _=>False)
  | _=>False)
 | _=>False
end
@[simp] theorem zu1 {T:zA}{env:zE}{st:z7}{Q:xM->List PV->z7->Prop} :zkH T env st Q=(T env st λx st1=> ∃(i:Nat) (kvs:List (zC×PV)),x= .obj i/\((st1[i]?=some (.dct kvs)/\∀o,Q (some (i,.fd o kvs)) (kvs.map λq=>u9 q.1) (st1.set i (.fd o kvs)))∨∃o,st1[i]?=some (.fd o kvs)/\Q (some (i,.fd o kvs)) (kvs.map λq=>u9 q.1) st1)):=rfl
@[simp] theorem zss {n:Nat}{x:Str}{st:z7}{Q:K3} :zo3 (.obj n) (.str x) st Q=(match st[n]? with | some (.fd _ kvs)=>(match x8 kvs (.inr x)with | some z=>Q z st | none=>False) | _=>False):=rfl
end L3
namespace L2
open PySem PySem.Spec PyProof.Rows
structure vY (h:Heap)(e C:Addr)(od:Option Addr)(cx:Value)(T:Addr)(fl:Value):Prop where
 ob: ∃oe vs,h.get? e=some oe/\oe.cls= .ref C/\oe.dict=od/\oe.data= .fields vs/\vs[1]?=some (.ref T)/\vs[2]?=some cx
 ne:T≠e
 tr: ∃oT ts,h.get? T=some oT/\oT.data= .fields ts/\ts[3]?=some fl
def kC (h:Heap)(e C:Addr)(od:Option Addr)(cx:Value)(ch:List Addr):Prop:=
 (ch= [e]/\∃oe vs,h.get? e=some oe/\oe.cls= .ref C/\oe.dict=od/\oe.data= .fields vs/\vs[1]?=some .none/\vs[2]?=some cx)∨∃T,ch= [e,T]/\vY h e C od cx T .none
structure x4 (fs ch:List Addr)(h h':Heap):Prop where
 size:h.objs.size<=h'.objs.size
 keep: ∀b o,h.get? b=some o->b∉fs->b∉ch->h'.get? b=some o
 slot: ∀b o,h.get? b=some o->b∉ch->∃sl,h'.get? b=some {o with slots:=sl}
 there: ∀b o,h.get? b=some o->∃o',h'.get? b=some o'
theorem x4.refl (fs ch:List Addr)(h:Heap):x4 fs ch h h:=⟨Nat.le_refl _,λ_ _ e _ _=>e,λ_ o e _=>⟨o.slots,e⟩,λ_ o e=>⟨o,e⟩⟩
theorem x4.trans {fs ch:List Addr}{h h1 h2:Heap}(a:x4 fs ch h h1)(b:x4 fs ch h1 h2):x4 fs ch h h2:=
 ⟨Nat.le_trans a.size b.size,λc o e n m=>b.keep c o (a.keep c o e n m) n m,λc o e m=>by
  obtain⟨s1,e1⟩:=a.slot c o e m;obtain⟨s2,e2⟩:=b.slot c _ e1 m;exact⟨s2,e2⟩,λc o e=>let⟨o1,e1⟩:=a.there c o e;b.there c o1 e1⟩
theorem x4.upd {fs ch:List Addr}{h:Heap}{a:Addr}{o:Obj}{f:Array Value->Array Value}(ho:h.get? a=some o)(m:a∈ch){vs:Array Value}(hd:o.data= .fields vs):x4 fs ch h (h.update a (Obj.mapFields f)):=by
 have ne: ∀b,b∉ch->a≠b:=λb n z=>n (z▸m);refine⟨Nat.le_of_eq (Heap.size_after_update ..).symm,λb ob e _ n=> ?_,λb ob e n=>⟨ob.slots,?_⟩,λb ob e=> ?_⟩
 ·rw[Heap.get?_update_other _ _ (ne b n)];exact e
 ·rw[Heap.get?_update_other _ _ (ne b n)];exact e
 ·by_cases z:a=b
  ·subst z
   exact⟨_,Heap.get?_update_self _ ho (Obj.isFreed_of_fields (Obj.data_mapFields hd _))⟩
  ·exact⟨ob,by rw[Heap.get?_update_other _ _ z];exact e⟩
theorem x4.push {fs ch:List Addr}{h:Heap}{o:Obj} :x4 fs ch h (h.push o):=
 ⟨by simp[Heap.push],λb ob e _ _=>Heap.get?_push_of_some _ e,λb ob e _=>⟨ob.slots,Heap.get?_push_of_some _ e⟩,λb ob e=>⟨ob,Heap.get?_push_of_some _ e⟩⟩
theorem x4.slots {fs ch S:List Addr}{h h':Heap}(x:Heap.SlotsOnly S h h')(sub: ∀b∈S,b∈fs):x4 fs ch h h':=
 ⟨Nat.le_of_eq x.1.symm,λb ob e n _=>(x.2.1 b λz=>n (sub b z)).trans e,λb ob e _=>x.2.2 b ob e,λb ob e=>let⟨_,z⟩:=x.2.2 b ob e;⟨_,z⟩⟩
theorem zjZ (o:Obj)(f:Array Value->Array Value):(o.mapFields f).dict=o.dict:=by
 obtain⟨c,d,dt,sl⟩:=o;cases dt <;> rfl
section
variable {M:Model} {A:Around} {E:Value->Shared->Prop} {s:Shared} {base:Heap} {env:Env} {outer:List Env} {L e C:Addr} {od:Option Addr} {cx:Value} {ch:List Addr} {Q:Unit->Shared->Prop}
theorem zb7 {oe:Obj}{vs:Array Value}{head:Value}{had:Bool}(xW:A.frames=some (env::outer))(hl:s.heap.FunFrames base (env::outer))(hf:env.frame=some L)
  (he:s.heap.get? e=some oe) (hc:oe.cls= .ref C) (ho:oe.dict=od) (hd:oe.data= .fields vs) (hz:1 < vs.size) (h2:vs[2]?=some cx) (me:e∈ch)
  (h: ∀h' T,x4 (yX (env::outer)) ch s.heap h'->s.heap.objs.size<=T->vY h' e C od cx T (rawInt L)->Q () {s with heap:=h'}):
  wpAny M A (do let a <- frameOf env;let pl <- entryPlaceOf L had;let b <- EntryCells.newEntry head a .none (rawInt L) .none pl;setField (.ref e) 1 b) Q E s:=by
 have nfr:e∉yX (env::outer):=λm=>by
  obtain⟨_,o,q,nf⟩:=hl.mem m;rw[he]at q;cases q;exact nf vs hd
 refine wpAny_bind (wpAny_frameOf_fun xW hl hf λh1 s1=>wpAny_bind (wpAny_entryPlaceOf λpl hpl=> ?_));unfold EntryCells.newEntry newFields;refine wpAny_bind (wpAny_newObj_type ?_ (hpl.sizeOk5 _ _ _ _ _));have e1:h1.get? e=some oe:=(s1.2.1 e nfr).trans he;have e2:=Heap.get?_push_of_some (h:=h1) {cls:= .type "traceback",dict:=none,data:= .fields ([head,Value.ref L,Value.none,rawInt L,Value.none]++(if pl.isEmpty then List.replicate 6 Value.none else pl)).toArray} e1;refine wpAny_setField e2 hd hz (h _ h1.objs.size ?_ (Nat.le_of_eq s1.1.symm) ?_)
 ·exact(x4.slots s1 λb z=>z).trans (x4.push.trans (x4.upd e2 me hd))
 ·have ne:h1.objs.size≠e:=Nat.ne_of_gt (Heap.lt_size e1)
  have d3:=Obj.data_mapFields hd (·.setIfInBounds 1 (Value.ref h1.objs.size));refine⟨⟨_,_,Heap.get?_update_self _ e2 (Obj.isFreed_of_fields d3),(Obj.cls_mapFields _ _).trans hc,(zjZ _ _).trans ho,d3,by simp[hz],by rw[Array.getElem?_setIfInBounds_ne (by decide)];exact h2⟩,ne,?_⟩;refine⟨_,_,(by rw[Heap.get?_update_other _ _ (Ne.symm ne)];exact Heap.get?_push_size _ rfl),rfl,?_⟩
  ·rcases hpl with rfl | ⟨_,_,_,_,_,_,_,rfl⟩ <;> simp
theorem zb8 (xW:A.frames=some (env::outer))(hl:s.heap.FunFrames base (env::outer))(hf:env.frame=some L)(x:kC s.heap e C od cx ch)
  (h: ∀h' T,x4 (yX (env::outer)) ch s.heap h'->s.heap.objs.size<=T->vY h' e C od cx T (rawInt L)->Q () {s with heap:=h'}):wpAny M A (noteFrame (.ref e) env) Q E s:=by
 unfold noteFrame;simp only[hf];rcases x with⟨rfl,oe,vs,he,hc,ho,hd,h1,h2⟩ | ⟨T,rfl,⟨oe,vs,he,hc,ho,hd,h1,h2⟩,ne,oT,ts,hT,hdT,h3⟩
 ·refine wpAny_bind (wpAny_field he hd h1 ?_)
  rw[if_neg (by simp)];exact zb7 xW hl hf he hc ho hd (Array.getElem?_eq_some_iff.mp h1).1 h2 (by simp) h
 ·refine wpAny_bind (wpAny_field he hd h1 ?_)
  rw[if_pos (show(Value.ref T !=Value.none)=true from by simp)];refine wpAny_bind (wpAny_field hT hdT h3 ?_);rw[if_neg (show ¬ ((Value.none==rawInt L)=true)from by simp[rawInt])];refine wpAny_bind (wpAny_setField hT hdT (Array.getElem?_eq_some_iff.mp h3).1 ?_);have st:x4 (yX (env::outer)) [e,T] s.heap (s.heap.update T (Obj.mapFields (·.setIfInBounds 3 Value.none))):=x4.upd hT (by simp) hdT;have e1:(s.heap.update T (Obj.mapFields (·.setIfInBounds 3 Value.none))).get? e=some oe:=by rw[Heap.get?_update_other _ _ ne];exact he
  refine zb7 xW (hl.of_keeps λb o q nf=> ?_) hf e1 hc ho hd (Array.getElem?_eq_some_iff.mp h1).1 h2 (by simp) λh' T' s2 z f=>h h' T' (st.trans s2) (Nat.le_trans st.size z) f;by_cases z:T=b
  ·subst z;rw[hT]at q;cases q;exact absurd hdT (nf ts)
  ·exact⟨o,by rw[Heap.get?_update_other _ _ z];exact q,rfl⟩
theorem jF {T:Addr}{fl:Value}(x:vY s.heap e C od cx T fl)(h: ∀h',x4 [] [T] s.heap h'->vY h' e C od cx T .none->Q () {s with heap:=h'}):wpAny M A (setFlight (.ref e) none) Q E s:=by
 obtain⟨⟨oe,vs,he,hc,ho,hd,h1,h2⟩,ne,oT,ts,hT,hdT,h3⟩:=x;unfold setFlight;refine wpAny_bind (wpAny_field he hd h1 ?_);rw[if_pos (show(Value.ref T !=Value.none)=true from by simp)];have hz:3 < ts.size:=(Array.getElem?_eq_some_iff.mp h3).1;refine wpAny_setField hT hdT hz (h _ (x4.upd hT (by simp) hdT) ⟨⟨oe,vs,?_,hc,ho,hd,h1,h2⟩,ne,⟨_,_,Heap.get?_update_self _ hT (Obj.isFreed_of_fields (Obj.data_mapFields hdT _)),Obj.data_mapFields hdT _,by simp[hz]⟩⟩);rw[Heap.get?_update_other _ _ ne];exact he
end
section
variable {X:Cx} {pins:List (Addr×Obj)} {σ:St} {H:Hp} {s:Shared}
def uH (X:Cx)(pins:List (Addr×Obj))(b:Addr):Prop:=(b∈X.ex∨X.s₀.heap.objs.size<=b)/\b≠X.env.locals/\(∀x c,X.env.cells.lookup x=some c->c≠b)/\∀p∈X.pn++pins,p.1≠b
theorem z6.priv (I:z6 X pins σ H s){b:Addr}(h:s.heap.objs.size<=b):uH X pins b:=by
 refine⟨.inr (Nat.le_trans I.sz h),λz=> ?_,λx c q z=> ?_,λp hp z=> ?_⟩
 ·exact absurd I.lt (Nat.not_lt.mpr (z▸h))
 ·obtain⟨v,o,ho,_⟩:=I.cell x c q
  exact absurd (Heap.lt_size ho) (Nat.not_lt.mpr (z▸h))
 ·exact absurd (Heap.lt_size (I.pin p hp).1) (Nat.not_lt.mpr (z▸h))
theorem z6.stays {h':Heap}{ch:List Addr}(I:z6 X pins σ H s)(st:x4 (yX X.stack) ch s.heap h')(hch: ∀b∈ch,uH X pins b/\H b=none):z6 X pins σ H {s with heap:=h'} :=by
 have nt: ∀b u,H b=some u->b∉ch:=λb u z m=>by rw[(hch b m).2]at z;cases z
 refine I.call' (s':= {s with heap:=h'}) (ch:=ch) rfl ⟨λb o e n nf nx=>st.keep b o e nf nx,λb o e n _ nx=>st.slot b o e nx,λb o e n _=>n,λb o e _=>st.there b o e,λb xs z=>z,λb o u z=>z,λb ps z=>⟨#[],by simpa using z⟩⟩ ?_ I.bare λb m=>(hch b m).1;intro b u z;refine(I.hok b u z).stay (λc v hc q=> ?_) (λc q=>q) λc xs q=>q;have hH:H c≠none:=by
  rcases hc with rfl | w
  ·rw[z];exact Option.some_ne_none _
  ·rw[w];exact Option.some_ne_none _
 refine st.keep c v q (λm=>hH (I.stkFree c m)) λm=>hH (hch c m).2
theorem z6.drop {e:Addr}{f:Heap->Prop}(I:z6 X pins σ H s)(h:H e=some (.ext f)):z6 X pins σ (λb=>if b=e then none else H b) s:=by
 have ne: ∀b u,H b=some u->(∀g,u≠ .ext g)->b≠e:=λb u z n w=>by rw[w,h]at z;cases z;exact n f rfl
 refine I.un (t':=s.toks) (h':=s.heap) ⟨λb o q _ _ _=>q,λb o q _ _ _=>⟨o.slots,q⟩,λb o q n _=> ?_,λb o q _=>⟨o,q⟩,λb xs z=> ?_,λb o u z=> ?_,λb ps z=>⟨#[],?_⟩⟩ λb u z=> ?_
 ·show(if b=e then none else H b)=none;split
  ·rfl
  ·exact n
 ·rw[if_neg (ne b _ z (by intro g w;cases w))];exact z
 ·rw[if_neg (ne b _ z (by intro g w;cases w))];exact z
 ·rw[if_neg (ne b _ z (by intro g w;cases w))];simpa using z
 ·replace z:(if b=e then none else H b)=some u:=z
  split at z
  ·cases z
  ·refine(I.hok b u z).stay (λc v _ q=>q) (λc q=> ?_) λc xs q=> ?_
   ·rw[if_neg (ne c _ q (by intro g w;cases w))];exact q
   ·rw[if_neg (ne c _ q (by intro g w;cases w))];exact q
end
def yJ (P:Program)(w:World)(g:Value->Prop):wL:=λouter H s E ev s'=> ∃(e C T:Addr) (od:Option Addr) (cx:Value) (H':Hp),ev= .ref e/\g cx/\E (.ref C) od H'/\s'.os=s.os/\AllBare s'.gens/\Un (yX outer) [] H H' s.heap s'.heap/\yQ P w H' s'.heap/\
 vY s'.heap e C od cx T .none/\H' e=none/\H' T=none/\s.heap.objs.size<=e/\s.heap.objs.size<=T
section
variable {P:Program} {w:World} {K:Frag} {mg:Str->Option Value} {base:Heap} {N:List Str} {qual:Str} {scope:Scope} {f:Addr} {cd:Value} {A:Around} {outer:List Env} {s0:Shared} {H0:Hp} {E:XK} {g g':Value->Prop}
theorem zgb {pins:List (Addr×Obj)}{σ:St}{H:Hp}{s:Shared}{e C:Addr}{od:Option Addr}{cx:Value}{ch:List Addr}(I:z6 (xT (yJ P w g) P w K mg base N qual scope f cd A outer s0 H0 E) pins σ H s)(x:kC s.heap e C od cx ch)(hg:g cx)(ne:H e=none)
  (hch: ∀b∈ch,uH (xT (yJ P w g) P w K mg base N qual scope f cd A outer s0 H0 E) pins b/\H b=none) (me:e∈ch) (q:E (.ref C) od H):(xT (yJ P w g) P w K mg base N qual scope f cd A outer s0 H0 E).xe (.ref e) s:=by
 show wpAny (model P w) (A.deeper (envOfC qual scope s0.heap.objs.size f cd)) (leaving (envOfC qual scope s0.heap.objs.size f cd) (.ref e)) (λ_ s''=>yJ P w g outer H0 s0 E (.ref e) s'') (λe' s''=>yJ P w g outer H0 s0 E e' s'') s;unfold leaving;refine wpAny_bind (zb8 I.ok.frames I.stack rfl x λh1 T st zT fl=> ?_);have I1:=I.stays st hch;have zT0:s0.heap.objs.size<=T:=Nat.le_trans I.sz zT;have nT:H T=none:=I.hok.fresh zT;have pT:=I.priv zT;refine jF fl λh2 st2 fl2=> ?_;have I2:=I1.stays (h':=h2) (ch:= [T]) ⟨st2.size,λb o z n m=>st2.keep b o z (by simp) m,st2.slot,st2.there⟩ (λb m=>by rw[List.mem_singleton.mp m];exact⟨pT,nT⟩);have e0:s0.heap.objs.size<=e:=by
  rcases(hch e me).1.1 with z | z
  ·exact absurd (show e∈([]:List Addr)from z) (by simp)
  ·exact z
 exact⟨e,C,T,od,cx,H,rfl,hg,q,I2.os,I2.bare,I2.base,I2.hok,fl2,ne,nT,e0,zT0⟩
theorem wV (gg: ∀v,g' v->g v:=by exact λ_ z=>z):u0 (yJ P w g') (xT (yJ P w g) P w K mg base N qual scope f cd A outer s0 H0 E) E:=by
 rintro pins σ H s ev s' I ⟨e,C,T,od,cx,H',rfl,hg,q,os,bare,un,hok,fl,ne,nT,ze,zT⟩;have J:=I.call' (s':=s') (ch:= []) os un hok bare (λb z=>absurd z (by simp));refine zgb J (.inr ⟨T,rfl,fl⟩) (gg _ hg) ne (λb m=> ?_) (by simp) q;rcases List.mem_cons.mp m with rfl | m
 ·exact⟨I.priv ze,ne⟩
 ·rw[List.mem_singleton.mp m];exact⟨I.priv zT,nT⟩
end
section
variable {M:Model} {A:Around} {E:Value->Shared->Prop} {env:Env}
variable {nm q:Str} {C N:Addr} {bs bm:List Value} {hdct:Bool} {sn:List Str} {sub:List Value} {ab:Bool} {col:Option Bool} {dd:Option Addr} {k0 k1 k2 k3 k5:Option Value} {newId:String}
theorem zoG {s:Shared}{x:Sem Value}{Q:Flow->Shared->Prop}(hb:bm.contains (.type "BaseException")=true)(hh:A.handled=none)
  (h:wpAny M A x (λv s1=> ∃e t od,v= .ref e/\s1.heap.get? C=some (excClassObj nm q C N bs bm hdct sn sub ab col dd k0 k1 k2 k3 k5 newId)/\s1.heap.get? e=some (wR C od t)/\E (.ref e) s1) E s):wpAny M A (raiseStmt env (some x) none) Q E s:=by
 have hc:(Value.ref C::bm).contains (.type "BaseException")=true:=by rw[List.contains_cons,hb,Bool.or_true]
 unfold raiseStmt;refine wpAny_bind (zJ h λv s1 ⟨e,t,od,ev,hC,he,hE⟩=> ?_);subst ev;obtain⟨hp,g,d,tk,os⟩:=s1
 repeat(first | with_reducible refine wpAny_loadPart_at he ?_ | with_reducible refine wpAny_loadPart_at hC ?_ | (with_reducible refine wpAny_isSubtype_exc hC ?_;rw[hc]) | wp_step)
 exact wpAny_raiseNew_none hh hE
end
def gU (X:Cx)(g:Value->Prop)(W:XK):Prop:= ∀(pins:List (Addr×Obj)) (σ:St) (H:Hp) (s:Shared) (e C:Addr) (od:Option Addr) (cx:Value) (ch:List Addr),z6 X pins σ H s->kC s.heap e C od cx ch->g cx->H e=none->(∀b∈ch,uH X pins b/\H b=none)->e∈ch->W (.ref C) od H->X.xe (.ref e) s
theorem sX {P:Program}{w:World}{K:Frag}{mg:Str->Option Value}{base:Heap}{N:List Str}{qual:Str}{scope:Scope}{f:Addr}{cd:Value}{A:Around}{outer:List Env}{s0:Shared}{H0:Hp}{E:XK}{g:Value->Prop} :
  gU (xT (yJ P w g) P w K mg base N qual scope f cd A outer s0 H0 E) g E:=λ_ _ _ _ _ _ _ _ _ I x hg ne hch me q=>zgb I x hg ne hch me q
section
variable {X:Cx} {CX:wL} {k:Nat} {f C HE:Addr} {fd:FuncData} {ps:List Str} {sp:Sp} {E:XK}
theorem zoP {pins:List (Addr×Obj)}{σ:St}{H:Hp}{s:Shared}{Q:VK}{us:List Value}{vs:List V}(T:sB X.K HE)(M:v9 X.K HE C)(MI:mD X.K C f)(len: ∀vs H Q E,sp vs H Q E->vs.length=ps.length)(run: ∀(s:Shared) (H:Hp) (args:Args) (us':List Value) (vs:List V) (Q:VK) (E:XK),uD X.prog X.w X.K X.mg X.base (X.A.under (.builtin "type.__call__" ⟨.ref C::us,[]⟩)) X.stack s H->BindsTo s fd args (ps.zip us')->zI vs us'->sp vs H Q E->
   codeAny (model X.prog X.w) (X.A.under (.builtin "type.__call__" ⟨.ref C::us,[]⟩)) (.call (.ref f) args) (CR CX X.stack X.prog X.w H s Q E) s) (hb:zS X.K fd ps [])
  (hx:u0 CX X E) (I:z6 X pins σ H s) (r:zI vs us) (hz:us.length<=1000)
  (h: ∀e,H e=none->s.heap.objs.size<=e->sp (.ref e::vs) (upd H e (wZ e C none)) (λv H2=>v= .non/\Q (.ref e) H2) E):
  wpAny (model X.prog X.w) X.A (call (.ref C) us) (EP X pins σ Q) X.xe s:=by
 obtain⟨hp,gg,d,tk,os⟩:=s;have KX:X.K.In hp:=I.kIn;obtain⟨nm,q,N,bs,sn,sub,ab,col,dd,k0,k1,k2,k3,k5,l⟩:=M.ob;have hf:typeIn X.K (.ref f)=some (.type "function"):=beq_iff_eq.mp MI.fn;have hq:=h (hp.objs.size+1) (I.hok.fresh (Nat.le_succ _)) (Nat.le_succ _);have eX:((hp.push {cls:= .type "tuple",data:= .seq us.toArray}).push (wR C none hp.objs.size)).get? (hp.objs.size+1)=some (wR C none hp.objs.size):=by heap_get
 have I2:z6 X pins σ (upd H (hp.objs.size+1) (wZ (hp.objs.size+1) C none)) ⟨(hp.push {cls:= .type "tuple",data:= .seq us.toArray}).push (wR C none hp.objs.size),gg,d,tk,os⟩:=
  I.laid (t':=tk) (λb u z=>Heap.get?_push_of_some _ (Heap.get?_push_of_some _ z)) (Nat.le_succ _) (xok eX)
 have r2:zI (V.ref (hp.objs.size+1)::vs) (Value.ref (hp.objs.size+1)::us):= .cons rfl r;have hl:(Value.ref (hp.objs.size+1)::us++ []).length=ps.length:=by
  have e:=r2.length;rw[len _ _ _ _ hq]at e;simpa using e.symm
 have bd:=hb _ (Value.ref (hp.objs.size+1)::us) I2.kIn hl;rw[List.append_nil]at bd;refine wpAny_call (zkj (T.tail hp KX) (KX _ _ l) (looks_findIn KX MI.init) (λself=>bind_fn KX self hf) (Nat.le_trans hz (by decide)) ?_);refine codeAny_mono (run _ _ ⟨Value.ref (hp.objs.size+1)::us,[]⟩ (Value.ref (hp.objs.size+1)::us) _ _ E (I2.env0.make C us []) bd r2 hq) λrr s' hq'=> ?_;cases rr with
 | error e=>exact hx pins σ _ _ e s' I2 hq'
 | ok fl=>
  cases fl with
  | ret u=>
   obtain⟨v,H',I3,rv,ev,q3⟩:=I2.after hq';subst ev;exact⟨rv,⟨V.ref (hp.objs.size+1),H',I3,rfl,q3⟩⟩
  | next=>exact False.elim hq'
  | brk=>exact False.elim hq'
  | cont=>exact False.elim hq'
theorem zoO {pins:List (Addr×Obj)}{σ:St}{H:Hp}{s:Shared}{Q:VK}{us:List Value}{vs:List V}(T:sB X.K HE)(M:v9 X.K HE C)(MI:mD X.K C f)(F:zZ X.prog X.w X.K X.mg X.base CX k f fd ps sp)(hr:zF (k+1) X.A)(hb:zS X.K fd ps [])
  (hx:u0 CX X E) (I:z6 X pins σ H s) (r:zI vs us) (hz:us.length<=1000)
  (h: ∀e,H e=none->s.heap.objs.size<=e->sp (.ref e::vs) (upd H e (wZ e C none)) (λv H2=>v= .non/\Q (.ref e) H2) E):
  wpAny (model X.prog X.w) X.A (call (.ref C) us) (EP X pins σ Q) X.xe s:=
 zoP T M MI F.len (λs H args us' vs Q E e0 bd r q=>F.run _ _ s H args us' vs Q E (hr.make C us []) e0 bd r q) hb hx I r hz h
variable {x:Str} {p pos pos':Pos} {W:XK} {g:Value->Prop}
end
def qZ:HO->Bool | .tup _=>true | .frz _ (.tup _)=>true | _=>false
def wB (H:Hp):Hp:=λb=>match H b with | some u=>if qZ u=true then some u else none | none=>none
theorem hJ {H:Hp}{b:Addr}{u:HO}(h:H b=some u)(t:qZ u=true):wB H b=some u:=by unfold wB;rw[h];exact if_pos t
theorem zcG {H:Hp}{b:Addr}{u:HO}(h:wB H b=some u):qZ u=true/\H b=some u:=by
 unfold wB at h
 split at h
 ·rename_i v e
  split at h
  ·rename_i t;cases h;exact⟨t,e⟩
  ·cases h
 ·cases h
theorem zcF {H:Hp}{b:Addr}(h: ∀u,H b=some u->qZ u=false):wB H b=none:=by
 cases e:wB H b with
 | none=>rfl
 | some u=>obtain⟨t,z⟩:=zcG e;rw[h u z]at t;cases t
theorem zg4 {P:Program}{w:World}{H H':Hp}{h:Heap}{a:Addr}{u:HO}(t:qZ u=true)(x:x9 P w H h a u):x9 P w H' h a u:=by
 cases u with
 | tup xs=>exact x
 | frz o v=>cases v with
  | tup xs=>exact x
  | _=>cases t
 | _=>cases t
section
variable {X:Cx} {pins:List (Addr×Obj)} {σ:St} {H H':Hp} {s s':Shared}
theorem uD.tups {P:Program}{w:World}{K:Frag}{mg:Str->Option Value}{base:Heap}{A:Around}{outer:List Env}(e:uD P w K mg base A outer s H):uD P w K mg base A outer s (wB H):=by
 have no: ∀b,H b=none->wB H b=none:=λb z=>zcF λu q=>by rw[z]at q;cases q
 refine⟨e.frames,e.mod,λb o z=>⟨(e.bs b o z).1,no b (e.bs b o z).2⟩,e.bsz,e.funs,λb m=>no b (e.frf b m),λb u z=> ?_,e.bare⟩;obtain⟨t,q⟩:=zcG z;exact zg4 t (e.hok b _ q)
theorem z6.behind (I:z6 X pins σ H s)(os:s'.os=s.os)(bare:AllBare s'.gens)(un:Un (yX X.stack) [] (wB H) H' s.heap s'.heap)(hok:yQ X.prog X.w H' s'.heap):z6 X pins σ H s':=by
 have no: ∀b,H b=none->wB H b=none:=λb z=>zcF λu q=>by rw[z]at q;cases q
 refine I.call' (ch:= []) os ⟨λb o e n nf nx=>un.keep b o e (no b n) nf nx,λb o e n nf nx=>un.slot b o e (no b n) nf nx,λb o e n _=>n,λb o e nx=>un.there b o e nx,λb xs z=>z,λb o u z=>z,λb ps z=>⟨#[],by simpa using z⟩⟩ (λb u z=> ?_) bare (λb z=>absurd z (by simp));cases ht:qZ u with
 | true=>
  have h':H' b=some u:=by
   cases u with
   | tup xs=>exact un.tups b xs (hJ z ht)
   | frz o v=>exact un.frzs b o v (hJ z ht)
   | _=>cases ht
  exact zg4 ht (hok b u h')
 | false=>
  refine(I.hok b u z).stay (λc v hc q=> ?_) (λc q=>q) λc xs q=>q;have hH:H c≠none/\∀u,H c=some u->qZ u=false:=by
   rcases hc with rfl | w
   ·exact⟨by rw[z];exact Option.some_ne_none _,λu' w=>by rw[z]at w;cases w;exact ht⟩
   ·rw[w];exact⟨Option.some_ne_none _,λu' w'=>by cases w';rfl⟩
  exact un.keep c v q (zcF hH.2) (λm=>hH.1 (I.stkFree c m)) (by simp)
abbrev Cx.exc (X:Cx)(e:Addr)(pn:List (Addr×Obj))(E:Value->Shared->Prop):Cx:= {X with A:=X.A.mark (some (.ref e)),calm:=false,pn:=pn,xe:=E}
theorem Cx.Ok.exc {e:Addr}{pn:List (Addr×Obj)}{E:Value->Shared->Prop}(k:X.Ok):(X.exc e pn E).Ok:=
 ⟨k.mod,k.kind,k.glob,k.blt,k.above,k.inj,k.has,k.cab,(λh=>absurd (show false=true from h) Bool.false_ne_true),k.frames,k.stk,k.exf,k.bs,k.bsz,k.noex,k.exfs,k.funs,k.frf⟩
theorem z6.exc_in {e:Addr}{oe:Obj}{E:Value->Shared->Prop}{vs:Array Value}(I:z6 X pins σ H s)(he:s.heap.get? e=some oe)(hd:oe.data= .fields vs)(ne:H e=none)(nl:e≠X.env.locals):z6 (X.exc e (X.pn++ [(e,oe)]) E) pins σ H s:=by
 refine⟨I.ok.exc,I.os,I.bare,I.base,I.loc,I.cell,I.free,I.freeC,λp hp=> ?_,I.hok,I.len⟩;rcases List.mem_append.mp hp with hp | hp
 ·rcases List.mem_append.mp hp with hp | hp
  ·exact I.pin p (List.mem_append_left _ hp)
  ·rw[List.mem_singleton.mp hp]
   refine⟨he,ne,nl,λm=> ?_,λv z=>by rw[hd]at z;cases z⟩;obtain⟨_,o,q,nf⟩:=I.funs.mem m;rw[he]at q;cases q;exact nf vs hd
 ·exact I.pin p (List.mem_append_right _ hp)
theorem z6.gone1 {h':Heap}{t':Nat}{m:Str->Option Value}{w:Option Value}{i:Nat}{n:Str}(I:z6 X pins σ H s)(hN:X.N.Nodup)(hi:X.N[i]?=some n)
  (hm: ∀(j:Nat) (x:Str) (v:V),X.N[j]?=some x->σ[j]?=some (some v)->qO X.env.scope x->∃u,zL v u/\zdk X.env s.heap m x u) (hn:h'.Ns X.env.locals (λx=>if x=n then w else m x)) (hs:Heap.SameBut X.env.locals s.heap h'):z6 X pins (σ.set i none) H {s with heap:=h',toks:=t'} :=by
 have lo: ∀b o,X.s₀.heap.get? b=some o->b≠X.env.locals:=λb o z=>Nat.ne_of_lt (Nat.lt_of_lt_of_le (Heap.lt_size z) I.ok.above);refine⟨I.ok,I.os,I.bare,⟨λb o z n nf nx=>(hs.2 b (lo b o z)).trans (I.base.keep b o z n nf nx),λb o z n nf nx=> ?_,I.base.free,λb o z nx=> ?_,I.base.tups,I.base.frzs,I.base.tbls⟩,
  ⟨_,hn,λj x v e1 e2 e3=> ?_⟩,λx c z=> ?_,I.free,I.freeC,λp hp=> ?_,λb u z=> ?_,by rw[List.length_set];exact I.len⟩
 ·obtain⟨sl,q⟩:=I.base.slot b o z n nf nx
  exact⟨sl,(hs.2 b (lo b o z)).trans q⟩
 ·obtain⟨o',q⟩:=I.base.there b o z nx
  exact⟨o',(hs.2 b (lo b o z)).trans q⟩
 ·have ne:i≠j:=λz=>by
   subst z;rw[List.getElem?_set]at e2
   split at e2
   ·split at e2 <;> cases e2
   ·rename_i q;exact q rfl
  rw[List.getElem?_set_ne ne]at e2;have nx:x≠n:=λz=>ne ((List.getElem?_inj (List.getElem?_eq_some_iff.mp hi).1 hN).mp (hi.trans (z▸e1.symm)));obtain⟨u,ru,lk⟩:=hm j x v e1 e2 e3;refine⟨u,ru,?_⟩;rcases lk with⟨k,e⟩ | ⟨k,c,ec,hc⟩
  ·exact .inl ⟨k,(if_neg nx).trans e⟩
  ·refine .inr ⟨k,c,ec,?_⟩
   obtain⟨o,ho,r⟩:=hc;exact⟨o,(hs.2 c (I.cne x c ec)).trans ho,r⟩
 ·obtain⟨v,o,ho,hv⟩:=I.cell x c z
  exact⟨v,o,(hs.2 c (I.cne x c z)).trans ho,hv⟩
 ·obtain⟨p1,p2,p3,p4⟩:=I.pin p hp
  exact⟨(hs.2 p.1 p3).trans p1,p2,p3,p4⟩
 ·refine(I.hok b u z).stay (λc v hc q=>(hs.2 c ?_).trans q) (λc q=>q) λc xs q=>q
  rintro rfl;rcases hc with w | w
  ·rw[<- w,I.free]at z;cases z
  ·rw[I.free]at w;cases w
end
section
variable {M:Model} {A:Around} {E:Value->Shared->Prop}
variable {nm q:Str} {C N:Addr} {bs bm:List Value} {hdct:Bool} {sn:List Str} {sub:List Value} {ab:Bool} {col:Option Bool} {dd:Option Addr} {k0 k1 k2 k3 k5:Option Value} {newId:String}
theorem zlK {h:Heap}{g:Array GenState}{d:Drawn}{t:Nat}{os:OsState}{e D N2:Addr}{oe:Obj}{nm2 q2:Str}{bs2 bm2:List Value}{hdct2:Bool}{sn2:List Str}{sub2:List Value}{ab2:Bool}{col2:Option Bool}{dd2:Option Addr}{l0 l1 l2 l3 l5:Option Value}{newId2:String}{Q:Bool->Shared->Prop}
  (hC:h.get? C=some (excClassObj nm q C N bs bm hdct sn sub ab col dd k0 k1 k2 k3 k5 newId)) (hD:h.get? D=some (excClassObj nm2 q2 D N2 bs2 bm2 hdct2 sn2 sub2 ab2 col2 dd2 l0 l1 l2 l3 l5 newId2)) (hm:bm2.contains (.type "BaseException")=true) (he:h.get? e=some oe) (hc:oe.cls= .ref C) (h1:(Value.ref C::bm).contains (.ref D)=true)
  (hq:Q true ⟨h,g,d,t,os⟩):wpAny M A (excMatches (.ref e) (.ref D)) Q E ⟨h,g,d,t,os⟩:=by
 have h2:(Value.ref D::bm2).contains (.type "BaseException")=true:=by rw[List.contains_cons,hm,Bool.or_true]
 have f:=tc_notTuple;unfold excMatches
 repeat(first | (with_reducible refine wpAny_loadPart_at he ?_;rw[hc]) | with_reducible refine wpAny_loadPart_at hD ?_ | (with_reducible refine wpAny_isSubtype_exc hC ?_;rw[h1]) | (with_reducible refine wpAny_isSubtype_exc hD ?_;rw[h2]) | wp_step)
 exact hq
end
def gX (K:Frag)(HE:Addr):Prop:= ∃(nm q:Str) (N:Addr) (bs:List Value) (hd:Bool) (sn:List Str) (sub:List Value) (ab:Bool) (col:Option Bool) (dd:Option Addr) (k0 k1 k2 k3 k5:Option Value) (nw:String),
 K.lookup HE=some (excClassObj nm q HE N bs wM hd sn sub ab col dd k0 k1 k2 k3 k5 nw)
end L2
namespace L3
open PySem PySem.Spec PyProof.Rows L2
mutual
def sZ:PV->Bool
 | .tup xs=>tupVs xs
 | .non=>true
 | .bl _=>true
 | .int _=>true
 | .str _=>true
 | .ty _=>true
 | _=>false
def tupVs:List PV->Bool
 | []=>true
 | x::xs=>sZ x&&tupVs xs
end
section
variable {K:Frag} {A:List Addr} {H:Hp}
theorem u3.tups {a:Addr}{vs:List V}(h:u3 K A H a vs):u3 K [] (wB H) a vs:=by
 rcases h with⟨h | ⟨o,h⟩,_⟩ | h
 ·exact .inl ⟨.inl (hJ h rfl),by simp⟩
 ·exact .inl ⟨.inr ⟨o,hJ h rfl⟩,by simp⟩
 ·exact .inr h
mutual
theorem RV.tups {x:PV}{v:V} :RV K A H x v->sZ x=true->RV K [] (wB H) x v
 | .non,_=> .non
 | .bl b,_=> .bl b
 | .int i,_=> .int i
 | .str x,_=> .str x
 | .ty n,_=> .ty n
 | .tup t z r,h=> .tup t.tups z (RVs.tups r (by unfold sZ at h;exact h))
 | .lst t z r,h=>by unfold sZ at h;cases h
 | .dct t z r,h=>by unfold sZ at h;cases h
 | .itb e n,h=>by unfold sZ at h;cases h
 | .clo e,h=>by unfold sZ at h;cases h
theorem RVs.tups {xs:List PV}{vs:List V} :RVs K A H xs vs->tupVs xs=true->RVs K [] (wB H) xs vs
 | .nil,_=> .nil
 | .cons r t,h=>by
  unfold tupVs at h;have h:=Bool.and_eq_true_iff.mp h;exact .cons (RV.tups r h.1) (RVs.tups t h.2)
end
theorem RE.rvT {x:PV}{v:V}(h:RE K A H x v)(t:sZ x=true):RV K A H x v:=by
 cases h with
 | val r=>exact r
 | obj e=>unfold sZ at t;cases t
end
end L3
namespace L2
open PySem PySem.Spec PyProof.Rows
section
variable {X:Cx} {CX:wL} {k:Nat} {f C HE:Addr} {fd:FuncData} {ps:List Str} {sp:Sp} {E W:XK} {x:Str} {p pos pos':Pos} {a:Expr} {as:List Expr} {t:TA} {g:Value->Prop}
def zoU (C:Addr)(sp:Sp)(E W:XK)(t:TA):TS:=λ_ σ H=>t σ H λvs H1=>vs.length<=1000/\∀(e:Addr) (R:Hp->Prop),H1 e=none->(∀H2 od,H2 e=some (wZ e C od)->W (.ref C) od (λb=>if b=e then none else H2 b)->R H2)->sp (.ref e::vs) (upd H1 e (wZ e C none)) (λv H2=>v= .non/\R H2) E
theorem znM (T:sB X.K HE)(M:v9 X.K HE C)(MI:mD X.K C f)(F:zZ X.prog X.w X.K X.mg X.base CX k f fd ps sp)(hr:zF (k+1) X.A)(hg:Gl X x)(hm:X.mg x=some (.ref C))(hb:zS X.K fd ps [])(hx:u0 CX X E)(tw:gU X g W)(h0:g .none)(hc:X.calm=true)(ha:PA X (a::as) t)
  (hdb:(x==("__debug__" :Str))=false:=by decide) (he:starEach (a::as) X.env=(false,eval a X.env)::starEach as X.env:=by rfl) (hpl:(backTo pos (starEach as X.env)).any (·.1)=false:=by rfl):
  PS X (.Raise (some (.Call (.Name x p) (a::as) [] pos)) none pos') (zoU C sp E W t):=⟨λpins s σ H D I h=>by
 obtain⟨nm,q,N,bs,sn,sub,ab,col,dd,k0,k1,k2,k3,k5,l⟩:=id M.ob;rw[arm_exec_Raise];refine wpAny_bind (wpAny_standAt ?_);refine zoG (nm:=nm) (q:=q) (C:=C) (N:=N) (bs:=bs) (bm:= .ref HE::wM) (hdct:=true) (sn:=sn) (sub:=sub) (ab:=ab) (col:=col) (dd:=dd) (k0:=k0) (k1:=k1) (k2:=k2) (k3:=k3) (k5:=k5) (newId:= "ValueError.__new__") (by simp) (I.ok.hd hc) (wpAny_bind ?_);have g:wpAny (model X.prog X.w) X.A (eval (.Call (.Name x p) (a::as) [] pos) X.env) (EP X pins σ λv H2=> ∃e od,v= .ref e/\uH X pins e/\H2 e=some (wZ e C od)/\W (.ref C) od (λb=>if b=e then none else H2 b)) X.xe s:=by
  refine wpAny_Call_Name_kw (rP I hg hm ?_ hdb);refine callWith_K (h₀:=X.base) I.ok.mod.kin M.kp (zJ (ha pos pins s σ H _ I h) λus s1 ⟨vs,H1,I1,r,q1,q2⟩=>⟨I1.kIn,?_⟩) he hpl;exact zoO T M MI F hr hb hx I1 r (show us.length<=1000 by rw[<- r.length];exact q1) λe he hz=>q2 e _ he λH2 od z w=>⟨e,od,rfl,I1.priv hz,z,w⟩
 refine zJ g λv s1 ⟨x1,H2,J,rx,e,od,ev,pe,he,w⟩=>wpAny_bind (wpAny_standAt (wpAny_pure ?_));subst ev;obtain⟨t,hE⟩:=J.exc he;refine⟨e,t,od,rx,J.kIn _ _ l,hE,?_⟩;refine tw pins σ _ s1 e C od _ [e] (J.drop he) (.inl ⟨rfl,_,_,hE,rfl,rfl,rfl,rfl,rfl⟩) h0 (if_pos rfl) (λb m=> ?_) (by simp) w;rw[List.mem_singleton.mp m];exact⟨pe,if_pos rfl⟩⟩
def zhK (C:Addr)(f:Str)(ok:V->Prop):Sp:=λvs H Q _=> ∃e v,vs= [.ref e,v]/\ok v/\H e=some (wZ e C none)/\∀dx,H dx=none->Q .non (upd (upd H dx (.xd [(f,v)])) e (wZ e C (some dx)))
end
end L2
namespace L3
open PySem PySem.Spec PyProof.Rows L2
abbrev XW:=Addr->Option (Str×PV)->Prop
def lD:PV->Option V | .str x=>some (.str x) | .int i=>some (.int i) | _=>none
def EW (W:XW):XK:=λc od H=> ∃C,c= .ref C/\((od=none/\W C none)∨∃dx f v y,od=some dx/\H dx=some (.xd [(f,v)])/\lD y=some v/\W C (some (f,y)))
abbrev xJ:=List PV->z7->K3->XW->Prop
def w4 (K:Frag)(S:xJ):Sp:=λvs H Q E=> ∃A st xs Q3 W,RS K A H st/\yK K A H xs vs/\S xs st Q3 W/\w6 K A H Q3 Q/\∀c od H',EW W c od H'->E c od H'
theorem tP {P:Program}{w:World}{K:Frag}{mg:Str->Option Value}{base:Heap}{x qual:Str}{st:Stmt}{f:Addr}{fd:FuncData}{N ps:List Str}{k:Nat}{S:xJ}{g:Value->Prop}(keep:Nat)(F:zN K x qual st f fd)(sc:yB N ps (zR st))(len: ∀xs st Q W,S xs st Q W->xs.length=ps.length)
  (hB: ∃T:XW->yC,(∀(cdv:Value) (A:Around) (outer:List Env) (s:Shared) (H:Hp) (E:XK) (W:XW),zF k (A.deeper (envOfC qual (zR st) s.heap.objs.size f cdv))->(∀c od H',EW W c od H'->E c od H')->yI (xT (yJ P w g) P w K mg base N qual (zR st) f cdv A outer s H E) (u6 st) (yP K (T W)))/\
   ∀xs sto Q W,S xs sto Q W->T W {nx:=λ_ s'=>yZ (sto.length+keep) Q .non s',rt:=yZ (sto.length+keep) Q} (uM N xs) sto):zZ P w K mg base (yJ P w g) (k+1) f fd ps (w4 K S):=by
 obtain⟨T,hT,hb⟩:=hB;obtain⟨oc,od,kV,doc,pm,an,cdv,ct,osl,rfl,lk,hcd⟩:=F.ex;refine zfG lk hcd sc (λvs H Q E h=> ?_) λA outer s H vs Q E hr hsp=> ?_
 ·obtain⟨A,sto,xs,Q3,W,rs,ex,hS,_⟩:=h
  rw[<- len xs sto Q3 W hS];exact(Paired.length ex).symm
 ·obtain⟨A0,sto,xs,Q3,W,rs,ex,hS,kk,hE⟩:=hsp
  have hm:A0.length<=sto.length+keep:=by rw[rs.len];omega
  refine⟨_,hT cdv A outer s H E W hr hE,A0,uM N xs,sto,_,yV.begin rs ex,hb xs sto Q3 W hS,⟨λA' H' σ' env' st' g r q=> ?_,kk.exit hm,λA' H' σ' env' st' g r q=>q.elim,λA' H' σ' env' st' g r q=>q.elim⟩⟩;exact kk.exit hm A' H' st' .non .non g r.rs (.val .non) q
section
variable {X:Cx} {k:Nat} {f C HE:Addr} {fd:FuncData} {ps:List Str} {S:xJ} {E:XK} {W:XW} {x g:Str} {p pos pos':Pos} {e a:Expr} {es:List Expr} {TA:y2} {Ta:zA} {ok:V->Prop} {gv:Value->Prop}
def vCX (S:xJ)(W:XW)(T:y2):zA:=λenv st Q=>T env st λxs st1=>S xs st1 Q W
theorem rX (F:zZ X.prog X.w X.K X.mg X.base (yJ X.prog X.w gv) k f fd ps (w4 X.K S))(hr:zF k X.A)(hm:X.mg x=some (.ref f)){q:Str}{sm:Stmt}(hk:zN X.K x q sm f fd)(hb:zS X.K fd ps [])(hx:u0 (yJ X.prog X.w gv) X E)(hE: ∀c od H',EW W c od H'->E c od H')(ha:PA X (e::es) (vI X.K TA))
  (hg:Gl X x:=by rfl) (hdb:(x==("__debug__" :Str))=false:=by decide) (he:starEach (e::es) X.env=(false,eval e X.env)::starEach es X.env:=by rfl) (hpl:(backTo pos (starEach es X.env)).any (·.1)=false:=by rfl):
  PE X (.Call (.Name x p) (e::es) [] pos) (zG X.K (vCX S W TA)):=by
 refine xH (zgO F hr hg hm hk.kp hb .nil hx ha hdb he hpl) λσ H Q ⟨A,env,st,Q3,rel,h,k⟩=> ?_;refine⟨A,env,st,_,rel,h,λA1 H1 st1 xs vs g1 s1 e1 h1=> ?_⟩;show w4 X.K S (vs++ []) H1 Q E;rw[List.append_nil];exact⟨A1,st1,xs,Q3,W,s1,e1,h1,k.after g1,hE⟩
def zcO (C:Addr)(g:Str)(ok:V->Prop)(W:XW)(T:zA):yC:=λ_ env st=>T env st λy _=> ∃v,lD y=some v/\ok v/\W C (some (g,y))
theorem zod {K:Frag}{A:List Addr}{H:Hp}{y:PV}{v u:V}(h:lD y=some v)(r:RE K A H y u):u=v:=by
 cases y with
 | str x=>cases h;cases r with | val r=>cases r;rfl
 | int i=>cases h;cases r with | val r=>cases r;rfl
 | _=>cases h
theorem sT (T:sB X.K HE)(M:v9 X.K HE C)(MI:mD X.K C f)(F:zZ X.prog X.w X.K X.mg X.base yE k f fd ["self",g] (zhK C g ok))(hr:zF (k+1) X.A)(hm:X.mg x=some (.ref C))(hb:zS X.K fd ["self",g] [])(tw:gU X gv E)(h0:gv .none)(hE: ∀c od H',EW W c od H'->E c od H')(hc:X.calm=true)(ha:PE X a (zG X.K Ta))
  (hg:Gl X x:=by rfl) (hdb:(x==("__debug__" :Str))=false:=by decide) (he:starEach [a] X.env= [(false,eval a X.env)]:=by rfl):
  PS X (.Raise (some (.Call (.Name x p) [a] [] pos)) none pos') (yP X.K (zcO C g ok W Ta)):=by
 refine uZ (znM (E:=E0) (W:=E) T M MI F hr hg hm hb jU tw h0 hc (rW ha lC he) hdb he rfl) λD σ H ⟨A,env,st,D3,rel,h,k⟩=> ?_;refine⟨A,env,st,_,rel,h,λA1 H1 st1 y v g1 s1 e1 ⟨u,h1,h2,h3⟩=> ?_⟩;cases zod h1 e1;refine⟨by show [v].length<=1000;simp,λe R he hR=>⟨e,v,rfl,h2,xC,λdx hd=>⟨rfl,hR _ (some dx) xC (hE _ _ _ ⟨C,rfl,.inr ⟨dx,g,v,y,rfl,?_,h1,h3⟩⟩)⟩⟩⟩;have ne:dx≠e:=λz=>by rw[z,xC]at hd;cases hd
 show(if dx=e then none else _)=_;rw[if_neg ne,zU ne,xC]
end
end L3
namespace L2
open PySem PySem.Spec PyProof.Rows
def ziZ (K:Frag)(D:Addr):Prop:= ∃(nm q:Str) (N:Addr) (bs bm:List Value) (hd:Bool) (sn:List Str) (sub:List Value) (ab:Bool) (col:Option Bool) (dd:Option Addr) (k0 k1 k2 k3 k5:Option Value) (nw:String),
 K.lookup D=some (excClassObj nm q D N bs bm hd sn sub ab col dd k0 k1 k2 k3 k5 nw)/\bm.contains (.type "BaseException")=true
end L2
namespace L3
open PySem PySem.Spec PyProof.Rows L2
section
variable {X:Cx} {k i j j4:Nat} {f f2 C C2 HE:Addr} {fd fd2:FuncData} {ps:List Str} {S:xJ} {E:XK} {W:XW} {x y x2 n z:Str} {p cpos epos yp hpos pos p2 cp2 p3 p4 zp:Pos} {a:Expr} {as:List Expr} {TA:y2} {gt:Value->Prop} {b0:Stmt} {suite:List Stmt} {t1:Addr->TS}
def rS:XW:=λ_ _=>False
theorem EW.no {c:Value}{od:Option Addr}{H:Hp}(h:EW rS c od H):False:=by
 obtain⟨C,_,⟨_,z⟩ | ⟨_,_,_,_,_,_,_,z⟩⟩:=h <;> exact z
theorem zie {K:Frag}{A:List Addr}{H:Hp} : ∀{xs:List PV} {vs:List V},yK K A H xs vs->tupVs xs=true->yK K [] (wB H) xs vs
 | [],_,.nil,_=> .nil
 | x::xs,_,.cons r t,h=>by
  unfold tupVs at h;have h:=Bool.and_eq_true_iff.mp h;exact .cons (.val ((r.rvT h.1).tups h.1)) (zie t h.2)
theorem zpz {K:Frag}{A:List Addr}{H:Hp}{xs:List PV}{vs:List V}{E:XK}(e:yK K A H xs vs)(t:tupVs xs=true)(h:S xs [] (λ_ _=>False) W)(hE: ∀c od H',EW W c od H'->E c od H'):w4 K S vs (wB H) (λ_ _=>False) E:=
 ⟨[],[],xs,_,W,⟨by simp,rfl,λi a o h=>by cases h⟩,zie e t,h,λA' H' st' r v _ _ _ q=>q,hE⟩
def zqH (S:xJ)(G:Addr->Prop)(W:XW)(C2:Addr)(TA:y2):yC:=λD env st=>TA env st λxs st1=>S xs st1 (λ_ st2=>D.nx env st2) rS∨(tupVs xs=true/\S xs [] (λ_ _=>False) (λC _=>G C)/\W C2 none)
def zqG (S:xJ)(C:Addr)(i r j:Nat)(TA:y2):yC:=λD env st=>TA env st λxs st1=>S xs st1 (λv st2=>D.nx (env.set j (some v)) st2) rS∨(tupVs xs=true/\env[i]?=some none/\S xs [] (λ_ _=>False) (λC' od=>C'=C/\od=none)/\D.nx (env.set r (some (.bl true))) st1)
abbrev u7:Value->Prop:=λv=>v= .none
def zqD (C:Addr)(W:XW):yC:=λ_ _ _=>W C none
end
@[simp] theorem zuE {S:xJ}{W:XW}{T:y2}{env:zE}{st:z7}{Q:K3} :vCX S W T env st Q=(T env st λxs st1=>S xs st1 Q W):=rfl
@[simp] theorem zvi {C:Addr}{g:Str}{ok:V->Prop}{W:XW}{T:zA}{D:yU}{env:zE}{st:z7} :zcO C g ok W T D env st=(T env st λy _=> ∃v,lD y=some v/\ok v/\W C (some (g,y))):=rfl
@[simp] theorem zvh {C:Addr}{W:XW}{D:yU}{env:zE}{st:z7} :zqD C W D env st=W C none:=rfl
@[simp] theorem zvq {S:xJ}{G:Addr->Prop}{W:XW}{C:Addr}{T:y2}{D:yU}{env:zE}{st:z7} :zqH S G W C T D env st=(T env st λxs st1=>S xs st1 (λ_ st2=>D.nx env st2) rS∨(tupVs xs=true/\S xs [] (λ_ _=>False) (λC _=>G C)/\W C none)):=rfl
@[simp] theorem zvp {S:xJ}{C:Addr}{i r j:Nat}{T:y2}{D:yU}{env:zE}{st:z7} :zqG S C i r j T D env st=(T env st λxs st1=>S xs st1 (λv st2=>D.nx (env.set j (some v)) st2) rS∨(tupVs xs=true/\env[i]?=some none/\S xs [] (λ_ _=>False) (λC' od=>C'=C/\od=none)/\D.nx (env.set r (some (.bl true))) st1)):=rfl
end L3
namespace L2
open PySem PySem.Spec PyProof.Rows
def vT (v:V):Prop:= ∃i:Int,v= .int i/\0<=i/\i < 1200
end L2
namespace L3
open PySem PySem.Spec PyProof.Rows L2
def uJ (f:Str)(x:PV):List (Str×PV)->List (Str×PV)
 | []=> [(f,x)]
 | (g,y)::r=>if g=f then(g,x)::r else(g,y)::uJ f x r
section
variable {K:Frag} {A A':List Addr} {H H':Hp}
theorem xP.look {fs:List (Str×PV)}{us:List (Str×V)}(f:Str):xP K A H fs us->(∃x v,fs.lookup f=some x/\us.lookup f=some v/\RV K A H x v)∨(fs.lookup f=none/\us.lookup f=none)
 | .nil=> .inr ⟨rfl,rfl⟩
 | .cons (a:=(g,x)) (b:=(g',v)) r t=>by
  obtain⟨e,r⟩:=r;have e:g=g':=e;subst e;rw[List.lookup_cons,List.lookup_cons];by_cases h:(f==g)=true
  ·rw[h];exact .inl ⟨x,v,rfl,rfl,r⟩
  ·rw[Bool.not_eq_true]at h;rw[h];exact xP.look f t
theorem xP.put {f:Str}{x:PV}{v:V}(rx:RV K A H x v): ∀{fs:List (Str×PV)} {us:List (Str×V)},xP K A H fs us->xP K A H (uJ f x fs) (wH f v us)
 | _,_,.nil=> .cons ⟨rfl,rx⟩ .nil
 | _,_,.cons (a:=(g,y)) (b:=(g',u)) r t=>by
  obtain⟨e,r⟩:=r;have e:g=g':=e;subst e;unfold uJ wH;by_cases h:g=f
  ·rw[if_pos h,if_pos h];exact .cons ⟨rfl,rx⟩ t
  ·rw[if_neg h,if_neg h];exact .cons ⟨rfl,r⟩ (xP.put rx t)
theorem xP.len: ∀{fs:List (Str×PV)} {us:List (Str×V)},xP K A H fs us->fs.length=us.length
 | _,_,.nil=>rfl
 | _,_,.cons _ t=>by rw[List.length_cons,List.length_cons,xP.len t]
end
def sF (C:Addr)(x:PV)(st:z7):Option (Nat×Addr×List (Str×PV)):=match x with
 | .obj i=>(match st[i]? with | some (.ins C' dx fs)=>if C'=C then some (i,dx,fs)else none | _=>none)
 | _=>none
theorem zbm {K:Frag}{A:List Addr}{H:Hp}{st:z7}{x:PV}{v:V}{C dx:Addr}{i:Nat}{fs:List (Str×PV)}(s:RS K A H st)(e:RE K A H x v)(h:sF C x st=some (i,dx,fs)):
  ∃a us,x= .obj i/\v= .ref a/\A[i]?=some a/\H a=some (.ins C dx us)/\xP K A H fs us:=by
 unfold sF at h
 split at h
 ·rename_i j
  split at h
  ·rename_i C' dx' fs' q
   split at h
   ·rename_i ec
    cases ec;cases h;cases e with
    | val e=>cases e
    | obj eo=>
     obtain⟨us,h1,r⟩:=s.at_ _ _ _ eo q;exact⟨_,us,rfl,rfl,eo,h1,r⟩
   ·cases h
  ·cases h
 ·cases h
section
variable {X:Cx} {C:Addr} {f m:Str} {e o value:Expr} {es:List Expr} {pos pos' apos p:Pos} {Te To Tv:zA} {TA:y2}
def zil (C:Addr)(f:Str)(T:zA):zA:=λenv st Q=>T env st λx st1=> ∃i dx fs y,sF C x st1=some (i,dx,fs)/\fs.lookup f=some y/\Q y st1
theorem lE (c:vX X.K C)(n:wQ X.K C f)(he:PE X e (zG X.K Te))(hb:attributeBase e f X.env (eval e X.env)=eval e X.env:=by rfl):PE X (.Attribute e f pos) (zG X.K (zil C f Te)):=by
 refine xH (zno he hb) λσ H Q ⟨A,env,st,Q3,rel,h,k⟩=>⟨A,env,st,_,rel,h,λA1 H1 st1 x v g1 s1 e1 h1=> ?_⟩;obtain⟨i,dx,fs,y,hi,hl,q⟩:=h1;obtain⟨a,us,rfl,rfl,ea,ha,r⟩:=zbm s1 e1 hi;rcases r.look f with⟨x',w,e2,e3,rw'⟩ | ⟨e2,_⟩
 ·rw[hl]at e2;cases e2
  exact⟨a,C,dx,us,w,rfl,ha,c,n,e3,k A1 H1 st1 y w g1 s1 (.val rw') q⟩
 ·rw[hl]at e2;cases e2
def ziv (C:Addr)(f:Str)(To Tv:zA):yC:=λD env st=>Tv env st λy st1=>To env st1 λx st2=> ∃i dx fs,sF C x st2=some (i,dx,fs)/\yG y=true/\fs.length < 900/\D.nx env (st2.set i (.ins C dx (uJ f y fs)))
theorem zbP (c:vX X.K C)(n:wQ X.K C f)(ho:PE X o (zG X.K To))(hv:PE X value (zG X.K Tv))(hs:swapsWith value (some (.Attribute o f pos')) pos.line X.env=pure false:=by rfl):PS X (.Assign [.Attribute o f pos'] value pos) (yP X.K (ziv C f To Tv)):=by
 refine uZ (znI ho hv hs) λD σ H ⟨A,env,st,D3,rel,h,k⟩=>⟨A,env,st,_,rel,h,λA1 H1 st1 y w g1 s1 e1 h1=>⟨A1,env,st1,_,rel.grow g1 s1,h1,λA2 H2 st2 x v g2 s2 e2 h2=> ?_⟩⟩;obtain⟨i,dx,fs,hi,hn,hl,q⟩:=h2;obtain⟨a,us,rfl,rfl,ea,ha,r⟩:=zbm s2 e2 hi;have hm:=List.mem_of_getElem? ea;have ry:=((e1.grow g2).rv hn).grow (.put (o:= .ins C dx (wH f w us)) hm);refine⟨a,C,dx,us,rfl,ha,c,n,by rw[<- r.len];omega,k.nx A2 _ σ env _ (g1.trans (g2.trans (.put hm))) ?_ q⟩;exact(rel.grow (g1.trans g2) s2).grow (.put hm) (s2.put (q:= .ins C dx (uJ f y fs)) ea ⟨_,xC,(xP.grow (.put hm) r).put ry⟩)
variable {k:Nat} {fa:Addr} {fd:FuncData} {ps:List Str} {S:zQ} {SX:xJ} {E:XK} {W:XW} {gv:Value->Prop}
def rL (C:Addr)(m:Str)(x:PV)(st:z7):Prop:= ∃i dx fs,sF C x st=some (i,dx,fs)/\fs.lookup m=none
theorem rL.at {K:Frag}{A:List Addr}{H:Hp}{st:z7}{x:PV}{v:V}(h:rL C m x st)(s:RS K A H st)(e:RE K A H x v): ∃a dx us,v= .ref a/\H a=some (.ins C dx us)/\us.lookup m=none:=by
 obtain⟨i,dx,fs,hi,hl⟩:=h;obtain⟨a,us,rfl,rfl,ea,ha,r⟩:=zbm s e hi;rcases r.look m with⟨x',w,e2,e3,rw'⟩ | ⟨_,e3⟩
 ·rw[hl]at e2;cases e2
 ·exact⟨a,dx,us,rfl,ha,e3⟩
def zir (C:Addr)(m:Str)(S:zQ)(To:zA):zA:=λenv st Q=>To env st λx st1=>rL C m x st1/\S [x] st1 Q
theorem zhj {pl:Sem Bool}(c:vX X.K C)(hm:tZ X.K C m fa)(F:zZ X.prog X.w X.K X.mg X.base yE k fa fd ps (yD X.K S))(hr:zF k X.A)(hb:zS X.K fd ps [])(he:PE X o (zG X.K To))
  (ht:eval (.Call (.Attribute o m apos) [] [] pos) X.env=(do
   let ov <- eval o X.env
   standAt apos.atName
   let(f,first) <- holding [ov] (getMethod ov m pl)
   callWith pos f first (backTo pos (starEach [] X.env)) (backToKw pos (keywordEach [] X.env))):=by rfl):PE X (.Call (.Attribute o m apos) [] [] pos) (zG X.K (zir C m S To)):=by
 refine xH (zgU (pl:=pl) he c hm F hr hb .nil jU ht) λσ H Q ⟨A,env,st,Q3,rel,h,k⟩=>⟨A,env,st,_,rel,h,λA1 H1 st1 x v g1 s1 e1 h1=> ?_⟩;obtain⟨a,dx,us,rfl,ha,hl⟩:=h1.1.at s1 e1;exact⟨a,dx,us,rfl,ha,hl,A1,st1,[x],Q3,s1,.cons e1 .nil,h1.2,k.after g1⟩
def zcK (C:Addr)(m:Str)(S:xJ)(W:XW)(To:zA):zA:=λenv st Q=>To env st λx st1=>rL C m x st1/\S [x] st1 Q W
theorem tR {pl:Sem Bool}(c:vX X.K C)(hm:tZ X.K C m fa)(F:zZ X.prog X.w X.K X.mg X.base (yJ X.prog X.w gv) k fa fd ps (w4 X.K SX))(hr:zF k X.A)(hb:zS X.K fd ps [])(hx:u0 (yJ X.prog X.w gv) X E)(hE: ∀c od H',EW W c od H'->E c od H')(he:PE X o (zG X.K To))
  (ht:eval (.Call (.Attribute o m apos) [] [] pos) X.env=(do
   let ov <- eval o X.env
   standAt apos.atName
   let(f,first) <- holding [ov] (getMethod ov m pl)
   callWith pos f first (backTo pos (starEach [] X.env)) (backToKw pos (keywordEach [] X.env))):=by rfl):PE X (.Call (.Attribute o m apos) [] [] pos) (zG X.K (zcK C m SX W To)):=by
 refine xH (zgU (pl:=pl) (E:=E) he c hm F hr hb .nil hx ht) λσ H Q ⟨A,env,st,Q3,rel,h,k⟩=>⟨A,env,st,_,rel,h,λA1 H1 st1 x v g1 s1 e1 h1=> ?_⟩;obtain⟨a,dx,us,rfl,ha,hl⟩:=h1.1.at s1 e1;exact⟨a,dx,us,rfl,ha,hl,A1,st1,[x],Q3,W,s1,.cons e1 .nil,h1.2,k.after g1,hE⟩
end
@[simp] theorem zuN {C:Addr}{f:Str}{T:zA}{env:zE}{st:z7}{Q:K3} :zil C f T env st Q=(T env st λx st1=> ∃i dx fs y,sF C x st1=some (i,dx,fs)/\fs.lookup f=some y/\Q y st1):=rfl
@[simp] theorem zvm {C:Addr}{f:Str}{To Tv:zA}{D:yU}{env:zE}{st:z7} :ziv C f To Tv D env st=(Tv env st λy st1=>To env st1 λx st2=> ∃i dx fs,sF C x st2=some (i,dx,fs)/\yG y=true/\fs.length < 900/\D.nx env (st2.set i (.ins C dx (uJ f y fs)))):=rfl
@[simp] theorem zuY {C:Addr}{m:Str}{S:zQ}{To:zA}{env:zE}{st:z7}{Q:K3} :zir C m S To env st Q=(To env st λx st1=>rL C m x st1/\S [x] st1 Q):=rfl
@[simp] theorem zuZ {C:Addr}{m:Str}{S:xJ}{W:XW}{To:zA}{env:zE}{st:z7}{Q:K3} :zcK C m S W To env st Q=(To env st λx st1=>rL C m x st1/\S [x] st1 Q W):=rfl
theorem sG {C dx:Addr}{i:Nat}{st:z7}{fs:List (Str×PV)}(h:st[i]?=some (.ins C dx fs)):sF C (.obj i) st=some (i,dx,fs):=by
 unfold sF;dsimp only;rw[h];exact if_pos rfl
end L3
namespace L2
open PySem PySem.Spec PyProof.Rows
theorem lV {α:Type}{t:Sem α}{Q Q':α->Shared->Prop}{M:Model}{A:Around}{E:Value->Shared->Prop}{s:Shared}(hp:1<=s.toks)(h:wpAny M A t Q E s)(hQ: ∀a s,1<=s.toks->Q a s->Q' a s):wpAny M A t Q' E s:=
 wpAny_mono (wpAny_toks_of hp h) (λa s' z=>hQ a s' z.1 z.2) λ_ _ z=>z.2
structure sA (X:Cx)(e:Expr)(t:TE):Prop where
 run: ∀(pins:List (Addr×Obj)) (s:Shared) (σ:St) (H:Hp) (Q:VK),1<=s.toks->z6 X pins σ H s->t σ H Q->wpAny (model X.prog X.w) X.A (eval e X.env) (EP X pins σ Q) X.xe s
structure nZ (X:Cx)(st:Stmt)(t:TS):Prop where
 run: ∀(pins:List (Addr×Obj)) (s:Shared) (σ:St) (H:Hp) (D:vP),1<=s.toks->z6 X pins σ H s->t D σ H->wpAny (model X.prog X.w) X.A (exec st X.env) (SP X pins D) X.xe s
structure uG (X:Cx)(st:List Stmt)(t:TS):Prop where
 run: ∀(pins:List (Addr×Obj)) (s:Shared) (σ:St) (H:Hp) (D:vP),1<=s.toks->z6 X pins σ H s->t D σ H->wpAny (model X.prog X.w) X.A (execs st X.env) (SP X pins D) X.xe s
structure uF (X:Cx)(e:Expr)(t:TE):Prop where
 run: ∀(pins:List (Addr×Obj)) (s:Shared) (σ:St) (H:Hp) (Q:VK),z6 X pins σ H s->t σ H Q->wpAny (model X.prog X.w) X.A (eval e X.env) (λu s'=>1<=s'.toks/\EP X pins σ Q u s') X.xe s
structure kN (X:Cx)(st:Stmt)(t:TS):Prop where
 run: ∀(pins:List (Addr×Obj)) (s:Shared) (σ:St) (H:Hp) (D:vP),z6 X pins σ H s->t D σ H->wpAny (model X.prog X.w) X.A (exec st X.env) (λf s'=>1<=s'.toks/\SP X pins D f s') X.xe s
section
variable {X:Cx} {a b e o:Expr} {yT:List Expr} {pos pos':Pos} {ta tb te to:TE} {st:Stmt} {sts:List Stmt} {t u:TS}
theorem PE.toP (h:PE X e te):sA X e te:=⟨λpins s σ H Q _ I q=>h pins s σ H Q I q⟩
theorem PS.toP (h:PS X st t):nZ X st t:=⟨λpins s σ H Q _ I q=>h pins s σ H Q I q⟩
theorem yI.toP (h:yI X sts t):uG X sts t:=⟨λpins s σ H Q _ I q=>h pins s σ H Q I q⟩
theorem znR (h1:nZ X st t)(h2:uG X sts u):uG X (st::sts) (zc_ t u):=⟨λpins s σ H D hp I h=>by
 refine wpAny_execs_cons (lV hp (h1.run pins s σ H {D with nx:=u D} hp I h) λf s1 hp1 q=> ?_);cases f with
 | next=>
  obtain⟨σ',H',I',q⟩:=q;exact h2.run pins s1 σ' H' D hp1 I' q
 | ret v=>exact q
 | brk=>exact q
 | cont=>exact q⟩
theorem znV (h1:kN X st t)(h2:uG X sts u):yI X (st::sts) (zc_ t u):=⟨λpins s σ H D I h=>by
 refine wpAny_execs_cons (zJ (h1.run pins s σ H {D with nx:=u D} I h) λf s1 ⟨hp1,q⟩=> ?_);cases f with
 | next=>
  obtain⟨σ',H',I',q⟩:=q;exact h2.run pins s1 σ' H' D hp1 I' q
 | ret v=>exact q
 | brk=>exact q
 | cont=>exact q⟩
theorem znG {i:Nat}{x:Str}(hN:X.N.Nodup)(hi:X.N[i]?=some x)(hx:uE X.env.scope x)(he:sA X e te)(hs:swapsWith e (some (.Name x pos')) pos.line X.env=pure false:=by rfl)(hf:X.fn x=true∨X.env.scope.names.lookup x=some .local:=by first | exact .inl rfl | exact .inr rfl | assumption):
  nZ X (.Assign [.Name x pos'] e pos) (nM te (oH i)):=⟨λpins s σ H D hp I h=>by
 refine wpAny_Assign_Name (zJ (he.run pins s σ H _ hp I h) λv s1 ⟨y,H1,I1,r1,q1⟩=> ?_) hs;exact pU I1 hN hi hx r1 (λs2 I2=>⟨_,H1,I2,q1⟩) hf⟩
theorem znQ {i:Nat}{x:Str}(hN:X.N.Nodup)(hi:X.N[i]?=some x)(hx:uE X.env.scope x)(he:uF X e te)(hs:swapsWith e (some (.Name x pos')) pos.line X.env=pure false:=by rfl)(hf:X.fn x=true∨X.env.scope.names.lookup x=some .local:=by first | exact .inl rfl | exact .inr rfl | assumption):
  kN X (.Assign [.Name x pos'] e pos) (nM te (oH i)):=⟨λpins s σ H D I h=>by
 refine wpAny_Assign_Name (zJ (he.run pins s σ H _ I h) λv s1 ⟨hp,y,H1,I1,r1,q1⟩=> ?_) hs;have z:=pU (M:=model X.prog X.w) (A:=X.A) (Q:=λ_ s2=>SP X pins D .next s2) (E:=X.xe) I1 hN hi hx r1 (λs2 I2=>⟨_,H1,I2,q1⟩) hf;exact wpAny_mono (wpAny_toks_of hp z) (λ_ _ w=>w) λ_ _ w=>w.2⟩
theorem znz {i:Int}{j} :uF X (.Constant (.int i) j pos) (tC (.int i)):=⟨λpins s σ H Q I h=>wpAny_Constant_int ⟨by show 1<=s.toks+1;omega,.int i,H,I.tok _,⟨_,rfl⟩,h⟩⟩
theorem zny {op:CmpOp}{r:R2}(ho:y1 X (compareOp op) r)(ha:PE X a ta)(hb:uF X b tb)(hm:behindInMarks op b=false):uF X (.Compare a [op] [b] pos) (nN r ta tb):=⟨λpins s σ H Q I h=>by
 refine wpAny_Compare1 (zJ (ha pins s σ H _ I h) λv s1 ⟨x,H1,I1,r1,q1⟩=>zJ (hb.run pins s1 σ H1 _ I1 q1) λu s2 ⟨hp,y,H2,I2,r2,q2⟩=> ?_) hm;exact wpAny_mono (wpAny_toks_of hp (ho pins s2 σ H2 x y v u Q I2 r1 r2 q2)) (λ_ _ w=>w) λ_ _ w=>w.2⟩
theorem znx {b:Expr}(ha:uF X a ta)(hb:PE X (.BoolOp .And (b::yT) pos) tb):uF X (.BoolOp .And (a::b::yT) pos) (zc8 ta tb):=⟨λpins s σ H Q I h=>by
 refine BoolOp_and (zJ (ha.run pins s σ H _ I h) λv s1 ⟨hp,x,H1,I1,r1,q1⟩=> ?_);obtain⟨c,rfl,q1⟩:=q1;cases r1;refine wpAny_truthy_bool ?_;cases c with
 | true=>exact wpAny_mono (wpAny_toks_of hp (hb pins s1 σ H1 Q I1 q1)) (λ_ _ w=>w) λ_ _ w=>w.2
 | false=>exact⟨hp,.bl false,H1,I1,rfl,q1⟩⟩
def zqc (x y:Str)(to:TE):TE:=λσ H Q=>to σ H λv H1=> ∃z,v= .str z/\z.length<=1048576/\Q (.str (Txt.replace z x y)) H1
theorem znf {x y:Str}{i j:Nat}{pa pb apos cpos:Pos}(hxy:(x==y)=false)(hz:y.length<=14)(ho:sA X o to)
  (hbase:attributeBase o "replace" X.env (eval o X.env)=eval o X.env:=by rfl)
  (hfew:((backTo cpos (starEach [.Constant (.str x) i pa,.Constant (.str y) j pb] X.env)).all (λx=> !x.1)&&(backToKw cpos (keywordEach [] X.env)).all (λx=>x.1.isSome)
   &&decide ([Expr.Constant (.str x) i pa,.Constant (.str y) j pb].length+([]:List Keyword).length+(if([]:List Keyword).isEmpty then 0 else 1) < 30))=true:=by rfl)
  (hline:(apos.endLine==cpos.line)=true:=by rfl):
  sA X (.Call (.Attribute o "replace" apos) [.Constant (.str x) i pa,.Constant (.str y) j pb] [] cpos) (zqc x y to):=⟨λpins s σ H Q hp I h=>by
 refine wpAny_Call_method_late hbase hfew hline rfl (lV hp (ho.run pins s σ H _ hp I h) λv s1 hp1 ⟨xv,H1,I1,r1,z,ez,hl,q⟩=> ?_);subst ez;obtain⟨h1,h2⟩:=zig (T:= "str") I1 r1 rfl;refine⟨"str","str.replace",PySem.F.plainAttrs_str,PySem.F.slot_str_replace,PySem.F.type_str_replace,h1,h2,?_⟩;refine Calls.callWith_builtin rfl (Calls.evalArgs_plain ?_);show wpAny _ _ (spliced ((false,eval (.Constant (.str x) i pa) X.env)::backTo cpos (starEach [.Constant (.str y) j pb] X.env))) _ _ s1;refine Calls.spliced_cons (wpAny_Constant_str ?_);show wpAny _ _ (spliced ((false,eval (.Constant (.str y) j pb) X.env)::backTo cpos (starEach [] X.env))) _ _ _;refine Calls.spliced_cons (wpAny_Constant_str ?_);refine Calls.spliced_nil ?_;obtain⟨t,rfl⟩:=r1;exact SC.replaceW (by show s1.toks≠0;omega) (by show s1.toks+1≠0;omega) (by show s1.toks≠s1.toks+1;omega) hxy hl hz λt' k=>⟨.str _,H1,I1.tok k,⟨_,rfl⟩,q⟩⟩
end
structure t5 (P:Program)(w:World)(K:Frag)(mg:Str->Option Value)(base:Heap)(CX:wL)(k:Nat)(f:Addr)(fd:FuncData)(ps:List Str)(sp:Sp):Prop where
 len: ∀vs H Q E,sp vs H Q E->vs.length=ps.length
 run: ∀(A:Around) (outer:List Env) (s:Shared) (H:Hp) (args:Args) (us:List Value) (vs:List V) (Q:VK) (E:XK),1<=s.toks->zF k A->uD P w K mg base A outer s H->BindsTo s fd args (ps.zip us)->zI vs us->sp vs H Q E->
  codeAny (model P w) A (.call (.ref f) args) (CR CX outer P w H s Q E) s
theorem zfF {CX:wL}{P:Program}{w:World}{K:Frag}{mg:Str->Option Value}{base:Heap}{k:Nat}{f:Addr}{name qual:Str}{params:Arguments}{body:List Stmt}{scope:Scope}{dV kV doc pm cdv ct oc:Value}{an od:Option Addr}
  {osl:Array (Option Value)} {N ps:List Str} {sp:Sp} (lk:K.lookup f=some ⟨oc,od,.func (fnOf name qual params body scope dV kV doc pm an cdv ct),osl⟩) (hcd:codeIn K cdv qual=true) (S:yB N ps scope)
  (len: ∀vs H Q E,sp vs H Q E->vs.length=ps.length)
  (hbody: ∀(A:Around) (outer:List Env) (s:Shared) (H:Hp) (vs:List V) (Q:VK) (E:XK),zF k (A.deeper (envOfC qual scope s.heap.objs.size f cdv))->sp vs H Q E->
   ∃t,uG (xT CX P w K mg base N qual scope f cdv A outer s H E) body t/\t {nx:=λ_ H'=>Q .non H',rt:=Q} (start N vs) H):
  t5 P w K mg base CX (k+1) f (fnOf name qual params body scope dV kV doc pm an cdv ct) ps sp:=by
 refine⟨len,λA outer s H args us vs Q E hp hr e0 hb r hsp=> ?_⟩;have hl:=len _ _ _ _ hsp;have KX:K.In s.heap:=e0.mod.kin.keeps λb o e=>(e0.bs b o e).1;have lim:s.heap.NoLimit:=e0.mod.nolimit.keeps λb o e=>(e0.bs b o e).1;have hkind: ∀y∈ps.zip us,scope.names.lookup y.1=some .local∨(scope.names.lookup y.1=some .cell/\((cellsFrom (s.heap.objs.size+1) scope.names []).lookup y.1).isSome=true):=λ⟨n,v⟩ hy=>by
  rcases S.par n (List.of_mem_zip hy).1 with q | q
  ·exact .inl q
  ·exact .inr ⟨q,cellsFrom_some _ _ _ (.inl q)⟩
 refine codeAny_call_function hr.depth (KX _ _ lk) rfl S.co S.gen rfl (codeRec_of KX hcd) (hb _ _ _ _ ?_);refine lV hp (wpAny_newFunctionEnv_cells (Q:=λenv s1=>env=envOfC qual scope s.heap.objs.size f cdv/\InCallC s env.locals (bindL env.kindOf (ps.zip us) λ_=>none) env.cells (bindC env.kindOf (ps.zip us) λ_=>none) s1) S.kind hkind λenv he s1 x=>⟨he,x⟩) λenv s1 hp1 ⟨he,x⟩=> ?_;subst he;refine⟨lim.keeps x.toInCall.keep,codeAny_func ?_⟩;obtain⟨t,ht,hq⟩:=hbody A outer s H vs Q E (hr.deeper _) hsp;have I:z6 (xT CX P w K mg base N qual scope f cdv A outer s H E) [] (start N vs) H s1:=zfO S hr.hd e0 hl r x;refine wpAny_mono (ht.run [] s1 (start N vs) H _ hp1 I hq) (λfl s' hs=> ?_) λe s' hs=>hs;have fin: ∀{σ':St} {H':Hp} {v:V} {u:Value},z6 (xT CX P w K mg base N qual scope f cdv A outer s H E) [] σ' H' s'->zL v u->Q v H'->CE outer P w H s Q u s':=
  λ{σ' H' v u} J rv q=>⟨v,H',J.os,J.bare,J.base,J.hok,rv,q⟩
 cases fl with
 | ret u=>
  obtain⟨v,σ',H',J,rv,q⟩:=hs;exact fin J rv q
 | next=>
  obtain⟨σ',H',J,q⟩:=hs;exact fin (v:=V.non) (u:=Value.none) J rfl q
 | brk=>
  obtain⟨_,_,_,q⟩:=hs;exact False.elim q
 | cont=>
  obtain⟨_,_,_,q⟩:=hs;exact False.elim q
section
variable {M:Model} {A:Around} {E:Value->Shared->Prop} {s:Shared} {base:Heap} {env:Env} {outer:List Env} {L e C T:Addr} {od:Option Addr} {cx fl:Value} {Q:Unit->Shared->Prop}
theorem zmh (xW:A.frames=some (env::outer))(hl:s.heap.FunFrames base (env::outer))(hf:env.frame=some L)(x:vY s.heap e C od cx T fl)
  (h: ∀h' T',x4 (yX (env::outer)) [e,T] s.heap h'->(T'=T∨s.heap.objs.size<=T')->vY h' e C od cx T' (rawInt L)->Q () {s with heap:=h'}):wpAny M A (noteFrame (.ref e) env) Q E s:=by
 obtain⟨⟨oe,vs,he,hc,ho,hd,h1,h2⟩,ne,oT,ts,hT,hdT,h3⟩:=id x;unfold noteFrame;simp only[hf];refine wpAny_bind (wpAny_field he hd h1 ?_);rw[if_pos (show(Value.ref T !=Value.none)=true from by simp)];refine wpAny_bind (wpAny_field hT hdT h3 ?_);by_cases q:fl=rawInt L
 ·subst q
  rw[if_pos (show(rawInt L==rawInt L)=true from by simp)];exact wpAny_pure (h s.heap T (x4.refl _ _ _) (.inl rfl) x)
 ·rw[if_neg (show ¬ ((fl==rawInt L)=true)from by simpa using q)]
  refine wpAny_bind (wpAny_setField hT hdT (Array.getElem?_eq_some_iff.mp h3).1 ?_);have st:x4 (yX (env::outer)) [e,T] s.heap (s.heap.update T (Obj.mapFields (·.setIfInBounds 3 Value.none))):=x4.upd hT (by simp) hdT;have e1:(s.heap.update T (Obj.mapFields (·.setIfInBounds 3 Value.none))).get? e=some oe:=by rw[Heap.get?_update_other _ _ ne];exact he
  refine zb7 xW (hl.of_keeps λb o q nf=> ?_) hf e1 hc ho hd (Array.getElem?_eq_some_iff.mp h1).1 h2 (by simp) λh' T' s2 z f=>h h' T' (st.trans s2) (.inr (Nat.le_trans st.size z)) f;by_cases z:T=b
  ·subst z;rw[hT]at q;cases q;exact absurd hdT (nf ts)
  ·exact⟨o,by rw[Heap.get?_update_other _ _ z];exact q,rfl⟩
theorem zky {fr:Option Addr}(x:vY s.heap e C od cx T fl)(h: ∀h' fv,x4 [] [T] s.heap h'->vY h' e C od cx T fv->Q () {s with heap:=h'}):wpAny M A (setFlight (.ref e) fr) Q E s:=by
 obtain⟨⟨oe,vs,he,hc,ho,hd,h1,h2⟩,ne,oT,ts,hT,hdT,h3⟩:=x;unfold setFlight;refine wpAny_bind (wpAny_field he hd h1 ?_);rw[if_pos (show(Value.ref T !=Value.none)=true from by simp)];have hz:3 < ts.size:=(Array.getElem?_eq_some_iff.mp h3).1;refine wpAny_setField hT hdT hz (h _ _ (x4.upd hT (by simp) hdT) ⟨⟨oe,vs,?_,hc,ho,hd,h1,h2⟩,ne,⟨_,_,Heap.get?_update_self _ hT (Obj.isFreed_of_fields (Obj.data_mapFields hdT _)),Obj.data_mapFields hdT _,by simp[hz];rfl⟩⟩);rw[Heap.get?_update_other _ _ ne];exact he
end
def gV (X:Cx)(g:Value->Prop)(W:XK):Prop:= ∀(pins:List (Addr×Obj)) (σ:St) (H:Hp) (s:Shared) (e C:Addr) (od:Option Addr) (cx:Value) (T:Addr) (fl:Value),z6 X pins σ H s->vY s.heap e C od cx T fl->g cx->H e=none->H T=none->uH X pins e->uH X pins T->W (.ref C) od H->X.xe (.ref e) s
theorem zqn {P:Program}{w:World}{K:Frag}{mg:Str->Option Value}{base:Heap}{N:List Str}{qual:Str}{scope:Scope}{f:Addr}{cd:Value}{A:Around}{outer:List Env}{s0:Shared}{H0:Hp}{E:XK}{g:Value->Prop} :
  gV (xT (yJ P w g) P w K mg base N qual scope f cd A outer s0 H0 E) g E:=by
 intro pins σ H s e C od cx T fl I x hg ne nT pe pT q;show wpAny (model P w) (A.deeper (envOfC qual scope s0.heap.objs.size f cd)) (leaving (envOfC qual scope s0.heap.objs.size f cd) (.ref e)) (λ_ s''=>yJ P w g outer H0 s0 E (.ref e) s'') (λe' s''=>yJ P w g outer H0 s0 E e' s'') s;unfold leaving;refine wpAny_bind (zmh I.ok.frames I.stack rfl x λh1 T' st zT fl=> ?_);have pch: ∀b∈ [e,T],uH (xT (yJ P w g) P w K mg base N qual scope f cd A outer s0 H0 E) pins b/\H b=none:=λb m=>by
  rcases List.mem_cons.mp m with rfl | m
  ·exact⟨pe,ne⟩
  ·rw[List.mem_singleton.mp m];exact⟨pT,nT⟩
 have I1:=I.stays st pch;have new: ∀b,uH (xT (yJ P w g) P w K mg base N qual scope f cd A outer s0 H0 E) pins b->s0.heap.objs.size<=b:=λb z=>by
  rcases z.1 with z | z
  ·exact absurd (show b∈([]:List Addr)from z) (by simp)
  ·exact z
 have pT':uH (xT (yJ P w g) P w K mg base N qual scope f cd A outer s0 H0 E) pins T'/\H T'=none:=by
  rcases zT with rfl | zT
  ·exact⟨pT,nT⟩
  ·exact⟨I.priv zT,I.hok.fresh zT⟩
 refine jF fl λh2 st2 fl2=> ?_;have I2:=I1.stays (h':=h2) (ch:= [T']) ⟨st2.size,λb o z n m=>st2.keep b o z (by simp) m,st2.slot,st2.there⟩ (λb m=>by rw[List.mem_singleton.mp m];exact pT');exact⟨e,C,T',od,cx,H,rfl,hg,q,I2.os,I2.bare,I2.base,I2.hok,fl2,ne,pT'.2,new e pe,new T' pT'.1⟩
def xeC (Y:Cx)(g:Value->Prop)(W:XK):Value->Shared->Prop:=λev s'=> ∃(pl:List (Addr×Obj)) (σ':St) (H':Hp) (e C:Addr) (od:Option Addr) (cx:Value) (ch:List Addr),ev= .ref e/\z6 Y pl σ' H' s'/\kC s'.heap e C od cx ch/\g cx/\H' e=none/\
 (∀b∈ch,(Y.s₀.heap.objs.size<=b/\uH Y pl b)/\H' b=none)/\e∈ch/\W (.ref C) od H'
abbrev e7 (X:Cx)(scope:Scope)(Nc:List Str)(C:Addr)(s:Shared)(H:Hp)(fp:List Addr)(pins:List (Addr×Obj))(g:Value->Prop)(W:XK):Cx:=(yF X scope Nc C s H fp pins).wish (xeC (yF X scope Nc C s H fp pins) g W)
theorem znc {X:Cx}{scope:Scope}{Nc:List Str}{C:Addr}{s:Shared}{H:Hp}{fp:List Addr}{pins:List (Addr×Obj)}{g:Value->Prop}{W:XK} :u0 (yJ X.prog X.w g) (e7 X scope Nc C s H fp pins g W) W:=by
 rintro pl σ H' s1 ev s' I ⟨e,C',T,od,cx,H2,rfl,hg,q,os,bare,un,hok,fl,ne,nT,ze,zT⟩;have J:=I.call' (s':=s') (ch:= []) os un hok bare (λb z=>absurd z (by simp));refine⟨pl,σ,H2,e,C',od,cx,[e,T],rfl,J.unwish,.inr ⟨T,rfl,fl⟩,hg,ne,λb m=> ?_,by simp,q⟩;rcases List.mem_cons.mp m with rfl | m
 ·exact⟨⟨Nat.le_trans I.sz ze,I.priv ze⟩,ne⟩
 ·rw[List.mem_singleton.mp m];exact⟨⟨Nat.le_trans I.sz zT,I.priv zT⟩,nT⟩
section
variable {X:Cx} {scope:Scope} {N' own:List Str}
theorem znm {g0:Value->Prop}{W0:XK}{elt target iter:Expr}{ifs:List Expr}{pos:Pos}{wi:TI}{g:TG}{tt:TT}{te:TE}(S:uQ X scope N' own)(hc:X.calm=true)(hi:PI X target iter wi)
  (hg: ∀C s H fp pins,PG (yF X scope (N'++own) C s H fp pins) target g) (ht: ∀C s H fp pins,PF (yF X scope (N'++own) C s H fp pins) ifs tt) (he: ∀C s H fp pins,PE (e7 X scope (N'++own) C s H fp pins g0 W0) elt te) (hst:X.stack=X.env::X.outer) (xW:X.env.frame=some X.env.locals) (tw:gV X g0 W0)
  (hs: ∀x,foldedSetIterable iter X.env x=pure x:=by intro _;rfl):
  PE X (.ListComp elt [⟨target,iter,ifs,0⟩] scope pos) (iY own.length wi g tt te):=by
 constructor;intro pins s σ H Q I h;rw[eval_ListComp];refine wpAny_comprehension_free (use:=none) rfl hs (fX (S.cells I)) S.kind S.names ?_;refine zJ (hi pins s σ H _ I h) λv s1 h1=>zJ h1 λitv s2 h2=> ?_;obtain⟨it,fp,tn,J,H2,e,I2,T,st2,f2,W,⟨m0,w0⟩,turn⟩:=h2;subst e;have fl: ∀b∈fp,b < s2.heap.objs.size:=λb hb=>by obtain⟨o,e,_⟩:=T.obj _ _ st2 b hb;exact Heap.lt_size e
 refine wpAny_newObj_type (wpAny_newFunctionEnv S.nocell (by intro y hy;simp at hy) (λh4 ns4 sb4=> ?_) S.kind);dsimp only at ns4 sb4⊢
 generalize hH3:s2.heap.push {cls:= .type "list",dict:=none,data:= .seq ([]:List Value).toArray} =h3 at ns4 sb4⊢
 have hC:h3.objs.size=s2.heap.objs.size+1:=by rw[<- hH3,Heap.size_push]
 have hDC:s2.heap.objs.size≠h3.objs.size:=by rw[hC];exact Nat.ne_of_lt (Nat.lt_succ_self _)
 have hCle:s2.heap.objs.size<=h3.objs.size:=by rw[hC];exact Nat.le_succ _
 have eD3:h3.get? s2.heap.objs.size=some {cls:= .type "list",data:= .seq ([]:List Value).toArray} :=hH3▸Heap.get?_push_size _ rfl;have k4: ∀b u,s2.heap.get? b=some u->h4.get? b=some u:=λb u e=>
  (sb4.2 b (Nat.ne_of_lt (Nat.lt_of_lt_of_le (Heap.lt_size e) hCle))).trans (Heap.get?_push_of_some _ (hH3▸Heap.get?_push_of_some _ e))
 have eD4:h4.get? s2.heap.objs.size=some {cls:= .type "list",data:= .seq ([]:List Value).toArray} :=(sb4.2 _ hDC).trans (Heap.get?_push_of_some _ eD3);generalize hDd:s2.heap.objs.size=D at *;generalize hCd:h3.objs.size=C at *;have I4:=zbn S I2 (C:=C) (D:=D) (fp:=fp) (h4:=h4) (tk:=s2.toks+([]:List (Str×Value)).length) k4 (by rw[hDd];exact hCle) (by rw[hDd];exact Nat.le_refl _) hDC eD4 (by intro v z;cases z) ns4 f2 (by rw[hDd];exact fl);have lowC: ∀(b:Addr) (u:Obj),s2.heap.get? b=some u->b≠C:=λb u e=>Nat.ne_of_lt (Nat.lt_of_lt_of_le (Heap.lt_size e) (by rw[hDd];exact hCle));have nofp: ∀b∈fp,b∉yX X.stack:=λb hb hm=>by
  rcases List.mem_cons.mp (I2.stkSub b hm)with z | z
  ·exact(f2 b hb).2.1 z
  ·exact(f2 b hb).2.2.1 z
 have fpD: ∀b∈fp,b≠D:=λb hb=>Nat.ne_of_lt (fl b hb);have stat: ∀{H':Hp} {o:Obj},(∀b∈fp,H' b=none)->∀b∈fp,t6 (yF X scope (N'++own) C s2 H2 fp pins) [(D,o)] H' b:=λ{H' o} hn b hb=>
  ⟨hn b hb,Nat.ne_of_lt (Nat.lt_of_lt_of_le (fl b hb) hCle),nofp b hb,.inl hb,λx c e=>(f2 b hb).2.2.2.2.1 x c (uV S I2 e),λp hp=>by
   have hp':p∈(X.pn++pins)++ [(D,o)]:=hp;rcases List.mem_append.mp hp' with z | z
   ·exact(f2 b hb).2.2.2.2.2 p z
   ·have e:p=(D,o):=by simpa using z
    rw[e];exact Ne.symm (fpD b hb)⟩
 have loop: ∀s3:Shared,z6 (yF X scope (N'++own) C s2 H2 fp pins) [(D,{cls:= .type "list",data:= .seq ([]:List Value).toArray})] (σ++List.replicate own.length none) H2 s3->tn 0 s3.heap->
   codeAny (model X.prog X.w) X.A (.compLoop (.ListComp elt [⟨target,iter,ifs,0⟩] scope pos) 0 (.ref it) (.ref D) (compEnvC scope (vJ scope.names X.env.cells) C X.env))
    (compPost (model X.prog X.w) X.A X.xe none (EP X pins σ Q) (.ref D) C) s3:=by
  intro s3 I3 st3;refine fY (λn s'=> ∃(i:Nat) (ys:List V) (σ':St) (H':Hp) (vals:List Value) (cnt:Nat),z6 (yF X scope (N'++own) C s2 H2 fp pins) [(D,{cls:= .type "list",data:= .seq vals.toArray cnt})] σ' H' s'/\
   tn i s'.heap/\(∀b∈fp,H' b=none)/\zI ys vals/\W i n ys σ' H') ?_ m0 ⟨0,[],_,H2,[],0,I3,st3,λb hb=>(f2 b hb).1,.nil,w0⟩
  rintro n s3 ⟨i,ys,σ3,H3,vals,cnt,I3,st3,fr3,rv,w3⟩;rcases turn i n ys σ3 H3 w3 with⟨stop,hz,q⟩ | ⟨go,hz,N,hN,step⟩
  ·refine zJ (T.done (yF X scope (N'++own) C s2 H2 fp pins) rfl rfl rfl hc i _ s3 σ3 H3 _ I3 (stat fr3) st3 stop) λr s4 ⟨hr,I4⟩=> ?_
   subst hr;obtain⟨m,ns,_⟩:=id I4.loc;refine⟨m,ns,λh' sb=> ?_⟩;have u4:Un (yX X.stack) fp H2 H3 s2.heap s4.heap:=I4.base;have nC:H3 C=none:=I4.free;have keepC: ∀(b:Addr) (u:Obj),b≠C->s4.heap.get? b=some u->h'.get? b=some u:=λb u hb e=>(sb.2 b hb).trans e;have u':Un (yX X.stack) fp H2 H3 s2.heap h':=
    ⟨λb o e n hb hx=>keepC b o (lowC b o e) (u4.keep b o e n hb hx),λb o e n hb hx=>let⟨sl,q⟩:=u4.slot b o e n hb hx;⟨sl,keepC _ _ (lowC b o e) q⟩,u4.free,λb o e hx=>let⟨o',q⟩:=u4.there b o e hx;⟨o',keepC _ _ (lowC b o e) q⟩,u4.tups,u4.frzs,u4.tbls⟩
   have hok':yQ X.prog X.w H3 h':=λb u e=>(I4.hok b u e).stay (λc v hc' q=>keepC c v (by
    rintro rfl;rcases hc' with z | z
    ·rw[<- z,nC]at e;cases e
    ·rw[nC]at z;cases z) q) (λ_ q=>q) λ_ _ q=>q
   have I5:z6 X pins σ H3 {s4 with heap:=h'} :=I2.call' (ch:=fp) (s':= {s4 with heap:=h'}) I4.os u' hok' I4.bare λb hb=>⟨(f2 b hb).2.2.2.1,(f2 b hb).2.1,(f2 b hb).2.2.2.2.1,(f2 b hb).2.2.2.2.2⟩;obtain⟨eD,nD,_⟩:=I4.pin (D,_) (List.mem_append_right _ List.mem_cons_self);refine⟨.ref D,upd H3 D (.lst ys),zbo I5 nD (by rw[<- hDd];exact I2.sz) ?_ ?_ ?_ ⟨hz,vals,cnt,rv,keepC D _ hDC eD⟩,rfl,q D nD⟩
   ·have:=I2.lt;rw[hDd]at this;exact Nat.ne_of_gt this
   ·intro x c e z
    obtain⟨v,o,ho,_⟩:=I2.cell x c e;have:=Heap.lt_size ho;rw[hDd,z]at this;exact Nat.lt_irrefl _ this
   ·intro p hp z
    have:=Heap.lt_size (I2.pin p hp).1;rw[hDd,z]at this;exact Nat.lt_irrefl _ this
  ·refine zJ (T.item (yF X scope (N'++own) C s2 H2 fp pins) rfl rfl rfl hc i _ s3 σ3 H3 _ I3 (stat fr3) st3 go) λr s4 ⟨u,hr,h4⟩=> ?_
   subst hr;refine zJ h4 λ_ s5 ⟨x,H5,I5,r5,y5,st5,fr5⟩=> ?_;have I5':=I5.pinned (stat fr5) (T.obj _ _ st5);have keepT: ∀{σ7:St} {H7:Hp} {s7:Shared} {pl:List (Addr×Obj)},z6 (yF X scope (N'++own) C s2 H2 fp pins) (pl++uC fp s5.heap) σ7 H7 s7->tn (i+1) s7.heap/\∀b∈fp,H7 b=none:=λ{σ7 H7 s7 pl} I7=>
    ⟨T.keep _ _ _ st5 λb hb o e=>(I7.pin (b,o) (List.mem_append_right _ (List.mem_append_right _ (rR hb e)))).1,λb hb=>by
     obtain⟨o,e,d⟩:=T.obj _ _ st5 b hb;exact(I7.pin (b,o) (List.mem_append_right _ (List.mem_append_right _ (rR hb e)))).2.1⟩
   refine sJ (hg C s2 H2 fp pins _ s5 σ3 H5 x u _ I5' r5 (step x H5 y5)) λ_ s6 ⟨σ6,H6,I6,q6⟩=> ?_;refine sJ (ht C s2 H2 fp pins _ s6 σ6 H6 _ I6 q6) λb s7 ⟨H7,I7,q7⟩=> ?_;cases b with
   | false=>
    obtain⟨m',hm,w7⟩:=hN _ _ _ q7;obtain⟨t7,fr7⟩:=keepT I7;exact⟨m',hm,i+1,ys,σ6,H7,vals,cnt,I7.unpinned,t7,fr7,rv,w7⟩
   | true=>
    refine wpAny_mono (he C s2 H2 fp pins _ s7 σ6 H7 _ (I7.wish _) q7) (λy s8 h8=> ?_) (λev s8 h8=> ?_)
    ·obtain⟨yv,H8,I8,r8,q8⟩:=h8
     have I8:=I8.unwish;obtain⟨m',hm,w8⟩:=hN _ _ _ q8;obtain⟨eD,nD,neD,nfD,cD⟩:=I8.pin (D,_) (List.mem_append_right _ (List.mem_append_left _ List.mem_cons_self));have hvl:=rv.length;refine call_meets F.slot_list_append ⟨_,eD,rfl⟩ F.entry_list_append (F.args_list_append_2 _ _) (PySem.list_append D vals.toArray cnt y (by rw[List.size_toArray];omega)) ⟨eD,?_⟩;have I8':z6 (yF X scope (N'++own) C s2 H2 fp pins) (uC fp s5.heap) σ6 H8 s8:=I8.pins_of λp hp=>I8.pin p (List.mem_append_right _ (List.mem_append_right _ hp));have hno: ∀p∈(X.pn++pins)++uC fp s5.heap,p.1≠D:=λp hp=>by
      rcases List.mem_append.mp hp with z | z
      ·intro q
       have:=Heap.lt_size (I2.pin p z).1;rw[hDd,q]at this;exact Nat.lt_irrefl _ this
      ·exact fpD _ (jP z).1
     have I9:=I8'.turned (t':=s8.toks) (it:=D) (h':=s8.heap.update D (Obj.mapSeq λx=>x.push y)) (λb o hb e=>(Heap.get?_update_other s8.heap _ (Ne.symm hb)).trans e) nD neD (.inr (by show s2.heap.objs.size<=D;rw[hDd];exact Nat.le_refl _))
      (λx c e z=>by
       obtain⟨v,o,ho,_⟩:=I2.cell x c (uV S I2 e);have:=Heap.lt_size ho;rw[hDd,z]at this;exact Nat.lt_irrefl _ this) hno
     obtain⟨t9,fr9⟩:=keepT (pl:= []) I9;have qD: ∃n',(s8.heap.update D (Obj.mapSeq λx=>x.push y)).get? D=some {cls:= .type "list",data:= .seq (vals++ [y]).toArray n'} :=by
      have q:=PySem.IsL.update (l:=D) (items:=vals.toArray) (n:=cnt) (h:=s8.heap) eD λx=>x.push y;have e:vals.toArray.push y=(vals++ [y]).toArray:=by simp
      rw[<- e];exact⟨_,q⟩
     obtain⟨n',qD⟩:=qD;refine⟨m',hm,i+1,ys++ [yv],σ6,H8,vals++ [y],n',I9.pins_of λp hp=> ?_,t9,fr9,rv.append (.cons r8 .nil),w8⟩;have e:=List.mem_singleton.mp hp;rw[e];exact⟨qD,nD,neD,nfD,by intro v z;cases z⟩
    ·obtain⟨pl,σ8,H8,e,C8,od,cx,ch,rfl,I8,fly,hg8,ne,hch,me,w8⟩:=h8
     show wpAny _ _ (noteFrame (.ref e) X.env) _ _ s8;refine zb8 (env:=X.env) (outer:=X.outer) (base:=X.base) (by rw[<- hst];exact I8.ok.frames) (by rw[<- hst];exact I8.stack) xW fly λh9 T9 st9 z9 fl9=> ?_;rw[<- hst]at st9;have I9:=I8.stays st9 λb m=>⟨(hch b m).1.2,(hch b m).2⟩;obtain⟨m,ns,_⟩:=id I9.loc;refine⟨m,ns,λh' sb cenv hcl=> ?_⟩;have u4:Un (yX X.stack) fp H2 H8 s2.heap h9:=I9.base;have nC:H8 C=none:=I9.free;have keepC: ∀(b:Addr) (u:Obj),b≠C->h9.get? b=some u->h'.get? b=some u:=λb u hb e=>(sb.2 b hb).trans e;have u':Un (yX X.stack) fp H2 H8 s2.heap h':=
      ⟨λb o e n hb hx=>keepC b o (lowC b o e) (u4.keep b o e n hb hx),λb o e n hb hx=>let⟨sl,q⟩:=u4.slot b o e n hb hx;⟨sl,keepC _ _ (lowC b o e) q⟩,u4.free,λb o e hx=>let⟨o',q⟩:=u4.there b o e hx;⟨o',keepC _ _ (lowC b o e) q⟩,u4.tups,u4.frzs,u4.tbls⟩
     have hok':yQ X.prog X.w H8 h':=λb u e=>(I9.hok b u e).stay (λc v hc' q=>keepC c v (by
      rintro rfl;rcases hc' with z | z
      ·rw[<- z,nC]at e;cases e
      ·rw[nC]at z;cases z) q) (λ_ q=>q) λ_ _ q=>q
     have I10:z6 X pins σ H8 {s8 with heap:=h'} :=I2.call' (ch:=fp) (s':= {s8 with heap:=h'}) I9.os u' hok' I9.bare λb hb=>⟨(f2 b hb).2.2.2.1,(f2 b hb).2.1,(f2 b hb).2.2.2.2.1,(f2 b hb).2.2.2.2.2⟩;have nT9:H8 T9=none:=I8.hok.fresh z9;have eC:e≠C:=(hch e me).1.2.2.1;have lt8:C < s8.heap.objs.size:=I8.lt;have tC:T9≠C:=Nat.ne_of_gt (Nat.lt_of_lt_of_le lt8 z9);have f10:vY h' e C8 od cx T9 (rawInt X.env.locals):=by
      obtain⟨⟨oe,vs,he',hc',ho,hd,h1,h2⟩,nTe,oT,ts,hT,hdT,h3⟩:=fl9;exact⟨⟨oe,vs,keepC _ _ eC he',hc',ho,hd,h1,h2⟩,nTe,oT,ts,keepC _ _ tC hT,hdT,h3⟩
     have pv: ∀b,s2.heap.objs.size<=b->uH X pins b:=λb z=>I2.priv z;have ze:s2.heap.objs.size<=e:=(hch e me).1.1;have zT:s2.heap.objs.size<=T9:=Nat.le_trans (show s2.heap.objs.size<=s8.heap.objs.size from I8.sz) z9;unfold PySem.passOn;obtain⟨oe,vs,he',hc',ho,hd,h1,h2⟩:=id f10.ob;refine wpAny_bind (wpAny_field he' hd h1 ?_);rw[if_neg (show ¬ ((Value.ref T9==Value.none)=true)from by simp)];refine wpAny_bind (zky f10 λh11 fv st11 oB=>wpAny_throw ?_);exact tw pins σ H8 _ e C8 od cx T9 fv (I10.stays (ch:= [T9]) ⟨st11.size,λb o z n m=>st11.keep b o z (by simp) m,st11.slot,st11.there⟩ λb m=>by rw[List.mem_singleton.mp m];exact⟨pv _ zT,nT9⟩) oB hg8 ne nT9 (pv _ ze) (pv _ zT) w8
 have t4:tn 0 h4:=T.keep _ _ _ st2 λb _ o e=>k4 b o e;exact codeAny_compStart_list (loop _ I4 t4) (T.self _ 0 _ _ _ t4 (loop _ I4 t4))
end
section
variable {X:Cx} {CX:wL} {k:Nat} {f C:Addr} {fd:FuncData} {ps:List Str} {sp:Sp} {E:XK} {x:Str} {p pos:Pos} {e:Expr} {es:List Expr} {t:TA}
theorem zoQ {pins:List (Addr×Obj)}{σ:St}{H:Hp}{s:Shared}{Q:VK}{us:List Value}{vs:List V}(hp:1<=s.toks)(M:Mk X.K C f)(F:t5 X.prog X.w X.K X.mg X.base CX k f fd ps sp)(hr:zF (k+1) X.A)(hb:zS X.K fd ps [])
  (hx:u0 CX X E) (I:z6 X pins σ H s) (r:zI vs us)
  (h: ∀x dx,H x=none->H dx=none->dx≠x->sp (.ref x::vs) (upd (upd H dx (.own x)) x (.ins C dx [])) (λv H2=>v= .non/\Q (.ref x) H2) E):
  wpAny (model X.prog X.w) X.A (call (.ref C) us) (EP X pins σ Q) X.xe s:=by
 have hq:=h (s.heap.objs.size+1) s.heap.objs.size (I.hok.fresh (Nat.le_succ _)) (I.hok.fresh (Nat.le_refl _)) (Nat.ne_of_lt (Nat.lt_succ_self _));have I2:=z6.made (C:=C) I;have r2:zI (V.ref (s.heap.objs.size+1)::vs) (Value.ref (s.heap.objs.size+1)::us):= .cons rfl r;have hl:(Value.ref (s.heap.objs.size+1)::us++ []).length=ps.length:=by
  have e:=r2.length;rw[F.len _ _ _ _ hq]at e;rw[List.append_nil];exact e.symm
 have bd:=hb _ (Value.ref (s.heap.objs.size+1)::us) I2.kIn hl;rw[List.append_nil]at bd;refine wpAny_call (zlE (f:=f) I.kIn M.makes M.init (beq_iff_eq.mp M.fn) (codeAny_mono (F.run _ X.stack _ _ ⟨Value.ref (s.heap.objs.size+1)::us,[]⟩ (Value.ref (s.heap.objs.size+1)::us) _ _ E hp (hr.make C us [])
  (I2.env0.make C us []) bd r2 hq) λr s' hq'=> ?_))
 cases r with
 | error e=>exact hx pins σ _ _ e s' I2 hq'
 | ok fl=>
  cases fl with
  | ret u=>
   obtain⟨v,H',I3,rv,ev,q3⟩:=I2.after hq';subst ev;exact⟨rv,⟨V.ref (s.heap.objs.size+1),H',I3,rfl,q3⟩⟩
  | next=>exact False.elim hq'
  | brk=>exact False.elim hq'
  | cont=>exact False.elim hq'
theorem zne (M:Mk X.K C f)(F:t5 X.prog X.w X.K X.mg X.base CX k f fd ps sp)(hr:zF (k+1) X.A)(hg:Gl X x)(hm:X.mg x=some (.ref C))(hb:zS X.K fd ps [])(hx:u0 CX X E)
  (ha:PA X (e::es) t) (hdb:(x==("__debug__" :Str))=false:=by decide) (he:starEach (e::es) X.env=(false,eval e X.env)::starEach es X.env:=by rfl) (hpl:(backTo pos (starEach es X.env)).any (·.1)=false:=by rfl):
  sA X (.Call (.Name x p) (e::es) [] pos) (zpU C sp [] E t):=⟨λpins s σ H Q hp I h=>by
 refine wpAny_Call_Name_kw (rP I hg hm ?_ hdb);refine callWith_K (h₀:=X.base) I.ok.mod.kin M.kp (lV hp (ha pos pins s σ H _ I h) λus s1 hp1 ⟨vs,H1,I1,r,q⟩=>⟨I1.kIn,?_⟩) he hpl;exact zoQ hp1 M F hr hb hx I1 r λx dx h1 h2 h3=>by have:=q x dx h1 h2 h3;rwa [List.append_nil]at this⟩
end
end L2
namespace L3
open PySem PySem.Spec PyProof.Rows L2
section
variable {X:Cx} {a e:Expr} {es:List Expr} {pos p:Pos} {sts:List Stmt} {stm:Stmt} {Ts Tu:yC} {Ta Te To:zA} {TA:y2}
theorem jY (h1:nZ X stm (yP X.K Ts))(h2:uG X sts (yP X.K Tu)):uG X (stm::sts) (yP X.K (pV Ts Tu)):=
 ⟨λpins s σ H D hp I ⟨A,env,st,D3,rel,h,k⟩=>(znR h1 h2).run pins s σ H D hp I ⟨A,env,st,_,rel,h,λA1 H1 σ1 env1 st1 g1 r1 h1=>⟨A1,env1,st1,D3,r1,h1,k.after g1⟩,k.rt,k.bk,k.ct⟩⟩
theorem zox (h1:kN X stm (yP X.K Ts))(h2:uG X sts (yP X.K Tu)):yI X (stm::sts) (yP X.K (pV Ts Tu)):=
 pss_weak (znV h1 h2) λD σ H ⟨A,env,st,D3,rel,h,k⟩=>⟨A,env,st,_,rel,h,λA1 H1 σ1 env1 st1 g1 r1 h1=>⟨A1,env1,st1,D3,r1,h1,k.after g1⟩,k.rt,k.bk,k.ct⟩
theorem zhl {i:Nat}{x:Str}{pos':Pos}(hN:X.N.Nodup)(hi:X.N[i]?=some x)(hx:uE X.env.scope x)(he:sA X e (zG X.K Ta))(hs:swapsWith e (some (.Name x pos')) pos.line X.env=pure false:=by rfl)(hf:X.fn x=true∨X.env.scope.names.lookup x=some .local:=by first | exact .inl rfl | exact .inr rfl | assumption):
  nZ X (.Assign [.Name x pos'] e pos) (yP X.K (r6 Ta (gN i))):=⟨λpins s σ H D hp I h=>by
 refine(znG (pos:=pos) (pos':=pos') hN hi hx he hs hf).run pins s σ H D hp I ?_;obtain⟨A,env,st,Q3,rel,h,k⟩:=mL h;exact⟨A,env,st,Q3,rel,h,λA1 H1 st1 r v g s e q=>mM (k A1 H1 st1 r v g s e q)⟩⟩
theorem zov {i:Nat}{x:Str}{pos':Pos}(hN:X.N.Nodup)(hi:X.N[i]?=some x)(hx:uE X.env.scope x)(he:uF X e (zG X.K Ta))(hs:swapsWith e (some (.Name x pos')) pos.line X.env=pure false:=by rfl)(hf:X.fn x=true∨X.env.scope.names.lookup x=some .local:=by first | exact .inl rfl | exact .inr rfl | assumption):
  kN X (.Assign [.Name x pos'] e pos) (yP X.K (r6 Ta (gN i))):=⟨λpins s σ H D I h=>by
 refine(znQ (pos:=pos) (pos':=pos') hN hi hx he hs hf).run pins s σ H D I ?_;obtain⟨A,env,st,Q3,rel,h,k⟩:=mL h;exact⟨A,env,st,Q3,rel,h,λA1 H1 st1 r v g s e q=>mM (k A1 H1 st1 r v g s e q)⟩⟩
theorem zos {i:Int}{j} :uF X (.Constant (.int i) j pos) (zG X.K (vC (.int i))):=⟨λpins s σ H Q I h=>znz.run pins s σ H Q I (o7 (λ_ _=> .val (.int i)) h)⟩
theorem zor {b:Expr}{Tb:zA}{op:CmpOp}{R:R3}(ho:y1 X (compareOp op) (xA X.K R))(ha:PE X a (zG X.K Ta))(hb:uF X b (zG X.K Tb))(hm:behindInMarks op b=false):uF X (.Compare a [op] [b] pos) (zG X.K (tW R Ta Tb)):=
 ⟨λpins s σ H Q I h=>(zny ho ha hb hm).run pins s σ H Q I (mN h)⟩
def ziu (x y:Str)(To:zA):zA:=λenv st Q=>To env st λv st1=>match v with | .str z=>z.length<=1048576/\Q (.str (Txt.replace z x y)) st1 | _=>False
theorem zhi {o:Expr}{x y:Str}{i j:Nat}{pa pb apos cpos:Pos}(hxy:(x==y)=false)(hz:y.length<=14)(ho:sA X o (zG X.K To))
  (hbase:attributeBase o "replace" X.env (eval o X.env)=eval o X.env:=by rfl)
  (hfew:((backTo cpos (starEach [.Constant (.str x) i pa,.Constant (.str y) j pb] X.env)).all (λx=> !x.1)&&(backToKw cpos (keywordEach [] X.env)).all (λx=>x.1.isSome)
   &&decide ([Expr.Constant (.str x) i pa,.Constant (.str y) j pb].length+([]:List Keyword).length+(if([]:List Keyword).isEmpty then 0 else 1) < 30))=true:=by rfl)
  (hline:(apos.endLine==cpos.line)=true:=by rfl):
  sA X (.Call (.Attribute o "replace" apos) [.Constant (.str x) i pa,.Constant (.str y) j pb] [] cpos) (zG X.K (ziu x y To)):=⟨λpins s σ H Q hp I ⟨A,env,st,Q3,rel,h,k⟩=>by
 refine(znf hxy hz ho hbase hfew hline).run pins s σ H Q hp I ⟨A,env,st,_,rel,h,λA1 H1 st1 v w g1 s1 e1 h1=> ?_⟩;cases v with
 | str z=>cases wJ e1;exact⟨z,rfl,h1.1,k A1 H1 st1 _ _ g1 s1 (.val (.str _)) h1.2⟩
 | _=>exact False.elim h1⟩
def ziq (C:Addr)(S:zQ)(TA:y2):zA:=λenv st Q=>TA env st λxs st1=> ∀dx,S (.obj st1.length::xs) (st1++ [.ins C dx []]) λv st2=>v= .non/\Q (.obj st1.length) st2
theorem zoi {k:Nat}{f C:Addr}{fd:FuncData}{ps:List Str}{S:zQ}{x:Str}(M:Mk X.K C f)(F:t5 X.prog X.w X.K X.mg X.base yE k f fd ps (yD X.K S))(hr:zF (k+1) X.A)(hm:X.mg x=some (.ref C))(hb:zS X.K fd ps [])
  (ha:PA X (e::es) (vI X.K TA)) (hg:Gl X x:=by rfl) (hdb:(x==("__debug__" :Str))=false:=by decide) (he:starEach (e::es) X.env=(false,eval e X.env)::starEach es X.env:=by rfl) (hpl:(backTo pos (starEach es X.env)).any (·.1)=false:=by rfl):
  sA X (.Call (.Name x p) (e::es) [] pos) (zG X.K (ziq C S TA)):=⟨λpins s σ H Q hp I ⟨A,env,st,Q3,rel,h,k⟩=>by
 refine(zne (E:=E0) M F hr hg hm hb jU ha hdb he hpl).run pins s σ H Q hp I ⟨A,env,st,_,rel,h,λA1 H1 st1 xs vs g1 s1 e1 h1 q dx hx hdx ne=> ?_⟩;have n2:upd H1 dx (.own q) q=none:=by rw[zU (Ne.symm ne)];exact hx
 have gg:zV A1 H1 (A1++ [q]) (upd (upd H1 dx (.own q)) q (.ins C dx [])):=(zV.new hdx).trans (zV.newObj n2);have oo:OA X.K (A1++ [q]) (upd (upd H1 dx (.own q)) q (.ins C dx [])) q (.ins C dx []):=⟨[],xC,.nil⟩;have s2:RS X.K (A1++ [q]) (upd (upd H1 dx (.own q)) q (.ins C dx [])) (st1++ [.ins C dx []]):=(s1.new hdx).newObj n2 oo;rw[List.append_nil];refine⟨A1++ [q],st1++ [.ins C dx []],.obj st1.length::xs,_,s2,.cons (.obj (zbB s1.len)) (yK.grow gg e1),h1 dx,λA' H' st' r v g' s' e' q'=> ?_⟩;obtain⟨rfl,q'⟩:=q';refine⟨by cases e' with | val e'=>cases e';rfl,k A' H' st' _ _ (g1.trans (gg.trans g')) s' (.obj (g'.sub (zbB s1.len))) q'⟩⟩
end
theorem zmw {P:Program}{w:World}{K:Frag}{mg:Str->Option Value}{base:Heap}{x qual:Str}{st:Stmt}{f:Addr}{fd:FuncData}{N ps:List Str}{k:Nat}{S:zQ}(keep:Nat)(F:zN K x qual st f fd)(sc:yB N ps (zR st))(len: ∀xs st Q,S xs st Q->xs.length=ps.length)
  (hB: ∃T:yC,(∀(cdv:Value) (A:Around) (outer:List Env) (s:Shared) (H:Hp) (E:XK),zF k (A.deeper (envOfC qual (zR st) s.heap.objs.size f cdv))->uG (xT yE P w K mg base N qual (zR st) f cdv A outer s H E) (u6 st) (yP K T))/\
   ∀xs sto Q,S xs sto Q->T {nx:=λ_ s'=>yZ (sto.length+keep) Q .non s',rt:=yZ (sto.length+keep) Q} (uM N xs) sto):t5 P w K mg base yE (k+1) f fd ps (yD K S):=by
 obtain⟨T,hT,hb⟩:=hB;obtain⟨oc,od,kV,doc,pm,an,cdv,ct,osl,rfl,lk,hcd⟩:=F.ex;refine zfF lk hcd sc (λvs H Q E h=> ?_) λA outer s H vs Q E hr h=>⟨_,hT cdv A outer s H E hr,?_⟩
 ·obtain⟨A,sto,xs,Q3,rs,ex,hS,_⟩:=h
  rw[<- len xs sto Q3 hS];exact(Paired.length ex).symm
 ·obtain⟨A,sto,xs,Q3,rs,ex,hS,k⟩:=h
  have hm:A.length<=sto.length+keep:=by rw[rs.len];omega
  refine⟨A,uM N xs,sto,_,yV.begin rs ex,hb xs sto Q3 hS,⟨λA' H' σ' env' st' g r q=> ?_,k.exit hm,λA' H' σ' env' st' g r q=>q.elim,λA' H' σ' env' st' g r q=>q.elim⟩⟩;exact k.exit hm A' H' st' .non .non g r.rs (.val .non) q
theorem zmx {P:Program}{w:World}{K:Frag}{mg:Str->Option Value}{base:Heap}{x qual:Str}{st:Stmt}{f:Addr}{fd:FuncData}{N ps:List Str}{k:Nat}{S:xJ}{g:Value->Prop}(keep:Nat)(F:zN K x qual st f fd)(sc:yB N ps (zR st))(len: ∀xs st Q W,S xs st Q W->xs.length=ps.length)
  (hB: ∃T:XW->yC,(∀(cdv:Value) (A:Around) (outer:List Env) (s:Shared) (H:Hp) (E:XK) (W:XW),zF k (A.deeper (envOfC qual (zR st) s.heap.objs.size f cdv))->(∀c od H',EW W c od H'->E c od H')->uG (xT (yJ P w g) P w K mg base N qual (zR st) f cdv A outer s H E) (u6 st) (yP K (T W)))/\
   ∀xs sto Q W,S xs sto Q W->T W {nx:=λ_ s'=>yZ (sto.length+keep) Q .non s',rt:=yZ (sto.length+keep) Q} (uM N xs) sto):t5 P w K mg base (yJ P w g) (k+1) f fd ps (w4 K S):=by
 obtain⟨T,hT,hb⟩:=hB;obtain⟨oc,od,kV,doc,pm,an,cdv,ct,osl,rfl,lk,hcd⟩:=F.ex;refine zfF lk hcd sc (λvs H Q E h=> ?_) λA outer s H vs Q E hr hsp=> ?_
 ·obtain⟨A,sto,xs,Q3,W,rs,ex,hS,_⟩:=h
  rw[<- len xs sto Q3 W hS];exact(Paired.length ex).symm
 ·obtain⟨A0,sto,xs,Q3,W,rs,ex,hS,kk,hE⟩:=hsp
  have hm:A0.length<=sto.length+keep:=by rw[rs.len];omega
  refine⟨_,hT cdv A outer s H E W hr hE,A0,uM N xs,sto,_,yV.begin rs ex,hb xs sto Q3 W hS,⟨λA' H' σ' env' st' g r q=> ?_,kk.exit hm,λA' H' σ' env' st' g r q=>q.elim,λA' H' σ' env' st' g r q=>q.elim⟩⟩;exact kk.exit hm A' H' st' .non .non g r.rs (.val .non) q
section
variable {X:Cx} {scope:Scope} {N' own:List Str} {Ti:vQ} {Tg:xN} {tt:yR} {te:zA} {target iter a:Expr} {ifs:List Expr} {g0:Value->Prop} {W0:XK}
theorem zok {pos:Pos}(S:uQ X scope N' own)(hc:X.calm=true)(hi:PI X target iter (qS X.K Ti))
  (hg: ∀C s H fp pins,PG (yF X scope (N'++own) C s H fp pins) target (uU X.K Tg)) (ht: ∀C s H fp pins,PF (yF X scope (N'++own) C s H fp pins) ifs (yW X.K tt)) (he: ∀C s H fp pins,PE (e7 X scope (N'++own) C s H fp pins g0 W0) a (zG X.K te)) (hst:X.stack=X.env::X.outer) (xW:X.env.frame=some X.env.locals) (tw:gV X g0 W0)
  (hs: ∀x,foldedSetIterable iter X.env x=pure x:=by intro _;rfl):PE X (.ListComp a [⟨target,iter,ifs,0⟩] scope pos) (zG X.K (lW own.length Ti Tg tt te)):=xH (znm S hc hi hg ht he hst xW tw hs) λ_ _ _=>fS
end
@[simp] theorem zvj {x y:Str}{T:zA}{env:zE}{st:z7}{Q:K3} :ziu x y T env st Q=(T env st λv st1=>match v with | .str z=>z.length<=1048576/\Q (.str (Txt.replace z x y)) st1 | _=>False):=rfl
@[simp] theorem zuX {C:Addr}{S:zQ}{TA:y2}{env:zE}{st:z7}{Q:K3} :ziq C S TA env st Q=(TA env st λxs st1=> ∀dx,S (.obj st1.length::xs) (st1++ [.ins C dx []]) λv st2=>v= .non/\Q (.obj st1.length) st2):=rfl
end L3
namespace L2
open PySem PySem.Spec PyProof.Rows
theorem zi7: ∀(l:List (Str×Tok)),zI ((l.map (·.1)).map V.str) (strValues l)
 | []=> .nil
 | p::r=> .cons ⟨p.2,rfl⟩ (zi7 r)
section
variable {X:Cx}
theorem zlV:uR X "str.split" (λx xs H Q=> ∃z d,x= .str z/\xs= [.str d]/\(d.length==0)=false/\z.length<=1000000/\∀p,H p=none->Q (.ref p) (upd H p (.lst ((Txt.split z d).map V.str)))):=by
 intro pins s σ H x xs v us Q I rx rxs ⟨z,d,ex,exs,hd,hz,q⟩;subst ex;subst exs;obtain⟨t,rfl⟩:=rx;obtain⟨u,rfl,u',rfl⟩:=zI.one rxs;have hb:(1000002:Nat)<=sizeLine:=by rw[sizeLine_eq];decide
 have hx:z.length<=sizeLine:=by omega
 have hn:(Txt.split z d).length<=sizeLine:=Nat.le_trans (split_le z d) (by omega);have hf:H s.heap.objs.size=none:=I.hok.fresh (Nat.le_refl _);have fin: ∀(l:List (Str×Tok)) (tk:Nat),l.map (·.1)=Txt.split z d->EP X pins σ Q (.ref s.heap.objs.size) {s with heap:=s.heap.push {cls:= .type "list",data:= .seq (strValues l).toArray},toks:=tk} :=λl tk e=>by
  refine⟨.ref s.heap.objs.size,_,I.laid (t':=tk) (o:= .lst ((Txt.split z d).map V.str)) (λb u e=>Heap.get?_push_of_some _ e) (Nat.le_refl _) ⟨by rw[List.length_map];exact hn,strValues l,0,?_,Heap.get?_push_size _ rfl⟩,rfl,q _ hf⟩;rw[<- e];exact zi7 l
 cases h1:(decide (z.length < d.length)||decide (Builtin.Str.strKind z < Builtin.Str.strKind d))
 ·cases h2:(Builtin.Str.occurrences z d 0 z.length (z.length+1)).isEmpty
  ·have e0:Txt.split z d=Builtin.Str.partsBetween z (Builtin.Str.occurrences z d 0 z.length (z.length+1)) d.length:=by unfold Txt.split;rw[h1,h2];rfl
   refine call_meets F.slot_str_split (typeIs_str _ _ _) F.entry_str_split (F.args_str_split_2 _ _) (meets_str_split_sep z d t u' h1 hd h2 hx (by rw[<- e0];exact hn)) ?_;show wants _ _ _ {s with toks:=_,heap:=s.heap.push {cls:= .type "list",data:= .seq (strsFrom s.toks (Builtin.Str.partsBetween z (Builtin.Str.occurrences z d 0 z.length (z.length+1)) d.length)).toArray}};rw[strsFrom_eq];exact fin _ _ ((numbered_texts _ _).trans e0.symm)
  ·have e0:Txt.split z d= [z]:=by unfold Txt.split;rw[h1,h2];rfl
   exact call_meets F.slot_str_split (typeIs_str _ _ _) F.entry_str_split (F.args_str_split_2 _ _) (meets_str_split_not_found z d t u' h1 hd h2) (fin [(z,t)] _ e0.symm)
 ·have e0:Txt.split z d= [z]:=by unfold Txt.split;rw[h1];rfl
  exact call_meets F.slot_str_split (typeIs_str _ _ _) F.entry_str_split (F.args_str_split_2 _ _) (meets_str_split_cannot_occur z d t u' h1) (fin [(z,t)] _ e0.symm)
theorem zlS:uR X "str.find" (λx xs H Q=> ∃z d i,x= .str z/\xs= [.str d,.int i]/\Q (.int (Txt.find3 z d i)) H):=by
 intro pins s σ H x xs v us Q I rx rxs ⟨z,d,i,ex,exs,q⟩;subst ex;subst exs;obtain⟨t,rfl⟩:=rx;obtain⟨u,u2,rfl,⟨t1,rfl⟩,⟨t2,rfl⟩⟩:=zI.two rxs;exact SC.find3 ⟨.int _,H,I.tok _,⟨_,rfl⟩,q⟩
theorem zlU:uR X "str.rpartition" (λx xs H Q=> ∃z d,x= .str z/\xs= [.str d]/\(d.length==0)=false/\z.length<=1000000/\∀p,H p=none->Q (.ref p) (upd H p (.tup [.str (Txt.rpartition z d).1,.str (Txt.rpartition z d).2.1,.str (Txt.rpartition z d).2.2]))):=by
 intro pins s σ H x xs v us Q I rx rxs ⟨z,d,ex,exs,hd,hz,q⟩;subst ex;subst exs;obtain⟨t,rfl⟩:=rx;obtain⟨u,rfl,u',rfl⟩:=zI.one rxs;have hx:z.length<=sizeLine:=by rw[sizeLine_eq];omega
 have hf:H s.heap.objs.size=none:=I.hok.fresh (Nat.le_refl _);have fin: ∀(ta tb tc tk:Nat),EP X pins σ Q (.ref s.heap.objs.size) {s with heap:=s.heap.push {cls:= .type "tuple",data:= .seq [.str (Txt.rpartition z d).1 ta,.str (Txt.rpartition z d).2.1 tb,.str (Txt.rpartition z d).2.2 tc].toArray},toks:=tk} :=λta tb tc tk=>by
  refine⟨.ref s.heap.objs.size,_,I.laid (t':=tk) (o:= .tup [.str (Txt.rpartition z d).1,.str (Txt.rpartition z d).2.1,.str (Txt.rpartition z d).2.2]) (λb u e=>Heap.get?_push_of_some _ e) (Nat.le_refl _) ?_,rfl,q _ hf⟩;exact⟨by show 3<=sizeLine;decide,_,.cons ⟨ta,rfl⟩ (.cons ⟨tb,rfl⟩ (.cons ⟨tc,rfl⟩ .nil)),⟨_,Heap.get?_push_size _ rfl,rfl,_,rfl,rfl⟩⟩
 refine call_meets F.slot_str_rpartition (typeIs_str _ _ _) F.entry_str_rpartition (F.args_str_rpartition_2 _ _) (meets_str_rpartition z d t u' hd hx) ?_;have h':=fin;unfold Txt.rpartition at h'
 revert h'
 cases Builtin.Str.lastOccurrence z d 0 z.length with
 | none=>intro h';exact h' _ _ _ _
 | some i=>intro h';exact h' _ _ _ _
end
end L2
namespace L3
open PySem PySem.Spec PyProof.Rows L2
section
variable {X:Cx}
theorem zhO (K:Frag)(A:List Addr)(H:Hp): ∀ss:List Str,RVs K A H (ss.map PV.str) (ss.map V.str)
 | []=> .nil
 | x::r=> .cons (.str x) (zhO K A H r)
def zcf:PV->zQ:=λx xs st Q=>match x,xs with | .str z,[.str d]=>(d.length==0)=false/\z.length<=1000000/\Q (.lst ((Txt.split z d).map PV.str)) st | _,_=>False
theorem zbA:uR X "str.split" (o6 X.K zcf):=by
 intro pins s σ H v vs vv us Q I rv rvs ⟨A,st,x,xs,Q3,rs,ex,exs,h,k⟩;unfold zcf at h
 split at h
 ·rename_i z d
  obtain⟨w,rfl,ey⟩:=yK.one exs;cases wJ ex;cases wJ ey;refine zlV pins s σ H _ _ vv us Q I rv rvs ⟨z,d,rfl,rfl,h.1,h.2.1,λp hp=>k A _ st _ _ (.new hp) (rs.new hp) (.val (.lst (.inl ⟨.inl xC,rs.fresh hp⟩) ?_ (zhO _ _ _ _))) h.2.2⟩;rw[List.length_map];have:=split_le z d;have hb:(1000002:Nat)<=sizeLine:=by rw[sizeLine_eq];decide
  have:=h.2.1;omega
 ·exact h.elim
def zbU:PV->zQ:=λx xs st Q=>match x,xs with | .str z,[.str d,.int i]=>Q (.int (Txt.find3 z d i)) st | _,_=>False
theorem zml:uR X "str.find" (o6 X.K zbU):=by
 intro pins s σ H v vs vv us Q I rv rvs ⟨A,st,x,xs,Q3,rs,ex,exs,h,k⟩;unfold zbU at h
 split at h
 ·rename_i z d i
  obtain⟨w,w2,rfl,ey,ez⟩:=yK.two exs;cases wJ ex;cases wJ ey;cases yY ez;exact zlS pins s σ H _ _ vv us Q I rv rvs ⟨z,d,i,rfl,rfl,k.now rs (.val (.int _)) h⟩
 ·exact h.elim
def zce:PV->zQ:=λx xs st Q=>match x,xs with | .str z,[.str d]=>(d.length==0)=false/\z.length<=1000000/\Q (.tup [.str (Txt.rpartition z d).1,.str (Txt.rpartition z d).2.1,.str (Txt.rpartition z d).2.2]) st | _,_=>False
theorem zms:uR X "str.rpartition" (o6 X.K zce):=by
 intro pins s σ H v vs vv us Q I rv rvs ⟨A,st,x,xs,Q3,rs,ex,exs,h,k⟩;unfold zce at h
 split at h
 ·rename_i z d
  obtain⟨w,rfl,ey⟩:=yK.one exs;cases wJ ex;cases wJ ey;exact zlU pins s σ H _ _ vv us Q I rv rvs ⟨z,d,rfl,rfl,h.1,h.2.1,λp hp=>k A _ st _ _ (.new hp) (rs.new hp) (.val (.tup (.inl ⟨.inl xC,rs.fresh hp⟩) (by show 3<=sizeLine;decide) (.cons (.str _) (.cons (.str _) (.cons (.str _) .nil))))) h.2.2⟩
 ·exact h.elim
def zcg:zQ:=λxs st Q=>match xs with | [.int i]=>i.natAbs < 2 ^ 64/\Q (.str (Str.ofString (toString i))) st | _=>False
theorem oU:xK X (.type "str") (vR X.K zcg):=by
 intro pins s σ H vs us Q I rv ⟨A,st,xs,Q3,rs,ex,h,k⟩;unfold zcg at h
 split at h
 ·rename_i i
  obtain⟨v,rfl,ex1⟩:=yK.one ex;cases yY ex1;obtain⟨u,rfl,t,rfl⟩:=zI.one rv;refine PySem.P.str_of_int ?_ ⟨.str _,H,I.tok _,⟨_,rfl⟩,k.now rs (.val (.str _)) h.2⟩;by_cases h0:i.natAbs=0
  ·rw[h0];decide
  ·have:=(Nat.log2_lt h0).mpr h.1
   omega
 ·exact h.elim
def zbV:zQ:=λxs st Q=>match xs with | [.str x]=>x.length<=640/\∃n,PySem.intText? x=some n/\Q (.int n) st | _=>False
theorem zb9:xK X (.type "int") (vR X.K zbV):=by
 intro pins s σ H vs us Q I rv ⟨A,st,xs,Q3,rs,ex,h,k⟩;unfold zbV at h
 split at h
 ·rename_i x
  obtain⟨v,rfl,ex1⟩:=yK.one ex;cases wJ ex1;obtain⟨u,rfl,t,rfl⟩:=zI.one rv;obtain⟨hl,n,hn,q⟩:=h;exact PySem.W.KIN.call_text hn hl ⟨.int n,H,I.tok _,⟨_,rfl⟩,k.now rs (.val (.int _)) q⟩
 ·exact h.elim
def zbR:zQ:=λxs st Q=>match xs with | [.int i]=>Q (.int (if i < 0 then -i else i)) st | _=>False
theorem zgy:xK X (.builtin "abs") (vR X.K zbR):=by
 intro pins s σ H vs us Q I rv ⟨A,st,xs,Q3,rs,ex,h,k⟩;unfold zbR at h
 split at h
 ·rename_i i
  obtain⟨v,rfl,ex1⟩:=yK.one ex;cases yY ex1;obtain⟨u,rfl,t,rfl⟩:=zI.one rv;exact call_abs_int λu tk=>⟨.int _,H,I.tok _,⟨_,rfl⟩,k.now rs (.val (.int _)) h⟩
 ·exact h.elim
def zcc:R3:=λx y st Q=>match x,y with | .str z,.int n=>((0<=n/\n<=1000)/\z.length<=1000)/\Q (.str (Txt.mul z n)) st | _,_=>False
theorem zg2:y1 X (binaryOp .Mult) (xA X.K zcc):=uB λpins s σ H A st x y v w vv ww Q3 Q I rs ex ey rv rw h k=>by
 unfold zcc at h
 split at h
 ·rename_i z n
  cases wJ ex;cases yY ey;obtain⟨t,rfl⟩:=rv;obtain⟨t',rfl⟩:=rw;obtain⟨⟨⟨h0,h1⟩,h2⟩,h⟩:=h;have ok:MulOk z n:=by
   refine⟨?_,λh3 _=> ?_,λh3 _=> ?_⟩
   ·rw[Bool.or_eq_false_iff];exact⟨decide_eq_false (by omega),decide_eq_false (by omega)⟩
   ·have:(1000:Int)<=(2 ^ 63 - 1) / n:=by
     refine(Int.le_ediv_iff_mul_le (by omega)).mpr ?_;omega
    omega
   ·unfold Builtin.Str.tooLong
    refine decide_eq_false ?_;have:z.length * n.toNat<=1000 * 1000:=Nat.mul_le_mul h2 (by omega);rw[sizeLine_eq];omega
  exact SB.mul ok λt' k'=>⟨.str _,H,I.tok _,⟨_,rfl⟩,k.now rs (.val (.str _)) h⟩
 ·exact h.elim
end
end L3
namespace L2
open PySem PySem.Spec PyProof.Rows
theorem x9.ex {P:Program}{w:World}{H:Hp}{h:Heap}{a:Addr}{o:HO}(x:x9 P w H h a o): ∃u,h.get? a=some u:=by
 cases o with
 | lst xs=>obtain⟨_,_,_,_,e⟩:=x;exact⟨_,e⟩
 | tup xs=>obtain⟨_,_,_,_,e,_⟩:=x;exact⟨_,e⟩
 | dK kvs=>obtain⟨_,_,_,_,o,_,_,e,_⟩:=x;exact⟨_,e⟩
 | dT kvs=>obtain⟨_,_,_,_,o,_,_,e,_⟩:=x;exact⟨_,e⟩
 | set S n=>obtain⟨o,_,_,_,e,_⟩:=x;exact⟨_,e⟩
 | ins C dx fs=>obtain⟨_,_,_,e,_⟩:=x;exact⟨_,e⟩
 | own y=>exact x
 | xd fs=>obtain⟨_,⟨_,_,_,e,_⟩,_⟩:=x;exact⟨_,e⟩
 | rng lo hi=>obtain⟨_,_,_,e⟩:=x;exact⟨_,e⟩
 | frz ob u=>obtain⟨e,_⟩:=x;exact⟨_,e⟩
 | tbl ps=>exact⟨_,x⟩
 | met f y=>exact⟨_,x⟩
 | ext φ=>exact x.2.1
theorem zkR {X:Cx}{pins:List (Addr×Obj)}{σ:St}{H:Hp}{s s':Shared}{D:Addr}{o:HO}(I:z6 X pins σ H s)(J:z6 X pins σ H s')(h0:s.heap.get? D=none)(hn:H D=none)
  (new:x9 X.prog X.w (upd H D o) s'.heap D o):z6 X pins σ (upd H D o) s':=by
 have ne: ∀{b:Addr} {u:Obj},s.heap.get? b=some u->b≠D:=λe z=>by rw[z,h0]at e;cases e
 refine⟨J.ok,J.os,J.bare,⟨J.base.keep,J.base.slot,λb u e n hx=> ?_,J.base.there,λb xs e=> ?_,λb u v e=> ?_,λb ps e=> ?_⟩,J.loc,J.cell,?_,λx c e=> ?_,λp hm=> ?_,λb u e=> ?_,J.len⟩
 ·obtain⟨o',q⟩:=I.base.there b u e hx
  rw[zU (ne q)];exact J.base.free b u e n hx
 ·have q:=J.base.tups b xs e
  rw[zU (xZ q hn)];exact q
 ·have q:=J.base.frzs b u v e
  rw[zU (xZ q hn)];exact q
 ·obtain⟨more,q⟩:=J.base.tbls b ps e
  exact⟨more,by rw[zU (xZ q hn)];exact q⟩
 ·obtain⟨m,⟨ob,_,_,q,_⟩,_⟩:=I.loc
  rw[zU (ne q)];exact J.free
 ·obtain⟨v,ob,q,_⟩:=I.cell x c e
  rw[zU (ne q)];exact J.freeC x c e
 ·obtain⟨e,n,r⟩:=J.pin p hm
  exact⟨e,by rw[zU (ne (I.pin p hm).1)];exact n,r⟩
 ·by_cases hb:b=D
  ·subst hb;rw[xC]at e;cases e;exact new
  ·rw[zU hb]at e
   exact(J.hok b u e).stay (λc v _ q=>q) (λc q=>by rw[zU (xZ q hn)];exact q) λc xs q=>by rw[zU (xZ q hn)];exact q
section
variable {X:Cx} {pins:List (Addr×Obj)} {σ:St} {H:Hp} {s s':Shared} {ev:Value} {E:XK} {g:Value->Prop} {y:Str} {yp hpos:Pos} {nm:Option Str} {body:List Stmt} {HE Dc:Addr} {Q:Flow->Shared->Prop}
theorem zjH (I:z6 X pins σ H s)(hq:yJ X.prog X.w g X.stack (wB H) s E ev s')(hst:X.stack=X.env::X.outer)(xW:X.env.frame=some X.env.locals)
  (hE: ∀c od H,E c od H->∃C dx fs,c= .ref C/\od=some dx/\H dx=some (.xd fs)/\v9 X.K HE C/\(Value.ref C:: .ref HE::wM).contains (.ref Dc)=true) (Z:ziZ X.K Dc) (hgy:Gl X y) (hmy:X.mg y=some (.ref Dc)) (hdy:(y==("__debug__" :Str))=false)
  (k: ∀(e C T dx:Addr) (fs:List (Str×V)) (cx:Value) (h2:Heap) (H':Hp),g cx->E (.ref C) (some dx) H'->H' dx=some (.xd fs)->H dx=none->vY h2 e C (some dx) cx T .none->upd H dx (.xd fs) e=none->e≠X.env.locals->z6 X pins σ (upd H dx (.xd fs)) {s' with heap:=h2} ->(∀{s2:Shared} {h3:Heap},z6 X pins σ (upd H dx (.xd fs)) s2->x4 [] [T] s2.heap h3->z6 X pins σ (upd H dx (.xd fs)) {s2 with heap:=h3})->
   codeAny (model X.prog X.w) (X.A.mark (some (.ref e))) (.handlers (.ref e) [.ExceptHandler none nm body hpos] X.env) (λr s₂=>match r with
    | .ok f=>(match nm with
     | none=>Q f s₂
     | some n=>wpAny (model X.prog X.w) X.A (do bindName X.env n .none;unbindBehindTheSuite X.env n hpos) (λ_ s₃=>Q f s₃) X.xe s₂)
    | .error x=>cameBackBy (model X.prog X.w) X.A X.env X.xe x s₂) {s' with heap:=h2}):
  wpAny (model X.prog X.w) X.A (noteFrame ev X.env) (λ_ s₂=>wpAny (model X.prog X.w) X.A (setFlight ev none) (λ_ s₃=>wpAny (model X.prog X.w) X.A (handleBy ev X.env [.ExceptHandler (some (.Name y yp)) nm body hpos]) Q X.xe s₃) X.xe s₂) X.xe s':=by
 obtain⟨e,C',T,od,cx,H',rfl,hg,eE,os,bare,un,hok,fl,ne',nT',ze,zT⟩:=hq;obtain⟨C,dx,fs,eC,rfl,hdx,M,hc⟩:=hE _ _ _ eE;cases eC;have J0:=I.behind os bare un hok;have d0:s.heap.get? dx=none:=by
  cases q:s.heap.get? dx with
  | none=>rfl
  | some o=>
   cases w:wB H dx with
   | none=>have:=un.free dx o q w (by simp);rw[hdx]at this;cases this
   | some u=>
    obtain⟨t,_⟩:=zcG w;cases u with
    | tup xs=>have:=un.tups dx xs w;rw[hdx]at this;cases this
    | frz o v=>have:=un.frzs dx o v w;rw[hdx]at this;cases this
    | _=>cases t
 have dn:H dx=none:=by
  cases w:H dx with
  | none=>rfl
  | some u=>obtain⟨o,q⟩:=(I.hok dx u w).ex;rw[d0]at q;cases q
 have nde:e≠dx:=λz=>by rw[z,hdx]at ne';cases ne'
 have ndT:T≠dx:=λz=>by rw[z,hdx]at nT';cases nT'
 have J:=zkR (o:= .xd fs) I J0 d0 dn (hok dx _ hdx);have ne:upd H dx (.xd fs) e=none:=by rw[zU nde];exact I.hok.fresh ze
 have nT:upd H dx (.xd fs) T=none:=by rw[zU ndT];exact I.hok.fresh zT
 refine zb8 (L:=X.env.locals) (by rw[J.ok.frames,hst]) (hst▸J.stack) xW (.inr ⟨T,rfl,fl⟩) λh1 T1 st zT1 fl1=> ?_;have J1:=J.stays (h':=h1) (ch:= [e,T]) (hst▸st) (λb m=>by
  rcases List.mem_cons.mp m with rfl | m
  ·exact⟨I.priv ze,ne⟩
  ·rw[List.mem_singleton.mp m];exact⟨I.priv zT,nT⟩)
 have pT1:=J.priv zT1;have nT1:upd H dx (.xd fs) T1=none:=J.hok.fresh zT1;have on: ∀{s2:Shared} {h2:Heap},z6 X pins σ (upd H dx (.xd fs)) s2->x4 [] [T1] s2.heap h2->z6 X pins σ (upd H dx (.xd fs)) {s2 with heap:=h2} :=λ{s2 h2} I2 st2=>
  I2.stays (ch:= [T1]) ⟨st2.size,λb o z n m=>st2.keep b o z (by simp) m,st2.slot,st2.there⟩ (λb m=>by rw[List.mem_singleton.mp m];exact⟨pT1,nT1⟩)
 refine jF fl1 λh2 st2 fl2=> ?_;have J2:=on J1 st2;have nl:e≠X.env.locals:=(I.priv ze).2.1;refine wpAny_handleBy_cons (codeAny_handlers_test ?_) (by intro q;cases q);obtain⟨oe,ws,eo,oc,_,odt,_⟩:=id fl2.ob;refine rP (X:=X.exc e (X.pn++ [(e,oe)]) (λ_ _=>False)) (J2.exc_in eo odt ne nl) hgy hmy ?_ hdy;obtain⟨nm,qq,N,bs,sn,sub,ab,col,dd,k0,k1,k2,k3,k5,l⟩:=id M.ob;obtain⟨nm',q',N',bs',bm',hd',sn',sub',ab',col',dd',l0,l1,l2,l3,l5,nw',l',hbm⟩:=Z;exact zlK (J2.kIn _ _ l) (J2.kIn _ _ l') hbm eo oc hc (k e _ T1 dx fs cx h2 H' hg eE hdx dn fl2 ne nl J2 on)
end
abbrev Cx.pinX (X:Cx)(pn:List (Addr×Obj)):Cx:= {X with pn:=pn}
section
variable {X:Cx} {pins:List (Addr×Obj)} {σ:St} {H:Hp} {s:Shared} {e:Addr} {pn:List (Addr×Obj)} {E:Value->Shared->Prop}
theorem z6.exc_pin (I:z6 (X.exc e pn E) pins σ H s)(hd:X.calm=true->X.A.handled=none):z6 (X.pinX pn) pins σ H s:=by
 have k:=I.ok;exact⟨⟨k.mod,k.kind,k.glob,k.blt,k.above,k.inj,k.has,k.cab,hd,k.frames,k.stk,k.exf,k.bs,k.bsz,k.noex,k.exfs,k.funs,k.frf⟩,I.os,I.bare,I.base,I.loc,I.cell,I.free,I.freeC,I.pin,I.hok,I.len⟩
theorem z6.unpinX (I:z6 (X.pinX (X.pn++pn)) pins σ H s):z6 X pins σ H s:=by
 have k:=I.ok;exact⟨⟨k.mod,k.kind,k.glob,k.blt,k.above,k.inj,k.has,k.cab,k.hd,k.frames,k.stk,k.exf,k.bs,k.bsz,k.noex,k.exfs,k.funs,k.frf⟩,I.os,I.bare,I.base,I.loc,I.cell,I.free,I.freeC,
  λp hp=>I.pin p ((List.mem_append.mp hp).elim (λz=>List.mem_append_left _ (List.mem_append_left _ z)) λz=>List.mem_append_right _ z),I.hok,I.len⟩
theorem SP.unpinX {D:vP}{f:Flow}(h:SP (X.pinX (X.pn++pn)) pins D f s):SP X pins D f s:=by
 cases f with
 | next=>obtain⟨σ',H',I,q⟩:=h;exact⟨σ',H',I.unpinX,q⟩
 | ret u=>obtain⟨v,σ',H',I,r,q⟩:=h;exact⟨v,σ',H',I.unpinX,r,q⟩
 | brk=>obtain⟨σ',H',I,q⟩:=h;exact⟨σ',H',I.unpinX,q⟩
 | cont=>obtain⟨σ',H',I,q⟩:=h;exact⟨σ',H',I.unpinX,q⟩
end
section
variable {X:Cx} {k k2 i j r:Nat} {f f2 C HE:Addr} {fd fd2:FuncData} {ps ps2:List Str} {sp yD:Sp} {E:XK} {x y x2 n z rn:Str} {p cpos epos yp hpos pos p2 cp2 zp rp np rpos:Pos} {a:Expr} {as:List Expr} {ta:TA} {sts:List Stmt} {u:TS} {t2:Addr->Addr->TS} {fs:List (Str×V)}
def zoV (i j r:Nat)(sp yD:Sp)(E:XK)(ta:TA)(u:TS)(fs:List (Str×V))(t2:Addr->Addr->TS):TS:=λD σ H=>ta σ H λvs H1=>sp vs H1 (λv H2=>yD [v] H2 (λv2 H3=>u D (σ.set j (some v2)) H3) λ_ _ _=>False) (λ_ _ _=>False)∨
 (sp vs (wB H1) (λ_ _=>False) E/\∀e dx,H1 dx=none->t2 e dx D (((σ.set i (some (.ref e))).set r (some (.ref e))).set i none) (upd H1 dx (.xd fs)))
theorem znS {g g2:Value->Prop}(F:t5 X.prog X.w X.K X.mg X.base (yJ X.prog X.w g) k f fd ps sp)(hr:zF k X.A)(hg:Gl X x)(hm:X.mg x=some (.ref f))(hk:keepIn X.K (.ref f)=true)(hb:zS X.K fd ps [])(ha: ∀EE,PA (X.wish EE) (a::as) ta)
  (F2:zZ X.prog X.w X.K X.mg X.base yE k2 f2 fd2 ps2 yD) (hr2:zF k2 X.A) (hg2:Gl X x2) (hm2:X.mg x2=some (.ref f2)) (hk2:keepIn X.K (.ref f2)=true) (hb2:zS X.K fd2 ps2 [])
  (hE: ∀c od H,E c od H->∃dx,c= .ref C/\od=some dx/\H dx=some (.xd fs)) (M:v9 X.K HE C) (Z:gX X.K HE) (hgy:Gl X y) (hmy:X.mg y=some (.ref HE)) (hst:X.stack=X.env::X.outer) (xW:X.env.frame=some X.env.locals) (hc:X.calm=true)
  (hN:X.N.Nodup) (hi:X.N[i]?=some n) (hx:X.env.kindOf n=some .local) (hj:X.N[j]?=some z) (hz:X.env.kindOf z=some .local) (hrn:X.N[r]?=some rn) (hxr:X.env.kindOf rn=some .local) (hu:yI X sts u)
  (hR: ∀e dx ws sl,yI (X.pinX (X.pn++ [(e,⟨.ref C,some dx,.fields ws,sl⟩)])) sts (t2 e dx))
  (hdb:(x==("__debug__" :Str))=false:=by decide) (hdb2:(x2==("__debug__" :Str))=false:=by decide) (hdy:(y==("__debug__" :Str))=false:=by decide) (hdn:(n==("__debug__" :Str))=false:=by decide) (hcd:(n==("__classdict__" :Str))=false:=by decide)
  (hsw:swapsWith (.Call (.Name x2 p2) [.Call (.Name x p) (a::as) [] cpos] [] cp2) (some (.Name z zp)) epos.line X.env=pure false:=by rfl) (hsn:swapsWith (.Name n np) (some (.Name rn rp)) rpos.line X.env=pure false:=by rfl)
  (he:starEach (a::as) X.env=(false,eval a X.env)::starEach as X.env:=by rfl) (hpl:(backTo cpos (starEach as X.env)).any (·.1)=false:=by rfl)
  (he2:starEach [.Call (.Name x p) (a::as) [] cpos] X.env= [(false,eval (.Call (.Name x p) (a::as) [] cpos) X.env)]:=by rfl):
  uG X (.Try [.Assign [.Name z zp] (.Call (.Name x2 p2) [.Call (.Name x p) (a::as) [] cpos] [] cp2) epos] [.ExceptHandler (some (.Name y yp)) (some n) [.Assign [.Name rn rp] (.Name n np) rpos] hpos] [] [] pos::sts) (zoV i j r sp yD E ta u fs t2):=⟨λpins s σ H D hp I h=>by
 have hA: ∀EE:Value->Shared->Prop,wpAny (model X.prog X.w) X.A (spliced (backTo cpos (starEach (a::as) X.env))) (AP (X.wish EE) pins σ λvs H1=>sp vs H1 (λv H2=>yD [v] H2 (λv2 H3=>u D (σ.set j (some v2)) H3) λ_ _ _=>False) (λ_ _ _=>False)∨
  (sp vs (wB H1) (λ_ _=>False) E/\∀e dx,H1 dx=none->t2 e dx D (((σ.set i (some (.ref e))).set r (some (.ref e))).set i none) (upd H1 dx (.xd fs)))) EE s:=λEE=>(ha EE).run cpos pins s σ H _ (I.wish EE) h
 refine wpAny_execs_cons (wpAny_Try_except (wpAny_execs_cons (wpAny_Assign_Name ?_ hsw)));refine wpAny_Call_Name_kw (rP I hg2 hm2 ?_ hdb2);refine callWith_K (h₀:=X.base) I.ok.mod.kin hk2 ?_ he2 rfl;show wpAny _ _ (spliced ((false,eval (.Call (.Name x p) (a::as) [] cpos) X.env):: [])) _ _ s;refine Calls.spliced_cons ?_;refine wpAny_Call_Name_kw (rP I hg hm ?_ hdb);refine callWith_K (h₀:=X.base) I.ok.mod.kin hk (lV hp (hA _) λus s1 hp1 ⟨vs,H1,I1,r1,q⟩=>⟨I1.kIn,?_⟩) he hpl;have I1:=I1.unwish;have hlen:vs.length=ps.length:=q.elim (F.len _ _ _ _) (λq=>F.len _ _ _ _ q.1);have hl:(us++ []).length=ps.length:=by rw[List.append_nil,<- r1.length];exact hlen
 have bd:=hb s1 us I1.kIn hl;rw[List.append_nil]at bd;rcases q with q | ⟨q,q1⟩
 ·refine wpAny_call (codeAny_mono (F.run X.A X.stack s1 H1 ⟨us,[]⟩ us vs _ _ hp1 hr I1.env0 bd r1 q) λrr s' hq=> ?_)
  cases rr with
  | ok fl=>
   cases fl with
   | ret w=>
    obtain⟨v,H',I3,rv,q3⟩:=I1.after hq;refine Calls.spliced_nil ⟨I3.kIn,?_⟩;have r3:zI [v] [w]:= .cons rv .nil;have hl2:([w]++ []).length=ps2.length:=by
     have e1:=r3.length;rw[F2.len _ _ _ _ q3]at e1;simpa using e1.symm
    have bd2:=hb2 s' [w] I3.kIn hl2;rw[List.append_nil]at bd2;refine wpAny_call (codeAny_mono (F2.run X.A X.stack s' H' ⟨[w],[]⟩ [w] [v] _ _ hr2 I3.env0 bd2 r3 q3) λrr s5 hq5=> ?_);cases rr with
    | ok fl=>
     cases fl with
     | ret w5=>
      obtain⟨v5,H5,I5,rv5,q5⟩:=I3.after hq5;exact pU I5 hN hj (.inl hz) rv5 (λs6 I6=>wpAny_execs_nil (wpAny_execs_nil (hu.run pins s6 _ H5 D I6 q5))) (.inr hz)
     | next=>exact False.elim hq5
     | brk=>exact False.elim hq5
     | cont=>exact False.elim hq5
    | error ev=>exact False.elim hq5
   | next=>exact False.elim hq
   | brk=>exact False.elim hq
   | cont=>exact False.elim hq
  | error ev=>obtain⟨e,C',T,od,cx,H',_,_,z,_⟩:=hq;exact z.elim
 ·refine wpAny_call (codeAny_mono (F.run X.A X.stack s1 (wB H1) ⟨us,[]⟩ us vs _ E hp1 hr I1.env0.tups bd r1 q) λrr s' hq=> ?_)
  cases rr with
  | ok fl=>
   cases fl with
   | ret u=>obtain⟨_,_,_,_,_,_,_,z⟩:=hq;exact z.elim
   | next=>exact False.elim hq
   | brk=>exact False.elim hq
   | cont=>exact False.elim hq
  | error ev=>
   refine zjH I1 hq hst xW (λc od H z=>by obtain⟨dx,e1,e2,e3⟩:=hE c od H z;exact⟨C,dx,fs,e1,e2,e3,M,by simp⟩) (by obtain⟨_,_,_,_,_,_,_,_,_,_,_,_,_,_,_,_,l⟩:=id Z;exact⟨_,_,_,_,_,_,_,_,_,_,_,_,_,_,_,_,_,l,rfl⟩) hgy hmy hdy λe C' T1 dx fs' cx h2 H' _ eE hdx dn fl2 ne nl J2 on=> ?_;obtain⟨dx',eC,ed,hdx'⟩:=hE _ _ _ eE;cases eC;cases ed;rw[hdx]at hdx';cases hdx';refine codeAny_handlers_suite_as (jF fl2 λh3 st3 fl3=> ?_);have J3:=on J2 st3;obtain⟨⟨c9,d9,t9,sl9⟩,ws,eo,oc,od,odt,_⟩:=fl3.ob;cases oc;cases od;cases odt;refine pU (X:=X.exc e (X.pn++ [(e,_)]) (λ_ _=>False)) (v:= .ref e) (J3.exc_in eo rfl ne nl) hN hi (.inl hx) rfl (λs4 J4=> ?_) (.inr hx);have hil:i < σ.length:=by rw[I.len];exact(List.getElem?_eq_some_iff.mp hi).1
   refine wpAny_execs_cons (wpAny_Assign_Name ?_ hsn);have pv:=(pK (X:=X.exc e (X.pn++ [(e,⟨.ref C,some dx,.fields ws,sl9⟩)]) (λ_ _=>False)) (pos:=np) hi (.inl hx) hdn hcd).run pins s4 _ _ (λv H2=>v= .ref e/\H2=upd H1 dx (.xd fs)) J4 ⟨_,List.getElem?_set_self hil,rfl,rfl⟩;refine sJ pv λv5 s5 ⟨y5,H5,J5,r5,e5,e6⟩=> ?_;subst e5;subst e6;cases r5;refine pU (X:=X.exc e (X.pn++ [(e,_)]) (λ_ _=>False)) (v:= .ref e) J5 hN hrn (.inl hxr) rfl (λs6 J6=> ?_) (.inr hxr);refine wpAny_execs_nil ?_;have J7:=J6.exc_pin I.ok.hd;obtain⟨m,hn,hmm⟩:=J7.loc;refine wpAny_nameGoes_keeps hx hn (by rw[J7.ok.kind];rfl) λh6 v6 hn6 hs6=> ?_;exact zJ ((hR e dx ws sl9).run pins _ _ _ D (J7.gone1 hN hi hmm hn6 hs6) (q1 e dx dn)) λf s9 z=>z.unpinX⟩
end
section
variable {prog:Program} {w:World} {A:Around} {E:Value->Shared->Prop} {s:Shared} {K:Frag} {C HE e t0 dx:Addr} {cd:ClassData} {name:Str} {v:Value} {od:Obj}
theorem zkh {ob:Obj}{Q:Value->Shared->Prop}{expr:Bool}(X:K.In s.heap)(J:InstAt s.heap e ob C (some od))(hcl:clsIn K C=some cd)(hm:cd.mro= .ref C:: .ref HE::wM)
  (hga:findIn K (.ref C) "__getattribute__" =some (some (.builtin "BaseException.__getattribute__"))) (hk:findIn K (.ref C) "__getattr__" =some none)
  (hf:findObj K C (some od) name=some (.value v)) (hh:handedIn v=true) (h:Q v {s with toks:=s.toks+1}):wpAny (model prog w) A (getAttr (.ref e) name expr) Q E s:=by
 obtain⟨hp,g,d,t,os⟩:=s;have L0:=J.type (M:=model prog w);have L1:=looks_findIn (M:=model prog w) X hga;have L2':=looks_find (M:=model prog w) X J hf;have L3:=looks_findIn (M:=model prog w) X hk;have sub:PySem.W.Looks (model prog w) hp (isInstance (.ref e) (.type "BaseException")) true:=L0.andThen (looks_mroIn X (by unfold mroIn;rw[hcl,Option.bind_some,hm];rfl));have hb:PySem.W.Looks (model prog w) hp (hookBefore (.ref C)) none:=by
  unfold hookBefore;rw[if_pos (by rfl)];exact L3
 unfold getAttr getAttrBy;refine wpAny_bind (wpAny_mkText (wpAny_holding (wpAny_bind (L0.at (wpAny_bind (L1.at ?_))))));dsimp only;rw[zgr,Bool.and_false,if_neg (by decide)];refine wpAny_bind (hb.at (wpAny_bind (wpAny_attempt (wpAny_holding ?_))));unfold callGetattribute;rw[show(expr&&onTheHeap (Value.builtin "BaseException.__getattribute__"))=false from Bool.and_false _,if_neg (by decide)];unfold boundAndCalled;rw[iR.bind];refine wpAny_bind (wpAny_pure ?_);show wpAny _ _ (call (.builtin "BaseException.__getattribute__") [.ref e,.str name t]) _ _ _;refine wpAny_call (codeAny_call_builtin iR.plain PySem.F.entry_bexc_ga ?_);refine @check_slot (model prog w) _ _ ⟨hp,g,d,t+1,os⟩ "BaseException.__getattribute__" "BaseException" "__getattribute__" (.ref e) [.str name t] [] _ zfX zhM sub (PySem.F.args_bexc_ga (.ref e) (.str name t)) ?_;refine wpAny_bind (wpAny_pure (wpAny_bind (wpAny_pure (wpAny_bind (L0.at (wpAny_bind (L2'.at ?_)))))));refine wpAny_pure ?_;show wpAny _ _ (handedOut v) _ _ _;rw[PySem.W.handedOut_of hh];exact wpAny_pure h
end
theorem zqO {K:Frag}{e C HE dx:Addr}{ws:Array Value}{sl:Array (Option Value)}(T:sB K HE)(M:v9 K HE C):PySem.W.KitX K (.ref e) (.ref C) (λh=>h.get? e=some ⟨.ref C,some dx,.fields ws,sl⟩/\∃o,h.get? dx=some o) where
 ty:=λM' h _ q=>(PySem.W.Looks.ld q.1).andThen .now
 it:=λM' h KX _=>by
  obtain⟨nm,qn,N,bs,sn,sub,ab,col,dd,k0,k1,k2,k3,k5,l⟩:=M.ob;intro A' Q' E' s' k q;unfold isType loadHead;exact wpAny_bind (wpAny_loadPart (k _ _ (KX _ _ l)) (wpAny_pure q))
 ne:=λh tp dd its n sl KX q=>by
  obtain⟨nm,qn,N,bs,sn,sub,ab,col,dd',k0,k1,k2,k3,k5,l⟩:=M.ob;refine Bool.eq_false_iff.mpr λz=> ?_;have w:C=tp:=Value.ref.inj (beq_iff_eq.mp z);subst w;have:=KX _ _ l;rw[q]at this;exact absurd (congrArg (λo:Option Obj=>o.map (·.cls)) this) (by simp)
 ca:=λ{prog w A E Q s} KX q hQ=>by
  obtain⟨cd,hcl,hm,hdi⟩:=M.cls;obtain⟨q,o,hd⟩:=q;refine zkg (odo:=some o) KX ⟨q,rfl,rfl,hd⟩ hcl hm M.ga M.gg ?_ hQ;unfold findObj;rw[hcl,Option.bind_some,M.cc,Option.bind_some];dsimp only;rw[T.dget,Option.bind_some];dsimp only;rw[T.dset]
  rfl
section
variable {X:Cx} {e C HE dx:Addr} {ws:Array Value} {sl:Array (Option Value)} {fs:List (Str×V)}
theorem zj5 (T:sB X.K HE)(M:v9 X.K HE C)(hp:(e,(⟨.ref C,some dx,.fields ws,sl⟩:Obj))∈X.pn):
  xK X (.builtin "isinstance") (λxs H Q=> ∃c cv b u,xs= [.ref e,c]/\H dx=some u/\zdK c=some cv/\kitOne X.K (.ref C) cv=some b/\Q (.bl b) H):=by
 intro pins s σ H xs us Q I r h;obtain⟨c,cv,b,u,rfl,hd,rc,hk,q⟩:=h;obtain⟨u1,u2,rfl,ru1,ru2⟩:=zI.two r;cases ru1;obtain rfl:=zjJ rc ru2;exact PySem.W.kia_one (zqO T M) I.kIn ⟨(I.pin _ (List.mem_append_left _ hp)).1,(I.hok dx u hd).ex⟩ hk (by intro z;cases z) λtk=>⟨.bl b,H,I.tok _,rfl,q⟩
def zpP (K:Frag)(e C dx:Addr)(fs:List (Str×V))(ta:TE)(f:Str):TE:=λσ H Q=>ta σ H λx H1=> ∃v,x= .ref e/\H1 dx=some (.xd fs)/\wQ K C f/\fs.lookup f=some v/\Q v H1
theorem zgQ {o:Expr}{pos:Pos}{ta:TE}{f:Str}(M:v9 X.K HE C)(hp:(e,(⟨.ref C,some dx,.fields ws,sl⟩:Obj))∈X.pn)(he:PE X o ta)(hb:attributeBase o f X.env (eval o X.env)=eval o X.env:=by rfl):PE X (.Attribute o f pos) (zpP X.K e C dx fs ta f):=⟨λpins s σ H Q I h=>by
 refine zdw hb (zJ (he pins s σ H _ I h) λu s1 ⟨x,H1,I1,rx,v,ex,ed,n,l,q⟩=> ?_);subst ex;obtain rfl:u=Value.ref e:=rx;obtain⟨cd,hcl,hm,hd⟩:=M.cls;obtain⟨mA,ns,rl⟩:=I1.hok dx _ ed;obtain⟨od,eo,lo⟩:=zgg ns;obtain⟨u',hu,ru⟩:=xS.some_of (v:=v) (o:=mA f) (by rw[<- l];exact rl f);have hdi:hasDictIn X.K C=true:=by unfold hasDictIn;rw[hcl];exact hd
 exact zkh I1.kIn ⟨(I1.pin _ (List.mem_append_left _ hp)).1,rfl,rfl,eo⟩ hcl hm M.ga M.gg (PySem.W.findObj_own hdi n rfl (by rw[lo,hu])) (zfH ru) ⟨v,H1,I1.tok _,ru,q⟩⟩
end
theorem znT {X:Cx}{sts:List Stmt} :yI X sts (λ_ _ _=>False):=⟨λ_ _ _ _ _ _ h=>h.elim⟩
def zhz (e dx:Addr)(f:Str)(d c:Nat):TS:=λD σ H=>σ[d]?=some (some (.bl false))/\σ[c]?=some (some (.ref e))/\H dx=some (.xd [(f,.int 0)])/\D.rt (.bl true) H
section
variable {X:Cx} {e C HE dx:Addr} {ws:Array Value} {sl:Array (Option Value)}
theorem znU {d c:Nat}{dn cn cls f:Str}{body:List Stmt}{dp ip p1 p2 p3 p4 q1 q2 q3 q4 q5 q6 r1 r2 r4 r5 bp rp:Pos}{r3:Nat}(T:sB X.K HE)(M:v9 X.K HE C)(hp:(e,(⟨.ref C,some dx,.fields ws,sl⟩:Obj))∈X.pn)
  (hd:X.N[d]?=some dn) (hvd:qO X.env.scope dn) (hc:X.N[c]?=some cn) (hvc:qO X.env.scope cn) (hgi:Gl X "isinstance") (hmi:X.mg "isinstance" =none) (hgb:Gl X "bool") (hmb:X.mg "bool" =none) (hgc:Gl X cls) (hmc:X.mg cls=some (.ref C)) (hk:kitOne X.K (.ref C) (.ref C)=some true) (hn:wQ X.K C f)
  (hbb:bootBuiltins "bool" =some (.type "bool")) (h1:(dn==("__debug__" :Str))=false:=by decide) (h2:(dn==("__classdict__" :Str))=false:=by decide) (h3:(cn==("__debug__" :Str))=false:=by decide) (h4:(cn==("__classdict__" :Str))=false:=by decide) (h5:(cls==("__debug__" :Str))=false:=by decide)
  (ht: ∀whole,isTrue (.Name dn dp) X.env whole=(do let v <- whole;standAt (Expr.pos (.Name dn dp));holding [v] (truthy v)):=by intro _;rfl) (hb1:attributeBase (.Name cn q2) f X.env (eval (.Name cn q2) X.env)=eval (.Name cn q2) X.env:=by rfl) (hb2:attributeBase (.Name cn r1) f X.env (eval (.Name cn r1) X.env)=eval (.Name cn r1) X.env:=by rfl):
  yI X [.If (.Name dn dp) body [] ip,.Return (some (.BoolOp .And [.Call (.Name "isinstance" p1) [.Name cn p2,.Name cls p3] [] p4,.UnaryOp .Not (.Call (.Name "isinstance" q1) [.Attribute (.Name cn q2) f q3,.Name "bool" q4] [] q5) q6,.Compare (.Attribute (.Name cn r1) f r2) [.Eq] [.Constant (.int 0) r3 r4] r5] bp)) rp] (zhz e dx f d c):=by
 refine L3.pss_weak (zbI (zhd (znZ (pK hd hvd h1 h2) ht) znT zhf) (zbJ (zhe (zbE (zbF (zj5 T M hp) hgi hmi boot_isinstance (rW (pK hc hvc h3 h4) (rW (zgR (v:= .ref C) hgc hmc rfl h5) lC)))
  (zbE (zgV (zbF zj4 hgi hmi boot_isinstance (rW (zgQ (fs:= [(f,.int 0)]) M hp (pK hc hvc h3 h4) hb1) (rW (znh (v:= .ty "bool") hgb hmb hbb rfl) lC)))) (zgW (zgP zmL (zgQ (fs:= [(f,.int 0)]) M hp (pK hc hvc h3 h4) hb2) zgS (y4 _)))))))) λD σ H ⟨z1,z2,z3,z4⟩=> ?_
 have lk:List.lookup f [(f,V.int 0)]=some (V.int 0):=by simp[List.lookup]
 refine⟨_,z1,false,rfl,?_⟩;refine⟨_,z2,.ref C,.ref C,true,_,rfl,z3,rfl,hk,true,rfl,?_⟩;refine⟨_,z2,.int 0,rfl,z3,hn,lk,.inr ⟨0,rfl,false,rfl,true,rfl,?_⟩⟩;exact⟨_,z2,.int 0,rfl,z3,hn,lk,rfl,z4⟩
end
end L2
namespace L3
open PySem PySem.Spec PyProof.Rows L2
section
variable {X:Cx} {k k2 i j r d:Nat} {f f2 C HE:Addr} {fd fd2:FuncData} {ps ps2:List Str} {S:xJ} {S2:zQ} {x y x2 n z rn fl:Str} {p cpos epos yp hpos pos p2 cp2 zp rp np rpos:Pos} {a:Expr} {as:List Expr} {TA:y2} {sts:List Stmt} {Tu:yC}
def zix (S:xJ)(S2:zQ)(C:Addr)(fl:Str)(i j r d:Nat)(TA:y2)(Tu:yC):yC:=λD env st=>TA env st λxs st1=>S xs st1 (λv st2=>S2 [v] st2 λv2 st3=>Tu D (env.set j (some v2)) st3) rS∨
 (tupVs xs=true/\env[d]?=some (some (.bl false))/\S xs [] (λ_ _=>False) (λC' o=>C'=C/\o=some (fl,.int 0))/\D.rt (.bl true) st1)
theorem zow {g:Value->Prop}(F:t5 X.prog X.w X.K X.mg X.base (yJ X.prog X.w g) k f fd ps (w4 X.K S))(hr:zF k X.A)(hm:X.mg x=some (.ref f)){q:Str}{sm:Stmt}(hk:zN X.K x q sm f fd)(hb:zS X.K fd ps [])(ha: ∀EE,PA (X.wish EE) (a::as) (vI X.K TA))
  (F2:zZ X.prog X.w X.K X.mg X.base yE k2 f2 fd2 ps2 (yD X.K S2)) (hr2:zF k2 X.A) (hm2:X.mg x2=some (.ref f2)) {q2:Str} {sm2:Stmt} (hk2:zN X.K x2 q2 sm2 f2 fd2) (hb2:zS X.K fd2 ps2 [])
  (M:v9 X.K HE C) (Z:gX X.K HE) (hmy:X.mg y=some (.ref HE)) (hst:X.stack=X.env::X.outer) (xW:X.env.frame=some X.env.locals) (hc:X.calm=true)
  (hN:X.N.Nodup) (hi:X.N[i]?=some n) (hx:X.env.kindOf n=some .local) (hj:X.N[j]?=some z) (hz:X.env.kindOf z=some .local) (hrn:X.N[r]?=some rn) (hxr:X.env.kindOf rn=some .local) (nri:r≠i) (ndi:d≠i) (ndr:d≠r) (hu:yI X sts (yP X.K Tu))
  (hR: ∀e dx ws sl,yI (X.pinX (X.pn++ [(e,⟨.ref C,some dx,.fields ws,sl⟩)])) sts (zhz e dx fl d r))
  (hg:Gl X x:=by rfl) (hg2:Gl X x2:=by rfl) (hgy:Gl X y:=by rfl) (hdb:(x==("__debug__" :Str))=false:=by decide) (hdb2:(x2==("__debug__" :Str))=false:=by decide) (hdy:(y==("__debug__" :Str))=false:=by decide) (hdn:(n==("__debug__" :Str))=false:=by decide) (hcd:(n==("__classdict__" :Str))=false:=by decide)
  (hsw:swapsWith (.Call (.Name x2 p2) [.Call (.Name x p) (a::as) [] cpos] [] cp2) (some (.Name z zp)) epos.line X.env=pure false:=by rfl) (hsn:swapsWith (.Name n np) (some (.Name rn rp)) rpos.line X.env=pure false:=by rfl)
  (he:starEach (a::as) X.env=(false,eval a X.env)::starEach as X.env:=by rfl) (hpl:(backTo cpos (starEach as X.env)).any (·.1)=false:=by rfl)
  (he2:starEach [.Call (.Name x p) (a::as) [] cpos] X.env= [(false,eval (.Call (.Name x p) (a::as) [] cpos) X.env)]:=by rfl):
  uG X (.Try [.Assign [.Name z zp] (.Call (.Name x2 p2) [.Call (.Name x p) (a::as) [] cpos] [] cp2) epos] [.ExceptHandler (some (.Name y yp)) (some n) [.Assign [.Name rn rp] (.Name n np) rpos] hpos] [] [] pos::sts) (yP X.K (zix S S2 C fl i j r d TA Tu)):=⟨λpins s σ H D hp I ⟨A,env,st,D3,rel,h,kk⟩=>by
 have hl:σ.length=X.N.length:=I.len;have hil:=(List.getElem?_eq_some_iff.mp hi).1;have hrl:=(List.getElem?_eq_some_iff.mp hrn).1;refine(znS (g2:=g) (fs:= [(fl,.int 0)]) (E:=λc od H=> ∃dx,c= .ref C/\od=some dx/\H dx=some (.xd [(fl,.int 0)])) F hr hg hm hk.kp hb ha F2 hr2 hg2 hm2 hk2.kp hb2 (λc od H h=>h) M Z hgy hmy hst xW hc hN hi hx hj hz hrn hxr hu hR hdb hdb2 hdy hdn hcd hsw hsn he hpl he2).run pins s σ H D hp I ⟨A,env,st,_,rel,h,λA1 H1 st1 xs vs g1 s1 e1 h1=> ?_⟩;rcases h1 with h1 | ⟨t,hd,h1,h2⟩
 ·refine .inl ⟨A1,st1,xs,_,rS,s1,e1,h1,λA2 H2 st2 v w g2 s2 e2 q=> ?_,λc od H' z=>z.no.elim⟩
  refine⟨A2,st2,[v],_,s2,.cons e2 .nil,q,λA3 H3 st3 v3 w3 g3 s3 e3 q3=> ?_⟩;have gg:=g1.trans (g2.trans g3);exact⟨A3,_,st3,D3,(rel.grow gg s3).set j e3,q3,kk.after gg⟩
 ·refine .inr ⟨zpz e1 t h1 λc od H' ⟨C',ec,z⟩=> ?_,λe dx hdx=> ?_⟩
  ·rcases z with⟨_,_,z⟩ | ⟨dx,f',v,y,eo,hH,hv,z1,z2⟩
   ·cases z
   ·cases z2;cases hv
    exact⟨dx,by rw[ec,z1],eo,hH⟩
  ·obtain⟨w,ew,rw'⟩:=rel.at_ d _ hd
   have ew':w= .bl false:=fM rw';subst ew';refine⟨?_,?_,xC,kk.rt A1 _ st1 _ _ (g1.trans (.new hdx)) (s1.new hdx) (.val (.bl true)) h2⟩
   ·rw[List.getElem?_set_ne (Ne.symm ndi),List.getElem?_set_ne (Ne.symm ndr),List.getElem?_set_ne (Ne.symm ndi)];exact ew
   ·rw[List.getElem?_set_ne (Ne.symm nri),List.getElem?_set_self (by rw[List.length_set];omega)]⟩
end
@[simp] theorem zvr {S:xJ}{S2:zQ}{C:Addr}{fl:Str}{i j r d:Nat}{TA:y2}{Tu:yC}{D:yU}{env:zE}{st:z7} :zix S S2 C fl i j r d TA Tu D env st=(TA env st λxs st1=>S xs st1 (λv st2=>S2 [v] st2 λv2 st3=>Tu D (env.set j (some v2)) st3) rS∨
 (tupVs xs=true/\env[d]?=some (some (.bl false))/\S xs [] (λ_ _=>False) (λC' o=>C'=C/\o=some (fl,.int 0))/\D.rt (.bl true) st1)):=rfl
@[simp] theorem zty {z d:Str}{st:z7}{Q:K3} :zcf (.str z) [.str d] st Q=((d.length==0)=false/\z.length<=1000000/\Q (.lst ((Txt.split z d).map PV.str)) st):=rfl
@[simp] theorem zrG {z d:Str}{i:Int}{st:z7}{Q:K3} :zbU (.str z) [.str d,.int i] st Q=Q (.int (Txt.find3 z d i)) st:=rfl
@[simp] theorem ztp {z d:Str}{st:z7}{Q:K3} :zce (.str z) [.str d] st Q=((d.length==0)=false/\z.length<=1000000/\Q (.tup [.str (Txt.rpartition z d).1,.str (Txt.rpartition z d).2.1,.str (Txt.rpartition z d).2.2]) st):=rfl
@[simp] theorem ztz {i:Int}{st:z7}{Q:K3} :zcg [.int i] st Q=(i.natAbs < 2 ^ 64/\Q (.str (Str.ofString (toString i))) st):=rfl
@[simp] theorem zrO {x:Str}{st:z7}{Q:K3} :zbV [.str x] st Q=(x.length<=640/\∃n,PySem.intText? x=some n/\Q (.int n) st):=rfl
@[simp] theorem zro {i:Int}{st:z7}{Q:K3} :zbR [.int i] st Q=Q (.int (if i < 0 then -i else i)) st:=rfl
@[simp] theorem zsF {z:Str}{n:Int}{st:z7}{Q:K3} :zcc (.str z) (.int n) st Q=(((0<=n/\n<=1000)/\z.length<=1000)/\Q (.str (Txt.mul z n)) st):=rfl
section
variable {X:Cx} {a b:Expr} {yT:List Expr} {pos:Pos} {Ta Tb:zA}
theorem zjA {K:Frag}{Ta Tb:zA}{σ:St}{H:Hp}{Q:VK} :zG K (hV Ta Tb) σ H Q->zc8 (zG K Ta) (zG K Tb) σ H Q:=λ⟨A,env,st,Q3,rel,h,k⟩=>⟨A,env,st,_,rel,h,λA1 H1 st1 x v g1 s1 e1 h1=>by
 cases x with
 | bl c=>
  cases e1 with
  | val e1=>
   cases e1;refine⟨c,rfl,?_⟩;cases c with
   | true=>exact⟨A1,env,st1,Q3,rel.grow g1 s1,h1,k.after g1⟩
   | false=>exact k A1 H1 st1 _ _ g1 s1 (.val (.bl _)) h1
 | _=>exact False.elim h1⟩
theorem zoq (ha:uF X a (zG X.K Ta))(hb:PE X (.BoolOp .And (b::yT) pos) (zG X.K Tb)):uF X (.BoolOp .And (a::b::yT) pos) (zG X.K (hV Ta Tb)):=⟨λpins s σ H Q I h=>(znx ha hb).run pins s σ H Q I (zjA h)⟩
end
end L3
namespace K9
abbrev W:=List Nat
inductive T9 where
 | lf (w:W) | op (h:W) (a b:T9) | if3 (a b c:T9) | fl (h:W) (ws:List W)
def IFW:W:= [105,102]
def MANY:W:= [109,97,110,121]
def LONG:W:= [108,111,110,103]
def three:List W:= [[119,97,115],[109,105,110,101],[121,111,117,114,115]]
def jn:List W->W
 | []=> []
 | [x]=>x
 | x::y::r=>x++32::jn (y::r)
theorem jn_cons (x:W){l:List W}(h:l≠ []):jn (x::l)=x++32::jn l:=by
 cases l with
 | nil=>exact absurd rfl h
 | cons y r=>rfl
theorem oK {l m:List W}(h:l≠ [])(h':m≠ []):jn (l++m)=jn l++32::jn m:=by
 induction l with
 | nil=>exact absurd rfl h
 | cons x r ih=>
  cases r with
  | nil=>exact jn_cons x h'
  | cons y r=>
   rw[List.cons_append,jn_cons x (by simp),ih (by simp),jn_cons x (by simp),List.append_assoc,List.cons_append]
def letter (c:Nat):Bool:=decide (97<=c)&&decide (c<=122)
def digit (c:Nat):Bool:=decide (48<=c)&&decide (c<=57)
def plain (w:W):Bool:=decide (1<=w.length)&&decide (w.length<=8)&&w.all letter
def val (w:W):Nat:=w.foldl (λa c=>a * 10+(c - 48)) 0
def figs (w:W):Bool:=decide (1<=w.length)&&decide (w.length<=10)&& !(decide (1 < w.length)&&w.head?==some 48)&&w.all digit
def isNum (w:W):Bool:=figs w&&decide (val w<=4294967295)
def bare (told:Bool)(w:W):Bool:=isNum w||(if told=true then three.contains w else plain w)
def isOp (h:W):Bool:= [[43],[45],[42],[60],[61]].contains h
def cl (w:W):Prop:= ∀c∈w,c≠32/\c≠40/\c≠41/\c≠126
theorem jV {w:W}(h:plain w=true):cl w:=by
 intro c hc;unfold plain at h;have h2:=List.all_eq_true.mp (Bool.and_eq_true_iff.mp h).2 c hc;unfold letter at h2;rw[Bool.and_eq_true_iff,decide_eq_true_eq,decide_eq_true_eq]at h2;omega
theorem zku {w:W}(h:figs w=true):cl w:=by
 intro c hc;unfold figs at h;have h2:=List.all_eq_true.mp (Bool.and_eq_true_iff.mp h).2 c hc;unfold digit at h2;rw[Bool.and_eq_true_iff,decide_eq_true_eq,decide_eq_true_eq]at h2;omega
theorem zqm {w:W}(h:three.contains w=true):cl w:=by
 have:w∈three:=by simpa using h
 unfold three at this;rcases List.mem_cons.mp this with rfl | this
 ·unfold cl;decide
 rcases List.mem_cons.mp this with rfl | this
 ·unfold cl;decide
 rcases List.mem_cons.mp this with rfl | this
 ·unfold cl;decide
 ·cases this
theorem kS {told:Bool}{w:W}(h:bare told w=true):cl w:=by
 unfold bare at h;rcases Bool.or_eq_true_iff.mp h with h | h
 ·exact zku (Bool.and_eq_true_iff.mp h).1
 ·cases told with
  | true=>exact zqm h
  | false=>exact jV h
theorem lB {w:W}(h:isOp w=true):cl w:=by
 have:w∈ [[43],[45],[42],[60],[61]]:=by simpa [isOp]using h
 simp only[List.mem_cons,List.not_mem_nil,or_false]at this;rcases this with rfl | rfl | rfl | rfl | rfl <;> (unfold cl;decide)
theorem zbh:cl IFW:=by unfold cl;decide
theorem zlH:cl MANY:=by unfold cl;decide
theorem zl4:cl LONG:=by unfold cl;decide
def V (told til:Bool):T9->Prop
 | .lf w=>bare told w=true∨(til=true/\w= [126])
 | .op h a b=>isOp h=true/\V told til a/\V told til b
 | .if3 a b c=>V told til a/\V told til b/\V told til c
 | .fl h ws=>told=false/\((h=MANY/\∃x y,ws= [x,y]/\plain x=true/\plain y=true)∨(h=LONG/\∃x,ws= [x]/\plain x=true))
def sh:T9->W
 | .lf w=>w
 | .op h a b=>40::(h++32::(sh a++32::(sh b++ [41])))
 | .if3 a b c=>40::(IFW++32::(sh a++32::(sh b++32::(sh c++ [41]))))
 | .fl h ws=>40::(jn (h::ws)++ [41])
def tk:T9->List W
 | .lf w=> [w]
 | .op h a b=> [40]::h::(tk a++(tk b++ [[41]]))
 | .if3 a b c=> [40]::IFW::(tk a++(tk b++(tk c++ [[41]])))
 | .fl h ws=> [40]::h::(ws++ [[41]])
def dp:T9->Nat
 | .lf _=>0
 | .op _ a b=>1+max (dp a) (dp b)
 | .if3 a b c=>1+max (dp a) (max (dp b) (dp c))
 | .fl _ _=>1
def rp (c:Nat):W:=if c=40 then [40,32]else if c=41 then [32,41]else [c]
def rep (w:W):W:=w.flatMap rp
theorem q9 (a b:W):rep (a++b)=rep a++rep b:=by unfold rep;exact List.flatMap_append
theorem vO (c:Nat)(b:W):rep (c::b)=rp c++rep b:=rfl
theorem i6 {w:W}(h: ∀c∈w,c≠40/\c≠41):rep w=w:=by
 induction w with
 | nil=>rfl
 | cons c r ih=>
  have:=h c (List.mem_cons_self ..);rw[vO,ih λd hd=>h d (List.mem_cons_of_mem _ hd)];unfold rp;rw[if_neg this.1,if_neg this.2];rfl
theorem sY (t:T9):tk t≠ []:=by cases t <;> simp[tk]
theorem p9: ∀{l:List W},(∀w∈l,cl w)->∀c∈jn l,c≠40/\c≠41/\c≠126
 | [],_,c,hc=>by cases hc
 | [x],h,c,hc=>by have:=h x (List.mem_cons_self ..) c hc;exact⟨this.2.1,this.2.2.1,this.2.2.2⟩
 | x::y::r,h,c,hc=>by
  rw[jn_cons x (by simp)]at hc;rcases List.mem_append.mp hc with hc | hc
  ·have:=h x (List.mem_cons_self ..) c hc;exact⟨this.2.1,this.2.2.1,this.2.2.2⟩
  ·rcases List.mem_cons.mp hc with rfl | hc
   ·decide
   ·exact p9 (λw hw=>h w (List.mem_cons_of_mem _ hw)) c hc
theorem V.lf_cl {told til:Bool}{w:W}(h:V told til (.lf w)): ∀c∈w,c≠32/\c≠40/\c≠41:=by
 rcases h with h | ⟨_,rfl⟩
 ·exact λc hc=>let z:=kS h c hc;⟨z.1,z.2.1,z.2.2.1⟩
 ·decide
theorem V.fl_cl {told til:Bool}{h:W}{ws:List W}(v:V told til (.fl h ws)):(∀w∈h::ws,cl w)/\ws≠ []:=by
 obtain⟨_,⟨rfl,x,y,rfl,hx,hy⟩ | ⟨rfl,x,rfl,hx⟩⟩:=v
 ·refine⟨λw hw=> ?_,by simp⟩
  rcases List.mem_cons.mp hw with rfl | hw
  ·exact zlH
  rcases List.mem_cons.mp hw with rfl | hw
  ·exact jV hx
  rw[List.mem_singleton.mp hw];exact jV hy
 ·refine⟨λw hw=> ?_,by simp⟩
  rcases List.mem_cons.mp hw with rfl | hw
  ·exact zl4
  rw[List.mem_singleton.mp hw];exact jV hx
theorem zcl:rep [41]= [32,41]:=rfl
theorem pQ {told til:Bool} : ∀t,V told til t->rep (sh t)=jn (tk t)/\∀w∈tk t,32∉w
 | .lf w,h=>⟨i6 λc hc=>(h.lf_cl c hc).2,λx hx=>by rw[List.mem_singleton.mp hx];exact λz=>(h.lf_cl 32 z).1 rfl⟩
 | .op h a b,⟨ho,va,vb⟩=>by
  obtain⟨ea,na⟩:=pQ a va;obtain⟨eb,nb⟩:=pQ b vb;have hc:=lB ho;constructor
  ·show rep (40::(h++32::(sh a++32::(sh b++ [41]))))=jn ([40]::h::(tk a++(tk b++ [[41]])))
   rw[jn_cons _ (by simp),jn_cons _ (by simp[sY]),oK (sY a) (by simp),oK (sY b) (by simp),<- ea,<- eb];rw[vO,q9,i6 (w:=h) λc hc'=>⟨(hc c hc').2.1,(hc c hc').2.2.1⟩,vO,q9,vO,q9,zcl];simp[rp,jn]
  ·intro w hw
   simp only[tk,List.mem_cons,List.mem_append,List.not_mem_nil,or_false]at hw;rcases hw with rfl | rfl | hw | hw | rfl
   ·decide
   ·exact λz=>(hc 32 z).1 rfl
   ·exact na w hw
   ·exact nb w hw
   ·decide
 | .if3 a b c,⟨va,vb,vc⟩=>by
  obtain⟨ea,na⟩:=pQ a va;obtain⟨eb,nb⟩:=pQ b vb;obtain⟨ec,nc⟩:=pQ c vc;constructor
  ·show rep (40::(IFW++32::(sh a++32::(sh b++32::(sh c++ [41])))))=jn ([40]::IFW::(tk a++(tk b++(tk c++ [[41]]))))
   rw[jn_cons _ (by simp),jn_cons _ (by simp[sY]),oK (sY a) (by simp[sY]),oK (sY b) (by simp),oK (sY c) (by simp),<- ea,<- eb,<- ec];rw[vO,q9,i6 (w:=IFW) (by decide),vO,q9,vO,q9,vO,q9,zcl];simp[rp,jn]
  ·intro w hw
   simp only[tk,List.mem_cons,List.mem_append,List.not_mem_nil,or_false]at hw;rcases hw with rfl | rfl | hw | hw | hw | rfl
   ·decide
   ·decide
   ·exact na w hw
   ·exact nb w hw
   ·exact nc w hw
   ·decide
 | .fl h ws,v=>by
  obtain⟨hc,ne⟩:=v.fl_cl;constructor
  ·show rep (40::(jn (h::ws)++ [41]))=jn ([40]::h::(ws++ [[41]]))
   rw[jn_cons (l:=h::(ws++ [[41]])) _ (by simp),show h::(ws++ [[41]])=(h::ws)++ [[41]]from rfl,oK (l:=h::ws) (m:= [[41]]) (by simp) (by simp)];rw[vO,q9,i6 λc hc'=>⟨(p9 hc c hc').1,(p9 hc c hc').2.1⟩,zcl];simp[rp,show jn [[41]]= [41]from rfl]
  ·intro w hw
   rcases List.mem_cons.mp hw with rfl | hw
   ·decide
   rw[show h::(ws++ [[41]])=(h::ws)++ [[41]]from rfl]at hw;rcases List.mem_append.mp hw with hw | hw
   ·exact λz=>(hc w hw 32 z).1 rfl
   ·rw[List.mem_singleton.mp hw];decide
theorem zhs (y z:W):rep y≠41::z:=by
 cases y with
 | nil=>simp[rep]
 | cons c r=>
  rw[vO];unfold rp
  split
  ·simp
  ·split
   ·simp
   ·rename_i h1 h2;intro e;exact h2 (List.cons.inj e).1
theorem i7: ∀x y:W,rep x=rep y->x=y
 | [],[],_=>rfl
 | [],c::r,h=>by
  rw[vO]at h;unfold rp at h;exfalso
  split at h
  ·simp[rep]at h
  ·split at h <;> simp[rep]at h
 | c::r,[],h=>by
  rw[vO]at h;unfold rp at h;exfalso
  split at h
  ·simp[rep]at h
  ·split at h <;> simp[rep]at h
 | a::x,b::y,h=>by
  rw[vO,vO]at h;unfold rp at h;by_cases a0:a=40
  ·by_cases b0:b=40
   ·rw[if_pos a0,if_pos b0]at h
    rw[a0,b0,i7 x y (List.append_cancel_left h)]
   ·rw[if_pos a0,if_neg b0]at h
    exfalso
    split at h
    ·simp at h
    ·exact b0 (List.cons.inj h).1.symm
  ·by_cases b0:b=40
   ·rw[if_neg a0,if_pos b0]at h
    exfalso
    split at h
    ·simp at h
    ·exact a0 (List.cons.inj h).1
   ·rw[if_neg a0,if_neg b0]at h
    by_cases a1:a=41
    ·by_cases b1:b=41
     ·rw[if_pos a1,if_pos b1]at h
      rw[a1,b1,i7 x y (List.append_cancel_left h)]
     ·rw[if_pos a1,if_neg b1]at h
      exact absurd (List.cons.inj h).2.symm (zhs y _)
    ·by_cases b1:b=41
     ·rw[if_neg a1,if_pos b1]at h
      exact absurd (List.cons.inj h).2 (zhs x _)
     ·rw[if_neg a1,if_neg b1]at h
      have h2:=List.cons.inj h;rw[h2.1,i7 x y h2.2]
def spl:W->List W
 | []=> [[]]
 | c::r=>if c=32 then []::spl r else(match spl r with | []=> [[c]] | x::l=>(c::x)::l)
theorem spl_cons (c:Nat)(r:W):spl (c::r)=if c=32 then []::spl r else(match spl r with | []=> [[c]] | x::l=>(c::x)::l):=rfl
theorem spl_ne (w:W):spl w≠ []:=by
 cases w with
 | nil=>simp[spl]
 | cons c r=>
  rw[spl_cons]
  split
  ·simp
  ·split <;> simp
theorem zhL {w:W}(h:32∉w):spl w= [w]:=by
 induction w with
 | nil=>rfl
 | cons c r ih=>
  rw[spl_cons,if_neg (λz=>h (by rw[z];exact List.mem_cons_self ..)),ih λz=>h (List.mem_cons_of_mem _ z)]
theorem zpF {w r:W}(h:32∉w):spl (w++32::r)=w::spl r:=by
 induction w with
 | nil=>show(if(32:Nat)=32 then []::spl r else _)=_;rw[if_pos rfl]
 | cons c w ih=>
  rw[List.cons_append];rw[spl_cons,if_neg (λz=>h (by rw[z];exact List.mem_cons_self ..)),ih λz=>h (List.mem_cons_of_mem _ z)]
theorem iU: ∀{l:List W},l≠ []->(∀w∈l,32∉w)->spl (jn l)=l
 | [],h,_=>absurd rfl h
 | [x],_,h=>zhL (h x (List.mem_cons_self ..))
 | x::y::r,_,h=>by
  rw[jn_cons x (by simp),zpF (h x (List.mem_cons_self ..)),iU (by simp) λw hw=>h w (List.mem_cons_of_mem _ hw)]
theorem zbs (w:W):jn (spl w)=w:=by
 induction w with
 | nil=>rfl
 | cons c r ih=>
  rw[spl_cons]
  split
  ·rename_i h;rw[jn_cons _ (spl_ne r),ih,h];rfl
  ·split
   ·rename_i e;exact absurd e (spl_ne r)
   ·rename_i x l e
    rw[e]at ih;cases l with
    | nil=>rw[<- ih];rfl
    | cons y l=>rw[jn_cons _ (by simp)]at ih⊢;rw[<- ih];rfl
theorem zpG {l:List W}{w:W}(h:l≠ [])(h1:jn l=w)(h2: ∀x∈l,32∉x):l=spl w:=by rw[<- h1,iU h h2]
def pw:List W->Option (W×List W)
 | []=>none
 | w::r=>if plain w=true then some (w,r)else none
def pN (f:List W->Option (T9×List W)):Nat->List W->Option (List T9×List W)
 | 0,r=>some ([],r)
 | k+1,r=>match f r with | none=>none | some p=>(match pN f k p.2 with | none=>none | some q=>some (p.1::q.1,q.2))
def pI (told:Bool)(f:List W->Option (T9×List W)):List W->Option (T9×List W)
 | []=>none
 | h::r=>if isOp h=true then(match pN f 2 r with | some ([a,b],r1)=>some (.op h a b,r1) | _=>none)
  else if h=IFW then(match pN f 3 r with | some ([a,b,c],r1)=>some (.if3 a b c,r1) | _=>none)
  else if h=MANY/\told=false then(match pw r with | some (x,r1)=>(match pw r1 with | some (y,r2)=>some (.fl h [x,y],r2) | none=>none) | none=>none)
  else if h=LONG/\told=false then(match pw r with | some (x,r1)=>some (.fl h [x],r1) | none=>none)
  else none
theorem pI_cons (told:Bool)(f:List W->Option (T9×List W))(h:W)(r:List W):pI told f (h::r)=if isOp h=true then(match pN f 2 r with | some ([a,b],r1)=>some (.op h a b,r1) | _=>none)
  else if h=IFW then(match pN f 3 r with | some ([a,b,c],r1)=>some (.if3 a b c,r1) | _=>none)
  else if h=MANY/\told=false then(match pw r with | some (x,r1)=>(match pw r1 with | some (y,r2)=>some (.fl h [x,y],r2) | none=>none) | none=>none)
  else if h=LONG/\told=false then(match pw r with | some (x,r1)=>some (.fl h [x],r1) | none=>none)
  else none:=rfl
def pC:Option (T9×List W)->Option (T9×List W)
 | some (t,w::r)=>if w= [41]then some (t,r)else none
 | _=>none
def pT (told:Bool):Nat->List W->Option (T9×List W)
 | _,[]=>none
 | 0,w::r=>if w= [40]then none else if bare told w=true then some (.lf w,r)else none
 | n+1,w::r=>if w= [40]then pC (pI told (pT told n) r)else if bare told w=true then some (.lf w,r)else none
theorem pT_0 (told:Bool)(w:W)(r:List W):pT told 0 (w::r)=if w= [40]then none else if bare told w=true then some (.lf w,r)else none:=rfl
theorem pT_s (told:Bool)(n:Nat)(w:W)(r:List W):pT told (n+1) (w::r)=if w= [40]then pC (pI told (pT told n) r)else if bare told w=true then some (.lf w,r)else none:=rfl
def prd (told:Bool)(x:W):Option T9:=match pT told 20 (spl (rep x))with | some (t,[])=>some t | _=>none
theorem zbM {r:List W}{x:W}{r':List W}(h:pw r=some (x,r')):plain x=true/\r=x::r':=by
 cases r with
 | nil=>cases h
 | cons w r=>
  rw[show pw (w::r)=(if plain w=true then some (w,r)else none)from rfl]at h;by_cases hp:plain w=true
  ·rw[if_pos hp]at h;cases h;exact⟨hp,rfl⟩
  ·rw[if_neg hp]at h;cases h
theorem zbD {told:Bool}{n:Nat}{f:List W->Option (T9×List W)}(hf: ∀r t r',f r=some (t,r')->V told false t/\dp t<=n/\r=tk t++r'): ∀k r ts r',pN f k r=some (ts,r')->ts.length=k/\(∀t∈ts,V told false t/\dp t<=n)/\r=ts.flatMap tk++r'
 | 0,r,ts,r',h=>by cases h;exact⟨rfl,by simp,rfl⟩
 | k+1,r,ts,r',h=>by
  unfold pN at h;cases e1:f r with
  | none=>rw[e1]at h;cases h
  | some p=>
   rw[e1]at h;dsimp only at h;cases e2:pN f k p.2 with
   | none=>rw[e2]at h;cases h
   | some q=>
    rw[e2]at h;cases h;obtain⟨a,b⟩:=p;obtain⟨v,d,e⟩:=hf r a b e1;obtain⟨l,av,e'⟩:=zbD hf k b q.1 q.2 e2;refine⟨by simp[l],λt ht=> ?_,?_⟩
    ·rcases List.mem_cons.mp ht with rfl | ht
     ·exact⟨v,d⟩
     ·exact av t ht
    ·rw[e,e',List.flatMap_cons,List.append_assoc]
theorem znb {told:Bool}{n:Nat}{f:List W->Option (T9×List W)}(hf: ∀r t r',f r=some (t,r')->V told false t/\dp t<=n/\r=tk t++r'){r:List W}{t:T9}{r':List W}(h:pI told f r=some (t,r')):
  V told false t/\dp t<=n+1/\[40]::(r:List W)=(tk t).dropLast++r'/\tk t=(tk t).dropLast++ [[41]]:=by
 cases r with
 | nil=>cases h
 | cons hd r=>
  rw[pI_cons]at h
  split at h
  ·rename_i ho
   split at h
   ·rename_i a b r1 e
    cases h;obtain⟨_,av,e'⟩:=zbD hf 2 _ _ _ e;have va:=av a (by simp);have vb:=av b (by simp);have et:tk (.op hd a b)=([40]::hd::(tk a++tk b))++ [[41]]:=by simp[tk]
    refine⟨⟨ho,va.1,vb.1⟩,?_,?_,?_⟩
    ·have:=va.2;have:=vb.2;show 1+max (dp a) (dp b)<=n+1;omega
    ·rw[et,List.dropLast_concat,e'];simp
    ·rw[et,List.dropLast_concat]
   ·cases h
  split at h
  ·rename_i ho
   subst ho
   split at h
   ·rename_i a b c r1 e
    cases h;obtain⟨_,av,e'⟩:=zbD hf 3 _ _ _ e;have va:=av a (by simp);have vb:=av b (by simp);have vc:=av c (by simp);have et:tk (.if3 a b c)=([40]::IFW::(tk a++(tk b++tk c)))++ [[41]]:=by simp[tk]
    refine⟨⟨va.1,vb.1,vc.1⟩,?_,?_,?_⟩
    ·have:=va.2;have:=vb.2;have:=vc.2;show 1+max (dp a) (max (dp b) (dp c))<=n+1;omega
    ·rw[et,List.dropLast_concat,e'];simp
    ·rw[et,List.dropLast_concat]
   ·cases h
  split at h
  ·rename_i ho
   obtain⟨rfl,ht⟩:=ho
   split at h
   ·rename_i x r1 e1
    split at h
    ·rename_i y r2 e2
     cases h;obtain⟨px,rfl⟩:=zbM e1;obtain⟨py,rfl⟩:=zbM e2;have et:tk (.fl MANY [x,y])=([40]::MANY:: [x,y])++ [[41]]:=rfl;refine⟨⟨ht,.inl ⟨rfl,x,y,rfl,px,py⟩⟩,by show 1<=n+1;omega,?_,?_⟩
     ·rw[et,List.dropLast_concat];rfl
     ·rw[et,List.dropLast_concat]
    ·cases h
   ·cases h
  split at h
  ·rename_i ho
   obtain⟨rfl,ht⟩:=ho
   split at h
   ·rename_i x r1 e1
    cases h;obtain⟨px,rfl⟩:=zbM e1;have et:tk (.fl LONG [x])=([40]::LONG:: [x])++ [[41]]:=rfl;refine⟨⟨ht,.inr ⟨rfl,x,rfl,px⟩⟩,by show 1<=n+1;omega,?_,?_⟩
    ·rw[et,List.dropLast_concat];rfl
    ·rw[et,List.dropLast_concat]
   ·cases h
  ·cases h
theorem zgI (told:Bool): ∀n r t r',pT told n r=some (t,r')->V told false t/\dp t<=n/\r=tk t++r'
 | 0,[],t,r',h=>by cases h
 | n+1,[],t,r',h=>by cases h
 | 0,w::r,t,r',h=>by
  rw[pT_0]at h
  split at h
  ·cases h
  ·split at h
   ·rename_i hb;cases h;exact⟨.inl hb,Nat.le_refl _,rfl⟩
   ·cases h
 | n+1,w::r,t,r',h=>by
  rw[pT_s]at h
  split at h
  ·rename_i hw
   cases e:pI told (pT told n) r with
   | none=>rw[e]at h;cases h
   | some q=>
    obtain⟨t1,r1⟩:=q;rw[e]at h;cases r1 with
    | nil=>cases h
    | cons w1 r1=>
     unfold pC at h;dsimp only at h
     split at h
     ·rename_i hw1
      cases h;obtain⟨v,d,e1,e2⟩:=znb (zgI told n) e;refine⟨v,d,?_⟩;rw[hw,e1,hw1,e2];simp
     ·cases h
  ·split at h
   ·rename_i hb;cases h;exact⟨.inl hb,Nat.zero_le _,rfl⟩
   ·cases h
theorem zjI {w:W}(h:cl w):w≠ [40]:=λz=>(h 40 (by rw[z];simp)).2.1 rfl
theorem oW (told:Bool): ∀t n r',V told false t->dp t<=n->pT told n (tk t++r')=some (t,r')
 | .lf w,n,r',h,_=>by
  rcases h with h | ⟨z,_⟩
  ·have:=zjI (kS h)
   show pT told n (w::r')=_;cases n with
   | zero=>rw[pT_0,if_neg this,if_pos h]
   | succ n=>rw[pT_s,if_neg this,if_pos h]
  ·cases z
 | .op h a b,n,r',⟨ho,va,vb⟩,hd=>by
  have hd':1+max (dp a) (dp b)<=n:=hd;cases n with
  | zero=>omega
  | succ n=>
   have ea:=oW told a n (tk b++([41]::r')) va (by omega);have eb:=oW told b n ([41]::r') vb (by omega);have e2:pN (pT told n) 2 (tk a++(tk b++([41]::r')))=some ([a,b],[41]::r'):=by simp only[pN,ea,eb]
   show pT told (n+1) (([40]::h::(tk a++(tk b++ [[41]])))++r')=_;rw[show(([40]::h::(tk a++(tk b++ [[41]])))++r')= [40]::(h::(tk a++(tk b++([41]::r')))) by simp];rw[pT_s,if_pos rfl,pI_cons,if_pos ho,e2]
   rfl
 | .if3 a b c,n,r',⟨va,vb,vc⟩,hd=>by
  have hd':1+max (dp a) (max (dp b) (dp c))<=n:=hd;cases n with
  | zero=>omega
  | succ n=>
   have ea:=oW told a n (tk b++(tk c++([41]::r'))) va (by omega);have eb:=oW told b n (tk c++([41]::r')) vb (by omega);have ec:=oW told c n ([41]::r') vc (by omega);have e2:pN (pT told n) 3 (tk a++(tk b++(tk c++([41]::r'))))=some ([a,b,c],[41]::r'):=by simp only[pN,ea,eb,ec]
   show pT told (n+1) (([40]::IFW::(tk a++(tk b++(tk c++ [[41]]))))++r')=_;rw[show(([40]::IFW::(tk a++(tk b++(tk c++ [[41]]))))++r')= [40]::(IFW::(tk a++(tk b++(tk c++([41]::r'))))) by simp];rw[pT_s,if_pos rfl,pI_cons,if_neg (by decide),if_pos rfl,e2]
   rfl
 | .fl h ws,n,r',⟨ht,v⟩,hd=>by
  have hd':1<=n:=hd;cases n with
  | zero=>omega
  | succ n=>
   rcases v with⟨rfl,x,y,rfl,px,py⟩ | ⟨rfl,x,rfl,px⟩
   ·show pT told (n+1) ([40]::(MANY::(x::y:: [41]::r')))=_
    rw[pT_s,if_pos rfl,pI_cons,if_neg (by decide),if_neg (by decide),if_pos ⟨rfl,ht⟩];simp only[pw,px,py,if_true]
    rfl
   ·show pT told (n+1) ([40]::(LONG::(x:: [41]::r')))=_
    rw[pT_s,if_pos rfl,pI_cons,if_neg (by decide),if_neg (by decide),if_neg (λz=>by cases z.1),if_pos ⟨rfl,ht⟩];simp only[pw,px,if_true]
    rfl
def Good (told:Bool)(x:W):Prop:= ∃t,V told false t/\dp t<=20/\x=sh t
theorem prd_some {told:Bool}{x:W}{t:T9}(h:prd told x=some t):V told false t/\dp t<=20/\x=sh t:=by
 unfold prd at h
 split at h
 ·rename_i t' e
  cases h;obtain⟨v,d,e1⟩:=zgI told 20 _ _ _ e;refine⟨v,d,i7 _ _ ?_⟩;rw[(pQ t v).1,<- zbs (rep x),e1,List.append_nil]
 ·cases h
theorem znF {told:Bool}{t:T9}(v:V told false t)(d:dp t<=20):prd told (sh t)=some t:=by
 obtain⟨e,n⟩:=pQ t v;unfold prd;rw[e,iU (sY t) n,<- List.append_nil (tk t),oW told t 20 [] v d]
theorem good_iff {told:Bool}{x:W} :Good told x↔∃t,prd told x=some t:=
 ⟨λ⟨t,v,d,e⟩=>⟨t,by rw[e];exact znF v d⟩,λ⟨t,h⟩=>⟨t,prd_some h⟩⟩
def tb (told:Bool)(w:W):Bool:=decide (w= [126])||bare told w
def ins (told:Bool):List W->Bool
 | []=>false
 | h::ws=>if isOp h=true then decide (ws.length=2)&&ws.all (tb told)else if h=IFW then decide (ws.length=3)&&ws.all (tb told)else if told=true then false
  else if h=MANY then decide (ws.length=2)&&ws.all plain else if h=LONG then decide (ws.length=1)&&ws.all plain else false
theorem ins_cons (told:Bool)(h:W)(ws:List W):ins told (h::ws)=if isOp h=true then decide (ws.length=2)&&ws.all (tb told)else if h=IFW then decide (ws.length=3)&&ws.all (tb told)else if told=true then false
  else if h=MANY then decide (ws.length=2)&&ws.all plain else if h=LONG then decide (ws.length=1)&&ws.all plain else false:=rfl
def up (c:Nat):Int:=(if c=40 then 1 else 0) - (if c=41 then 1 else 0)
def dk (d:Int):W->Bool
 | []=>true
 | c::r=>decide (0<=d+up c)&&decide (d+up c<=20)&&dk (d+up c) r
theorem dk_cons (d:Int)(c:Nat)(r:W):dk d (c::r)=(decide (0<=d+up c)&&decide (d+up c<=20)&&dk (d+up c) r):=rfl
theorem o9 {d:Int}{c:Nat}{r:W}(h:c≠40/\c≠41)(h0:0<=d)(h1:d<=20):dk d (c::r)=dk d r:=by
 have e:d+up c=d:=by unfold up;rw[if_neg h.1,if_neg h.2];omega
 rw[dk_cons,e,decide_eq_true h0,decide_eq_true h1];rfl
theorem j2 {w r:W}{d:Int}(h: ∀c∈w,c≠40/\c≠41)(h0:0<=d)(h1:d<=20):dk d (w++r)=dk d r:=by
 induction w with
 | nil=>rfl
 | cons c w ih=>rw[List.cons_append,o9 (h c (List.mem_cons_self ..)) h0 h1,ih λx hx=>h x (List.mem_cons_of_mem _ hx)]
theorem eF {d:Int}{r:W}(h0:0<=d):dk d (40::r)=(decide (d+1<=20)&&dk (d+1) r):=by
 have e:d+up 40=d+1:=by unfold up;rfl
 rw[dk_cons,e,decide_eq_true (show 0<=d+1 by omega)];rfl
theorem eA {d:Int}{r:W}(h0:0<=d)(h1:d<=20):dk (d+1) (41::r)=dk d r:=by
 have e:d+1+up 41=d:=by have:up 41= -1:=rfl;omega
 rw[dk_cons,e,decide_eq_true h0,decide_eq_true h1];rfl
theorem cl2 {w:W}(h:cl w): ∀c∈w,c≠40/\c≠41:=λc hc=>⟨(h c hc).2.1,(h c hc).2.2.1⟩
theorem oA {told til:Bool} : ∀t,V told til t->∀(d:Int) (r:W),0<=d->d<=20->dk d (sh t++r)=(decide (d+dp t<=20)&&dk d r)
 | .lf w,v,d,r,h0,h1=>by
  show dk d (w++r)=(decide (d+((0:Nat):Int)<=20)&&dk d r);rw[j2 (λc hc=>(v.lf_cl c hc).2) h0 h1,decide_eq_true (by omega)];rfl
 | .op h a b,⟨ho,va,vb⟩,d,r,h0,h1=>by
  rw[show sh (.op h a b)++r=40::(h++32::(sh a++32::(sh b++41::r))) by simp[sh],eF h0];show _=(decide (d+((1+max (dp a) (dp b):Nat):Int)<=20)&&dk d r);by_cases hd:d+1<=20
  ·rw[decide_eq_true hd,Bool.true_and,j2 (cl2 (lB ho)) (by omega) hd,o9 (by decide) (by omega) hd,oA a va _ _ (by omega) hd,o9 (by decide) (by omega) hd,oA b vb _ _ (by omega) hd,eA h0 h1]
   cases dk d r with
   | false=>simp
   | true=>
    rw[Bool.and_true,Bool.and_true,<- Bool.decide_and]
    congr 1
    refine propext ⟨λ⟨x,y⟩=>by omega,λx=>by omega⟩
  ·rw[decide_eq_false hd,Bool.false_and,decide_eq_false (by omega),Bool.false_and]
 | .if3 a b c,⟨va,vb,vc⟩,d,r,h0,h1=>by
  rw[show sh (.if3 a b c)++r=40::(IFW++32::(sh a++32::(sh b++32::(sh c++41::r)))) by simp[sh],eF h0];show _=(decide (d+((1+max (dp a) (max (dp b) (dp c)):Nat):Int)<=20)&&dk d r);by_cases hd:d+1<=20
  ·rw[decide_eq_true hd,Bool.true_and,j2 (cl2 zbh) (by omega) hd,o9 (by decide) (by omega) hd,oA a va _ _ (by omega) hd,o9 (by decide) (by omega) hd,oA b vb _ _ (by omega) hd,o9 (by decide) (by omega) hd,oA c vc _ _ (by omega) hd,eA h0 h1]
   cases dk d r with
   | false=>simp
   | true=>
    rw[Bool.and_true,Bool.and_true,<- Bool.decide_and,<- Bool.decide_and]
    congr 1
    refine propext ⟨λ⟨x,y,z⟩=>by omega,λx=>by omega⟩
  ·rw[decide_eq_false hd,Bool.false_and,decide_eq_false (by omega),Bool.false_and]
 | .fl h ws,v,d,r,h0,h1=>by
  rw[show sh (.fl h ws)++r=40::(jn (h::ws)++41::r) by simp[sh],eF h0];show _=(decide (d+((1:Nat):Int)<=20)&&dk d r);by_cases hd:d+1<=20
  ·rw[decide_eq_true hd,j2 (λc hc=>⟨(p9 v.fl_cl.1 c hc).1,(p9 v.fl_cl.1 c hc).2.1⟩) (by omega) hd,eA h0 h1,decide_eq_true (by omega)]
  ·rw[decide_eq_false hd,Bool.false_and,decide_eq_false (by omega),Bool.false_and]
theorem nI {told:Bool} : ∀t,V told false t->126∉sh t
 | .lf w,v,z=>by
  rcases v with v | ⟨q,_⟩
  ·exact(kS v 126 z).2.2.2 rfl
  ·cases q
 | .op h a b,⟨ho,va,vb⟩,z=>by
  simp only[sh,List.mem_cons,List.mem_append,List.not_mem_nil,or_false]at z;rcases z with z | z | z | z | z | z | z
  ·cases z
  ·exact(lB ho 126 z).2.2.2 rfl
  ·cases z
  ·exact nI a va z
  ·cases z
  ·exact nI b vb z
  ·cases z
 | .if3 a b c,⟨va,vb,vc⟩,z=>by
  simp only[sh,List.mem_cons,List.mem_append,List.not_mem_nil,or_false]at z;rcases z with z | z | z | z | z | z | z | z | z
  ·cases z
  ·exact(zbh 126 z).2.2.2 rfl
  ·cases z
  ·exact nI a va z
  ·cases z
  ·exact nI b vb z
  ·cases z
  ·exact nI c vc z
  ·cases z
 | .fl h ws,v,z=>by
  simp only[sh,List.mem_cons,List.mem_append,List.not_mem_nil,or_false]at z;rcases z with z | z | z
  ·cases z
  ·exact(p9 v.fl_cl.1 126 z).2.2 rfl
  ·cases z
theorem qN {told:Bool} : ∀t,V told false t->V told true t
 | .lf w,v=>v.imp id λz=>by cases z.1
 | .op h a b,⟨ho,va,vb⟩=>⟨ho,qN a va,qN b vb⟩
 | .if3 a b c,⟨va,vb,vc⟩=>⟨qN a va,qN b vb,qN c vc⟩
 | .fl h ws,v=>v
theorem o0 {told:Bool} : ∀t,V told true t->126∉sh t->V told false t
 | .lf w,v,n=>v.elim .inl λz=>absurd (by rw[z.2];exact List.mem_singleton.mpr rfl) n
 | .op h a b,⟨ho,va,vb⟩,n=>by
  simp only[sh,List.mem_cons,List.mem_append,List.not_mem_nil,or_false,not_or]at n;exact⟨ho,o0 a va n.2.2.2.1,o0 b vb n.2.2.2.2.2.1⟩
 | .if3 a b c,⟨va,vb,vc⟩,n=>by
  simp only[sh,List.mem_cons,List.mem_append,List.not_mem_nil,or_false,not_or]at n;exact⟨o0 a va n.2.2.2.1,o0 b vb n.2.2.2.2.2.1,o0 c vc n.2.2.2.2.2.2.2.1⟩
 | .fl h ws,v,_=>v
def G (told:Bool)(x:W):Prop:= ∃t,V told true t/\x=sh t
theorem good_G {told:Bool}{x:W} :Good told x↔126∉x/\dk 0 x=true/\G told x:=by
 have key: ∀t,V told true t->dk 0 (sh t)=decide (((0:Int)+dp t)<=20):=λt v=>by
  have:=oA t v 0 [] (by omega) (by omega);rw[List.append_nil]at this;rw[this];show(_&&true)=_;rw[Bool.and_true]
 constructor
 ·rintro⟨t,v,d,rfl⟩
  refine⟨nI t v,?_,t,qN t v,rfl⟩;rw[key t (qN t v)];exact decide_eq_true (by omega)
 ·rintro⟨n,d,t,v,rfl⟩
  rw[key t v,decide_eq_true_eq]at d;exact⟨t,o0 t v n,by omega,rfl⟩
theorem uN {told:Bool}{w:W} :tb told w=true↔V told true (.lf w):=by
 show(decide (w= [126])||bare told w)=true↔(bare told w=true∨(true=true/\w= [126]));rw[Bool.or_eq_true,decide_eq_true_eq];constructor
 ·rintro(h | h)
  ·exact .inr ⟨rfl,h⟩
  ·exact .inl h
 ·rintro(h | ⟨_,h⟩)
  ·exact .inr h
  ·exact .inl h
theorem zpt {told til:Bool}(t:T9)(v:V told til t)(h:40∉sh t): ∃w,t= .lf w:=by
 cases t with
 | lf w=>exact⟨w,rfl⟩
 | _=>exact absurd (List.mem_cons_self ..) h
theorem G_leaf {told:Bool}{x:W}(h:40∉x):G told x↔∃w,spl x= [w]/\tb told w=true:=by
 constructor
 ·rintro⟨t,v,rfl⟩
  obtain⟨w,rfl⟩:=zpt t v h;exact⟨w,zhL λz=>(v.lf_cl 32 z).1 rfl,uN.mpr v⟩
 ·rintro⟨w,e,ht⟩
  refine⟨.lf w,uN.mp ht,?_⟩;rw[<- zbs x,e];rfl
theorem ziJ {told:Bool}{h:W}{ws:List W}(i:ins told (h::ws)=true): ∃s,V told true s/\sh s=40::(jn (h::ws)++ [41]):=by
 rw[ins_cons]at i
 split at i
 ·rename_i ho
  rw[Bool.and_eq_true,decide_eq_true_eq]at i;obtain⟨l,a⟩:=i
  match ws,l,a with
  | [x,y],_,a=>
   rw[List.all_eq_true]at a;exact⟨.op h (.lf x) (.lf y),⟨ho,uN.mp (a x (by simp)),uN.mp (a y (by simp))⟩,by simp[sh,jn]⟩
 split at i
 ·rename_i ho
  subst ho;rw[Bool.and_eq_true,decide_eq_true_eq]at i;obtain⟨l,a⟩:=i
  match ws,l,a with
  | [x,y,z],_,a=>
   rw[List.all_eq_true]at a;exact⟨.if3 (.lf x) (.lf y) (.lf z),⟨uN.mp (a x (by simp)),uN.mp (a y (by simp)),uN.mp (a z (by simp))⟩,by simp[sh,jn]⟩
 split at i
 ·cases i
 rename_i ht;have ht:told=false:=by simpa using ht
 split at i
 ·rename_i ho
  subst ho;rw[Bool.and_eq_true,decide_eq_true_eq]at i;obtain⟨l,a⟩:=i
  match ws,l,a with
  | [x,y],_,a=>
   rw[List.all_eq_true]at a;exact⟨.fl MANY [x,y],⟨ht,.inl ⟨rfl,x,y,rfl,a x (by simp),a y (by simp)⟩⟩,rfl⟩
 split at i
 ·rename_i ho
  subst ho;rw[Bool.and_eq_true,decide_eq_true_eq]at i;obtain⟨l,a⟩:=i
  match ws,l,a with
  | [x],_,a=>
   rw[List.all_eq_true]at a;exact⟨.fl LONG [x],⟨ht,.inr ⟨rfl,x,rfl,a x (by simp)⟩⟩,rfl⟩
 ·cases i
theorem sH {c:Nat} : ∀{P Q A C:W},c∉P->P++Q=A++c::C->∃A2,A=P++A2/\Q=A2++c::C
 | [],Q,A,C,_,e=>⟨A,rfl,e⟩
 | p::P,Q,[],C,n,e=>absurd (by rw[List.cons_append,List.nil_append]at e;rw[(List.cons.inj e).1];exact List.mem_cons_self ..) n
 | p::P,Q,a::A,C,n,e=>by
  rw[List.cons_append,List.cons_append]at e;obtain⟨e1,e2⟩:=List.cons.inj e;obtain⟨A2,h1,h2⟩:=sH (λz=>n (List.mem_cons_of_mem _ z)) e2;exact⟨A2,by rw[e1,h1];rfl,h2⟩
theorem oP {c:Nat} : ∀{P Q A C:W},P++Q=A++c::C->(∃C1,P=A++c::C1/\C=C1++Q)∨∃A2,A=P++A2/\Q=A2++c::C
 | [],Q,A,C,e=> .inr ⟨A,rfl,e⟩
 | p::P,Q,[],C,e=>by
  obtain⟨e1,e2⟩:=List.cons.inj (show p::(P++Q)=c::C from e);exact .inl ⟨P,by rw[e1];rfl,e2.symm⟩
 | p::P,Q,a::A,C,e=>by
  obtain⟨e1,e2⟩:=List.cons.inj (show p::(P++Q)=a::(A++c::C)from e);rcases oP e2 with⟨C1,h1,h2⟩ | ⟨A2,h1,h2⟩
  ·exact .inl ⟨C1,by rw[e1,h1];rfl,h2⟩
  ·exact .inr ⟨A2,by rw[e1,h1];rfl,h2⟩
theorem pY {told:Bool}{s:T9}(vs:V told true s): ∀t,V told true t->∀A C,sh t=A++126::C->∃t',V told true t'/\sh t'=A++(sh s++C)
 | .lf w,v,A,C,e=>by
  have e:w=A++126::C:=e;rcases v with v | ⟨_,rfl⟩
  ·exact absurd rfl (kS v 126 (by rw[e];simp)).2.2.2
  ·cases A with
   | nil=>cases e;exact⟨s,vs,by simp⟩
   | cons a A=>exact absurd (congrArg List.length e) (by simp)
 | .op h a b,⟨ho,va,vb⟩,A,C,e0=>by
  have e:(40::(h++ [32]))++(sh a++(([32]:W)++(sh b++ [41])))=A++126::C:=by rw[<- e0];simp[sh]
  have n1:126∉40::(h++ [32]):=λz=>by
   simp only[List.mem_cons,List.mem_append,List.not_mem_nil,or_false]at z;rcases z with z | z | z
   ·cases z
   ·exact(lB ho 126 z).2.2.2 rfl
   ·cases z
  obtain⟨A2,q,f1⟩:=sH n1 e;subst q;rcases oP f1 with⟨C1,e1,q⟩ | ⟨A3,q,f2⟩
  all_goals subst q
  ·obtain⟨t',v',e'⟩:=pY vs a va _ _ e1
   exact⟨.op h t' b,⟨ho,v',vb⟩,by simp[sh,e']⟩
  ·obtain⟨A4,q,f3⟩:=sH (P:= [32]) (by decide) f2
   subst q;rcases oP f3 with⟨C1,e1,q⟩ | ⟨A5,q,f4⟩
   all_goals subst q
   ·obtain⟨t',v',e'⟩:=pY vs b vb _ _ e1
    exact⟨.op h a t',⟨ho,va,v'⟩,by simp[sh,e']⟩
   ·obtain⟨A6,_,f5⟩:=sH (P:= [41]) (Q:= []) (by decide) f4
    exact absurd (congrArg List.length f5) (by simp)
 | .if3 a b c,⟨va,vb,vc⟩,A,C,e0=>by
  have e:(40::(IFW++ [32]))++(sh a++(([32]:W)++(sh b++(([32]:W)++(sh c++ [41])))))=A++126::C:=by rw[<- e0];simp[sh]
  obtain⟨A2,q,f1⟩:=sH (by decide) e;subst q;rcases oP f1 with⟨C1,e1,q⟩ | ⟨A3,q,f2⟩
  all_goals subst q
  ·obtain⟨t',v',e'⟩:=pY vs a va _ _ e1
   exact⟨.if3 t' b c,⟨v',vb,vc⟩,by simp[sh,e']⟩
  ·obtain⟨A4,q,f3⟩:=sH (P:= [32]) (by decide) f2
   subst q;rcases oP f3 with⟨C1,e1,q⟩ | ⟨A5,q,f4⟩
   all_goals subst q
   ·obtain⟨t',v',e'⟩:=pY vs b vb _ _ e1
    exact⟨.if3 a t' c,⟨va,v',vc⟩,by simp[sh,e']⟩
   ·obtain⟨A6,q,f5⟩:=sH (P:= [32]) (by decide) f4
    subst q;rcases oP f5 with⟨C1,e1,q⟩ | ⟨A7,q,f6⟩
    all_goals subst q
    ·obtain⟨t',v',e'⟩:=pY vs c vc _ _ e1
     exact⟨.if3 a b t',⟨va,vb,v'⟩,by simp[sh,e']⟩
    ·obtain⟨A8,_,f7⟩:=sH (P:= [41]) (Q:= []) (by decide) f6
     exact absurd (congrArg List.length f7) (by simp)
 | .fl h ws,v,A,C,e=>by
  exfalso;have:126∈sh (.fl h ws):=by rw[e];simp
  simp only[sh,List.mem_cons,List.mem_append,List.not_mem_nil,or_false]at this;rcases this with z | z | z
  ·cases z
  ·exact(p9 v.fl_cl.1 126 z).2.2 rfl
  ·cases z
def fU (w:W):Prop:= ∀c∈w,c≠32/\c≠40/\c≠41
theorem fV {w:W}(h:cl w):fU w:=λc hc=>⟨(h c hc).1,(h c hc).2.1,(h c hc).2.2.1⟩
def Out (told:Bool)(t:T9):Prop:= ∃(A h:W) (ws:List W) (C:W) (t':T9),sh t=A++40::(jn (h::ws)++41::C)/\40∉C/\(∀w∈h::ws,fU w)/\ins told (h::ws)=true/\V told true t'/\sh t'=A++126::C
theorem mS {told til:Bool}{w:W}(v:V told til (.lf w)):40∉w:=λz=>(v.lf_cl 40 z).2.1 rfl
theorem pX {told:Bool} : ∀t,V told true t->(∃w,t= .lf w)∨Out told t
 | .lf w,_=> .inl ⟨w,rfl⟩
 | .op h a b,⟨ho,va,vb⟩=> .inr (by
  rcases pX b vb with⟨wb,rfl⟩ | ⟨A,h',ws,C,t',e1,e2,e3,e4,e5,e6⟩
  ·rcases pX a va with⟨wa,rfl⟩ | ⟨A,h',ws,C,t',e1,e2,e3,e4,e5,e6⟩
   ·refine⟨[],h,[wa,wb],[],.lf [126],by simp[sh,jn],by simp,λw hw=> ?_,?_,.inr ⟨rfl,rfl⟩,rfl⟩
    ·simp only[List.mem_cons,List.not_mem_nil,or_false]at hw
     rcases hw with rfl | rfl | rfl
     ·exact fV (lB ho)
     ·exact va.lf_cl
     ·exact vb.lf_cl
    ·rw[ins_cons,if_pos ho]
     simp[uN.mpr va,uN.mpr vb]
   ·refine⟨40::(h++32::A),h',ws,C++32::(wb++ [41]),.op h t' (.lf wb),by simp[sh,e1],?_,e3,e4,⟨ho,e5,vb⟩,by simp[sh,e6]⟩
    simp only[List.mem_append,List.mem_cons,List.not_mem_nil,or_false,not_or];exact⟨e2,by decide,mS vb,by decide⟩
  ·refine⟨40::(h++32::(sh a++32::A)),h',ws,C++ [41],.op h a t',by simp[sh,e1],?_,e3,e4,⟨ho,va,e5⟩,by simp[sh,e6]⟩
   simp only[List.mem_append,List.mem_cons,List.not_mem_nil,or_false,not_or];exact⟨e2,by decide⟩)
 | .if3 a b c,⟨va,vb,vc⟩=> .inr (by
  rcases pX c vc with⟨wc,rfl⟩ | ⟨A,h',ws,C,t',e1,e2,e3,e4,e5,e6⟩
  ·rcases pX b vb with⟨wb,rfl⟩ | ⟨A,h',ws,C,t',e1,e2,e3,e4,e5,e6⟩
   ·rcases pX a va with⟨wa,rfl⟩ | ⟨A,h',ws,C,t',e1,e2,e3,e4,e5,e6⟩
    ·refine⟨[],IFW,[wa,wb,wc],[],.lf [126],by simp[sh,jn],by simp,λw hw=> ?_,?_,.inr ⟨rfl,rfl⟩,rfl⟩
     ·simp only[List.mem_cons,List.not_mem_nil,or_false]at hw
      rcases hw with rfl | rfl | rfl | rfl
      ·exact fV zbh
      ·exact va.lf_cl
      ·exact vb.lf_cl
      ·exact vc.lf_cl
     ·rw[ins_cons,if_neg (by decide),if_pos rfl]
      simp[uN.mpr va,uN.mpr vb,uN.mpr vc]
    ·refine⟨40::(IFW++32::A),h',ws,C++32::(wb++32::(wc++ [41])),.if3 t' (.lf wb) (.lf wc),by simp[sh,e1],?_,e3,e4,⟨e5,vb,vc⟩,by simp[sh,e6]⟩
     simp only[List.mem_append,List.mem_cons,List.not_mem_nil,or_false,not_or];exact⟨e2,by decide,mS vb,by decide,mS vc,by decide⟩
   ·refine⟨40::(IFW++32::(sh a++32::A)),h',ws,C++32::(wc++ [41]),.if3 a t' (.lf wc),by simp[sh,e1],?_,e3,e4,⟨va,e5,vc⟩,by simp[sh,e6]⟩
    simp only[List.mem_append,List.mem_cons,List.not_mem_nil,or_false,not_or];exact⟨e2,by decide,mS vc,by decide⟩
  ·refine⟨40::(IFW++32::(sh a++32::(sh b++32::A))),h',ws,C++ [41],.if3 a b t',by simp[sh,e1],?_,e3,e4,⟨va,vb,e5⟩,by simp[sh,e6]⟩
   simp only[List.mem_append,List.mem_cons,List.not_mem_nil,or_false,not_or];exact⟨e2,by decide⟩)
 | .fl h ws,v=> .inr (by
  refine⟨[],h,ws,[],.lf [126],by simp[sh],by simp,λw hw=>fV (v.fl_cl.1 w hw),?_,.inr ⟨rfl,rfl⟩,rfl⟩;obtain⟨rfl,⟨rfl,x,y,rfl,hx,hy⟩ | ⟨rfl,x,rfl,hx⟩⟩:=v
  ·rw[ins_cons,if_neg (by decide),if_neg (by decide),if_neg (by decide),if_pos rfl]
   simp[hx,hy]
  ·rw[ins_cons,if_neg (by decide),if_neg (by decide),if_neg (by decide),if_neg (by decide),if_pos rfl]
   simp[hx])
theorem zga {c:Nat} : ∀{A B A' B':W},A++c::B=A'++c::B'->c∉B->c∉B'->A=A'/\B=B'
 | [],B,[],B',e,_,_=>⟨rfl,(List.cons.inj e).2⟩
 | [],B,a::A',B',e,n,_=>absurd (by rw[(List.cons.inj (show c::B=a::(A'++c::B')from e)).2];simp) n
 | a::A,B,[],B',e,_,n=>absurd (by rw[<- (List.cons.inj (show a::(A++c::B)=c::B' from e)).2];simp) n
 | a::A,B,a'::A',B',e,n,n'=>by
  obtain⟨e1,e2⟩:=List.cons.inj (show a::(A++c::B)=a'::(A'++c::B')from e);obtain⟨h1,h2⟩:=zga e2 n n';exact⟨by rw[e1,h1],h2⟩
theorem zkw {c:Nat}{I C I' C':W}(e:I++c::C=I'++c::C')(n:c∉I)(n':c∉I'):I=I'/\C=C':=by
 obtain⟨A2,rfl,h⟩:=sH n e;cases A2 with
 | nil=>exact⟨by simp,(List.cons.inj h).2⟩
 | cons a A2=>exact absurd (by rw[<- (List.cons.inj (show c::C=a::(A2++c::C')from h)).1];simp) n'
theorem zdi {told:Bool}{A B:W}(h:40∉B)(g:G told (A++40::B)): ∃(w:W) (ws:List W) (C:W),B=jn (w::ws)++41::C/\41∉jn (w::ws)/\spl (jn (w::ws))=w::ws/\ins told (w::ws)=true/\G told (A++126::C):=by
 obtain⟨t,v,e⟩:=g;rcases pX t v with⟨w,rfl⟩ | ⟨A',w,ws,C,t',e1,e2,e3,e4,e5,e6⟩
 ·exact absurd (by show 40∈sh (.lf w);rw[<- e];simp) (mS v)
 ·have n41: ∀c∈jn (w::ws),c≠40/\c≠41:=by
   intro c hc;have: ∀{l:List W},(∀w∈l,fU w)->∀c∈jn l,c≠40/\c≠41:=by
    intro l
    induction l with
    | nil=>intro _ c hc;cases hc
    | cons x l ih=>
     intro h c hc;cases l with
     | nil=>exact(h x (List.mem_cons_self ..) c hc).2
     | cons y l=>
      rw[jn_cons x (by simp)]at hc;rcases List.mem_append.mp hc with hc | hc
      ·exact(h x (List.mem_cons_self ..) c hc).2
      ·rcases List.mem_cons.mp hc with rfl | hc
       ·decide
       ·exact ih (λw hw=>h w (List.mem_cons_of_mem _ hw)) c hc
   exact this e3 c hc
  have nB:40∉jn (w::ws)++41::C:=by
   simp only[List.mem_append,List.mem_cons,not_or];exact⟨λz=>(n41 40 z).1 rfl,by decide,e2⟩
  obtain⟨rfl,rfl⟩:=zga (e.trans e1) h nB;exact⟨w,ws,C,rfl,λz=>(n41 41 z).2 rfl,iU (by simp) λx hx z=>(e3 x hx 32 z).1 rfl,e4,t',e5,e6.symm⟩
theorem G_iff {told:Bool}{A I C:W}(h:40∉I++41::C)(hi:41∉I):G told (A++40::(I++41::C))↔ins told (spl I)=true/\G told (A++126::C):=by
 constructor
 ·intro g
  obtain⟨w,ws,C',e,n,es,ei,g'⟩:=zdi h g;obtain⟨rfl,rfl⟩:=zkw e hi n;rw[es];exact⟨ei,g'⟩
 ·rintro⟨i,t,v,e⟩
  cases es:spl I with
  | nil=>exact absurd es (spl_ne I)
  | cons w ws=>
   rw[es]at i;obtain⟨s,vs,ess⟩:=ziJ i;obtain⟨t',v',e'⟩:=pY vs t v A C e.symm;refine⟨t',v',?_⟩;rw[e',ess,<- es,zbs];simp
theorem G_no {told:Bool}{A B:W}(h:40∉B)(h':41∉B): ¬ G told (A++40::B):=λg=>by
 obtain⟨w,ws,C,e,_⟩:=zdi h g;exact h' (by rw[e];simp)
open PySem
theorem val_snoc (r:W)(c:Nat):val (r++ [c])=val r * 10+(c - 48):=by unfold val;rw[List.foldl_append];rfl
theorem digs_snoc {m d:Nat}(hm:0 < m)(hd:d < 10):Nat.toDigits 10 (m * 10+d)=Nat.toDigits 10 m++ [Nat.digitChar d]:=by
 have t:=Nat.toDigits_append_toDigits (b:=10) (n:=m) (d:=d) (by decide) hm hd;rw[Nat.toDigits_of_lt_base hd,Nat.mul_comm 10 m]at t;exact t.symm
theorem e9: ∀d:Nat,d < 10->(Nat.digitChar d).toNat=d+48:=by decide
theorem snoc_ind {P:W->Prop}(h0:P [])(h1: ∀r c,P r->P (r++ [c]))(w:W):P w:=by
 have: ∀n (w:W),w.length=n->P w:=by
  intro n
  induction n with
  | zero=>intro w h;rw[List.length_eq_zero_iff.mp h];exact h0
  | succ n ih=>
   intro w h;have ne:w≠ []:=λz=>by rw[z]at h;cases h
   rw[<- List.dropLast_concat_getLast ne];exact h1 _ _ (ih _ (by rw[List.length_dropLast];omega))
 exact this _ w rfl
theorem zqM (w:W):w≠ []->w.all digit=true->w.head?≠some 48->0 < val w:=by
 refine snoc_ind (P:=λw=>w≠ []->w.all digit=true->w.head?≠some 48->0 < val w) (λh=>absurd rfl h) (λr c ih _ ha hh=> ?_) w;rw[val_snoc];rw[List.all_append,Bool.and_eq_true]at ha;cases r with
 | nil=>
  have hc:digit c=true:=by simpa using ha.2
  unfold digit at hc;rw[Bool.and_eq_true,decide_eq_true_eq,decide_eq_true_eq]at hc;have:c≠48:=λz=>hh (by rw[z];rfl);omega
 | cons a r=>
  have:=ih (by simp) ha.1 (by simpa using hh);omega
theorem fD (w:W):w≠ []->w.all digit=true->¬ (1 < w.length/\w.head?=some 48)->(Nat.toDigits 10 (val w)).map Char.toNat=w:=by
 refine snoc_ind (P:=λw=>w≠ []->w.all digit=true->¬ (1 < w.length/\w.head?=some 48)->(Nat.toDigits 10 (val w)).map Char.toNat=w) (λh=>absurd rfl h) (λr c ih _ ha hh=> ?_) w;rw[List.all_append,Bool.and_eq_true]at ha;have hc:digit c=true:=by simpa using ha.2
 unfold digit at hc;rw[Bool.and_eq_true,decide_eq_true_eq,decide_eq_true_eq]at hc;rw[val_snoc];cases r with
 | nil=>
  show(Nat.toDigits 10 (0 * 10+(c - 48))).map Char.toNat= [c];rw[Nat.zero_mul,Nat.zero_add,Nat.toDigits_of_lt_base (by omega)];show [(Nat.digitChar (c - 48)).toNat]= [c];rw[e9 _ (by omega)]
  congr 1;omega
 | cons a r=>
  have h1:(a::r).head?≠some 48:=λz=>hh ⟨by simp,by simpa using z⟩;rw[digs_snoc (zqM _ (by simp) ha.1 h1) (by omega),List.map_append,ih (by simp) ha.1 λz=>h1 z.2];show _++ [(Nat.digitChar (c - 48)).toNat]=_;rw[e9 _ (by omega)]
  congr 2;omega
theorem zkb: ∀m,0 < m->∃d r,Nat.toDigits 10 m=Nat.digitChar d::r/\0 < d/\d < 10:=by
 intro m
 induction m using Nat.strongRecOn with
 | _ m ih=>
  intro h;by_cases h10:m < 10
  ·exact⟨m,[],Nat.toDigits_of_lt_base h10,h,h10⟩
  ·obtain⟨d,r,e,h1,h2⟩:=ih (m / 10) (by omega) (by omega)
   have e2:m=m / 10 * 10+m % 10:=by omega
   exact⟨d,r++ [Nat.digitChar (m % 10)],by have z:=digs_snoc (m:=m / 10) (d:=m % 10) (by omega) (by omega);rw[<- e2,e]at z;rw[z];rfl,h1,h2⟩
theorem zju {w:W}(h:1 < w.length/\w.head?=some 48)(e:(Nat.toDigits 10 (val w)).map Char.toNat=w):False:=by
 by_cases hm:val w=0
 ·rw[hm]at e
  have:w= [48]:=e.symm;rw[this]at h;exact absurd h.1 (by decide)
 ·obtain⟨d,r,e1,h1,h2⟩:=zkb _ (Nat.pos_of_ne_zero hm)
  rw[e1]at e;have:w.head?=some (Nat.digitChar d).toNat:=by rw[<- e];rfl
  rw[h.2,e9 d h2]at this;have:=Option.some.inj this;omega
abbrev S (l:W):Str:=⟨l.toArray⟩
theorem S_l (l:W):(S l).cps.toList=l:=by simp
theorem l_S (x:Str):S x.cps.toList=x:=by cases x;simp
theorem S_inj {a b:W}(h:S a=S b):a=b:=by rw[<- S_l a,h,S_l]
theorem S_len (l:W):(S l).length=l.length:=by simp[Str.length]
theorem S_app (a b:W):S a++S b=S (a++b):=Str.ext' (by rw[Str.cps_append];simp)
theorem zjf {w:W} :w.all digit=true↔NumText.AllDigits w:=by
 rw[List.all_eq_true];refine⟨λh c hc=> ?_,λh c hc=> ?_⟩
 ·have:=h c hc;unfold digit at this;rw[Bool.and_eq_true,decide_eq_true_eq,decide_eq_true_eq]at this;exact this
 ·unfold digit;rw[Bool.and_eq_true,decide_eq_true_eq,decide_eq_true_eq];exact h c hc
theorem int_of {w:W}(h:w.all digit=true)(hn:w≠ [])(hl:w.length<=640):PySem.intText? (S w)=some ((val w:Nat):Int):=by
 rw[intText_digits (x:=S w) (by rw[S_l];exact zjf.mp h) (by rw[S_l];exact hn) (by rw[S_len];omega),S_l]
 rfl
theorem str_of (n:Nat):Str.ofString (toString ((n:Nat):Int))=S ((Nat.toDigits 10 n).map Char.toNat):=by
 rw[<- PySem.W.KIN.signs_num,l_S]
theorem str_back {w:W}(h:figs w=true):Str.ofString (toString ((val w:Nat):Int))=S w:=by
 unfold figs at h;simp only[Bool.and_eq_true,decide_eq_true_eq,Bool.not_eq_true',beq_iff_eq]at h;obtain⟨⟨⟨h1,h2⟩,h3⟩,h4⟩:=h;rw[str_of,fD w (λz=>by rw[z]at h1;cases h1) h4];intro⟨z1,z2⟩;rw[z2,decide_eq_true z1]at h3;cases h3
def numJ (w:W):Bool:=decide (w≠ [])&&decide (w.length<=10)&&w.all digit&&decide (Str.ofString (toString ((val w:Nat):Int))=S w)&&decide (val w<=4294967295)
theorem numJ_eq (w:W):numJ w=isNum w:=by
 unfold numJ isNum
 congr 1
 cases hd:w.all digit with
 | false=>unfold figs;rw[hd];simp
 | true=>
  by_cases hn:w= []
  ·subst hn;rfl
  ·have hl:1<=w.length:=by cases w with | nil=>exact absurd rfl hn | cons a r=>simp
   unfold figs;rw[hd,decide_eq_true hl,decide_eq_true (show w≠ []from hn)];simp only[Bool.true_and,Bool.and_true];cases decide (w.length<=10)with
   | false=>rfl
   | true=>
    simp only[Bool.true_and];by_cases hz:1 < w.length/\w.head?=some 48
    ·rw[decide_eq_true hz.1,hz.2,decide_eq_false]
     ·rfl
     ·intro e
      rw[str_of]at e;exact zju hz (S_inj e)
    ·rw[decide_eq_true]
     ·symm
      rw[Bool.not_eq_true',Bool.and_eq_false_iff];by_cases h1:1 < w.length
      ·right
       exact beq_eq_false_iff_ne.mpr λz=>hz ⟨h1,z⟩
      ·left;exact decide_eq_false h1
     ·rw[str_of,fD w hn hd hz]
theorem split_eq (x:Str):Txt.split x ⟨#[32]⟩=(spl x.cps.toList).map S:=by
 have hj:=StrLaws.join_split x ⟨#[32]⟩;have hf:=StrLaws.split_free x 32;have hp:=PyProof.Rows.split_pos x ⟨#[32]⟩;generalize Txt.split x ⟨#[32]⟩=l at hj hf hp;have jj: ∀l:List Str,(Str.join ⟨#[32]⟩ l).cps.toList=jn (l.map λy=>y.cps.toList):=by
  intro l
  induction l with
  | nil=>rfl
  | cons a r ih=>
   cases r with
   | nil=>rfl
   | cons b r=>
    show((a++⟨#[32]⟩++Str.join ⟨#[32]⟩ (b::r)).cps).toList=_;rw[Str.cps_append,Str.cps_append,List.map_cons,jn_cons _ (by simp),<- ih];simp
 have:=zpG (l:=l.map λy=>y.cps.toList) (w:=x.cps.toList) (by intro z;rw[List.map_eq_nil_iff.mp z]at hp;cases hp) (by rw[<- jj,hj]) (λy hy=>by obtain⟨z,hz,rfl⟩:=List.mem_map.mp hy;exact hf z hz);rw[<- this,List.map_map];have e:(S ∘ λy:Str=>y.cps.toList)=id:=by funext y;exact l_S y
 rw[e,List.map_id]
open Builtin.Str
theorem zc2 (x:Str)(l u:Option Int):Txt.slice x l u=StrLaws.sliceText x l u:=rfl
theorem slice_ss (x:W){a b:Nat}(h1:a<=b)(h2:b<=x.length):Txt.slice (S x) (some (a:Int)) (some (b:Int))=S ((x.drop a).take (b - a)):=by
 rw[zc2,StrLaws.sliceText_nat (S x) h1 (by rw[S_len];exact h2),S_l]
theorem slice_to (x:W){b:Nat}(h2:b<=x.length):Txt.slice (S x) none (some (b:Int))=S (x.take b):=by
 rw[zc2,StrLaws.sliceText_to ⟨by omega,by rw[S_l];omega⟩,S_l,List.drop_zero];rw[show((b:Int) - 0).toNat=b by omega]
theorem slice_from (x:W){a:Nat}(h2:a<=x.length):Txt.slice (S x) (some (a:Int)) none=S (x.drop a):=by
 rw[zc2,StrLaws.sliceText_from ⟨by omega,by rw[S_l];omega⟩,S_l];rw[show((a:Int)).toNat=a by omega,List.take_of_length_le (by rw[List.length_drop];omega)]
theorem has_one (x:W)(c:Nat):(!(occurrences (S x) ⟨#[c]⟩ 0 (S x).length 1).isEmpty)=decide (c∈x):=by
 rw[StrLaws.found_one,S_l]
theorem zbc (c:Nat)(z:W): ∀l:W,c∉l->(l.flatMap λd=>if d=c then z else [d])=l
 | [],_=>rfl
 | a::l,h=>by
  rw[List.flatMap_cons,if_neg (λe=>h (by rw[e];exact List.mem_cons_self ..)),zbc c z l λe=>h (List.mem_cons_of_mem _ e)]
  rfl
theorem zfV (c:Nat)(z:Str): ∀l:List Str,(∀p∈l,c∉p.cps.toList)->(Str.join z l).cps.toList=((Str.join ⟨#[c]⟩ l).cps.toList).flatMap λd=>if d=c then z.cps.toList else [d]
 | [],_=>rfl
 | [x],h=>(zbc c _ _ (h x (List.mem_cons_self ..))).symm
 | x::y::r,h=>by
  have ih:=zfV c z (y::r) λp hp=>h p (List.mem_cons_of_mem _ hp);have h0:=zbc c z.cps.toList _ (h x (List.mem_cons_self ..));show((x++z++Str.join z (y::r)).cps).toList=((x++⟨#[c]⟩++Str.join ⟨#[c]⟩ (y::r)).cps).toList.flatMap _;simp only[Str.cps_append,Array.toList_append,List.flatMap_append,<- ih,h0];simp
theorem zcm (x z:Str)(c:Nat):(Txt.replace x ⟨#[c]⟩ z).cps.toList=x.cps.toList.flatMap λd=>if d=c then z.cps.toList else [d]:=by
 rw[StrLaws.replace_one,zfV c z _ (StrLaws.split_free x c),StrLaws.join_split]
theorem rep_eq (x:W)(a b:Str)(ha:a.cps.toList= [40,32])(hb:b.cps.toList= [32,41]):Txt.replace (Txt.replace (S x) ⟨#[40]⟩ a) ⟨#[41]⟩ b=S (rep x):=by
 rw[<- l_S (Txt.replace _ _ _),zcm,zcm,S_l,ha,hb,List.flatMap_assoc];show S _=S (x.flatMap rp)
 congr 2
 funext d
 unfold rp;by_cases h:d=40
 ·subst h;rfl
 ·rw[if_neg h,if_neg h]
  show(if d=41 then [32,41]else [d])++ []=_;rw[List.append_nil]
theorem zfE: ∀x:W,(x.flatMap λd=>if d=40 then [40,32]else [d]).length<=2 * x.length
 | []=>by simp
 | c::x=>by
  have ih:=zfE x;rw[List.flatMap_cons,List.length_append,List.length_cons];have:(if c=40 then [40,32]else [c]).length<=2:=by split <;> simp
  omega
theorem rep_len1 (x:W)(a:Str)(ha:a.cps.toList= [40,32]):(Txt.replace (S x) ⟨#[40]⟩ a).length<=2 * x.length:=by
 have:(Txt.replace (S x) ⟨#[40]⟩ a).length=((Txt.replace (S x) ⟨#[40]⟩ a).cps.toList).length:=by simp[Str.length]
 rw[this,zcm,S_l,ha];exact zfE x
theorem rep_len (x:W):(rep x).length<=2 * x.length:=by
 induction x with
 | nil=>simp[rep]
 | cons c x ih=>
  rw[vO,List.length_append,List.length_cons];have:(rp c).length<=2:=by unfold rp;split <;> (try split) <;> simp
  omega
theorem last_at {A B:W}{c:Nat}(h:c∉B):(Txt.rpartition (S (A++c::B)) ⟨#[c]⟩).1=S A:=by
 have mH: ∀i,StrLaws.At (S (A++c::B)) ⟨#[c]⟩ (S (A++c::B)).length i↔(A++c::B)[i]?=some c:=λi=>by
  have:=StrLaws.subAt_one (S (A++c::B)) c i;rw[S_l]at this;exact this
 have hA:(A++c::B)[A.length]?=some c:=by rw[List.getElem?_append_right (Nat.le_refl _),Nat.sub_self];rfl
 rcases StrLaws.last_spec (S (A++c::B)) ⟨#[c]⟩with⟨_,n⟩ | ⟨i,e,hi,hn⟩
 ·exact absurd ((mH _).mpr hA) (n _)
 ·have hi:=(mH i).mp hi
  have le:A.length<=i:=by
   rcases Nat.lt_or_ge i A.length with z | z
   ·exact absurd ((mH _).mpr hA) (hn _ z)
   ·exact z
  have:i=A.length:=by
   rcases Nat.lt_or_ge A.length i with z | z
   ·exfalso
    rw[List.getElem?_append_right le,show i - A.length=(i - A.length - 1)+1 by omega,List.getElem?_cons_succ]at hi;exact h (List.mem_of_getElem? hi)
   ·omega
  unfold Txt.rpartition;rw[e,this];show strSub (S (A++c::B)) 0 A.length=S A;rw[<- l_S (strSub _ _ _),StrLaws.strSub_toList,S_l];simp
theorem find_at {A B:W}{c c':Nat}(h:c≠c'):(41:Nat)=41->(Txt.find3 (S (A++c::B)) ⟨#[c']⟩ (A.length:Int)= -1/\c'∉B)∨∃I C,B=I++c'::C/\c'∉I/\Txt.find3 (S (A++c::B)) ⟨#[c']⟩ (A.length:Int)=((A.length+1+I.length:Nat):Int):=λ_=>by
 have fi:fromIndex (S (A++c::B)).length (A.length:Int)=A.length:=by unfold fromIndex;rw[if_neg (by omega)];omega
 have lx:(S (A++c::B)).length=A.length+1+B.length:=by rw[S_len,List.length_append,List.length_cons];omega
 have gd: ∀v,(S (A++c::B)).cps.getD v 0=(A++c::B).getD v 0:=λv=>by simp[Array.getD,List.getD];split <;> simp_all
 have inB: ∀k,(A++c::B).getD (A.length+1+k) 0=B.getD k 0:=λk=>by
  simp only[List.getD];rw[List.getElem?_append_right (by omega),show A.length+1+k - A.length=k+1 by omega,List.getElem?_cons_succ]
 have atA:(A++c::B).getD A.length 0=c:=by
  simp only[List.getD];rw[List.getElem?_append_right (Nat.le_refl _),Nat.sub_self];rfl
 rcases StrLaws.find3_spec (S (A++c::B)) c' (A.length:Int)with⟨e,n⟩ | ⟨k,e,h1,h2,h3,h4⟩
 ·refine .inl ⟨e,λz=> ?_⟩
  obtain⟨k,hk,ek⟩:=List.getElem_of_mem z;refine n (A.length+1+k) (by rw[fi];omega) (by rw[lx];omega) ?_;rw[gd,inB,List.getD,List.getElem?_eq_getElem hk,ek];rfl
 ·rw[fi]at h1 h4
  rw[lx]at h2;rw[gd]at h3;have ne:k≠A.length:=λz=>by rw[z,atA]at h3;exact h h3
  obtain⟨j,rfl⟩: ∃j,k=A.length+1+j:=⟨k - A.length - 1,by omega⟩;rw[inB]at h3;have hj:j < B.length:=by omega
  have e3:B[j]=c':=by rw[List.getD,List.getElem?_eq_getElem hj]at h3;exact h3
  refine .inr ⟨B.take j,B.drop (j+1),?_,λz=> ?_,?_⟩
  ·rw[<- e3,<- List.drop_eq_getElem_cons hj,List.take_append_drop]
  ·obtain⟨i,hi,ei⟩:=List.getElem_of_mem z
   rw[List.length_take]at hi;rw[List.getElem_take]at ei;refine h4 (A.length+1+i) (by omega) (by omega) ?_;rw[gd,inB,List.getD,List.getElem?_eq_getElem (by omega),ei];rfl
  ·rw[e,List.length_take,Nat.min_eq_left (Nat.le_of_lt hj)]
theorem last_dec {x:W}{c:Nat}(h:c∈x): ∃A B,x=A++c::B/\c∉B:=by
 induction x with
 | nil=>cases h
 | cons a x ih=>
  by_cases hx:c∈x
  ·obtain⟨A,B,rfl,n⟩:=ih hx
   exact⟨a::A,B,rfl,n⟩
  ·rcases List.mem_cons.mp h with rfl | h
   ·exact⟨[],x,rfl,hx⟩
   ·exact absurd h hx
end K9
set_option maxHeartbeats 1000000
namespace N09
open PySem L2 L3
def top (i:Nat):Stmt:=PySem.Challenge.pw_copiedhouse_k09_terms_texts.main.body.getD i (.Pass ⟨0,0,0,0⟩)
theorem zjz:bootBuiltins "tuple" =some (.type "tuple"):=by decide+kernel
theorem zjy:bootBuiltins "list" =some (.type "list"):=by decide+kernel
theorem rD:bootBuiltins "int" =some (.type "int"):=by decide+kernel
theorem zjx:bootBuiltins "bool" =some (.type "bool"):=by decide+kernel
theorem o3:bootBuiltins "str" =some (.type "str"):=by decide+kernel
abbrev lR:Stmt:=top 9
theorem zpj:yB ["text"] ["text"] (zR lR):=⟨rfl,rfl,rfl,by decide+kernel,rfl,by decide+kernel,by decide+kernel⟩
abbrev lQ:Stmt:=top 10
theorem zpi:yB ["text","most"] ["text","most"] (zR lQ):=⟨rfl,rfl,rfl,by decide+kernel,rfl,by decide+kernel,by decide+kernel⟩
abbrev iS:Stmt:=top 14
theorem zh6:yB ["piece","least","most","number"] ["piece","least","most"] (zR iS):=⟨rfl,rfl,rfl,by decide+kernel,rfl,by decide+kernel,by decide+kernel⟩
abbrev iX:Stmt:=top 19
theorem zcu:yB ["text","told","pieces","term"] ["text","told"] (zR iX):=⟨rfl,rfl,rfl,by decide+kernel,rfl,by decide+kernel,by decide+kernel⟩
abbrev lU:Stmt:=top 20
theorem lP:yB ["pieces","told","around","piece","term"] ["pieces","told","around"] (zR lU):=⟨rfl,rfl,rfl,by decide+kernel,rfl,by decide+kernel,by decide+kernel⟩
abbrev iV:Stmt:=top 21
theorem zpk:yB ["piece","told"] ["piece","told"] (zR iV):=⟨rfl,rfl,rfl,by decide+kernel,rfl,by decide+kernel,by decide+kernel⟩
abbrev lT:Stmt:=top 22
theorem zcv:yB ["pieces","told","around","head","shelf"] ["pieces","told","around"] (zR lT):=⟨rfl,rfl,rfl,by decide+kernel,rfl,by decide+kernel,by decide+kernel⟩
abbrev pS:Stmt:=top 23
theorem zpn:yB ["pieces","told","around","many"] ["pieces","told","around","many"] (zR pS):=⟨rfl,rfl,rfl,by decide+kernel,rfl,by decide+kernel,by decide+kernel⟩
abbrev nK:Stmt:=top 25
theorem zpm:yB ["term"] ["term"] (zR nK):=⟨rfl,rfl,rfl,by decide+kernel,rfl,by decide+kernel,by decide+kernel⟩
abbrev iP:Stmt:=top 26
theorem zph:yB ["parts"] ["parts"] (zR iP):=⟨rfl,rfl,rfl,by decide+kernel,rfl,by decide+kernel,by decide+kernel⟩
abbrev iB:Stmt:=top 28
theorem lN:yB ["_law_script","_law_k","_law_number","_law_own"] ["_law_script","_law_k"] (zR iB):=⟨rfl,rfl,rfl,by decide+kernel,rfl,by decide+kernel,by decide+kernel⟩
abbrev iG:Stmt:=top 29
theorem lO:yB ["_law_feed_here","_law_many","_law_digit","_law_number","_law_one_here","_law_two"] ["_law_feed_here","_law_many"] (zR iG):=⟨rfl,rfl,rfl,by decide+kernel,rfl,by decide+kernel,by decide+kernel⟩
abbrev iH:Stmt:=top 30
theorem zpa:yB ["_law_feed_here","_law_some"] ["_law_feed_here","_law_some"] (zR iH):=⟨rfl,rfl,rfl,by decide+kernel,rfl,by decide+kernel,by decide+kernel⟩
abbrev lM:Stmt:=top 31
theorem zct:yB ["_law_feed_here","_law_some"] ["_law_feed_here"] (zR lM):=⟨rfl,rfl,rfl,by decide+kernel,rfl,by decide+kernel,by decide+kernel⟩
abbrev lK:Stmt:=top 32
theorem zh1:yB ["_law_word_here","_law_letters"] ["_law_word_here"] (zR lK):=⟨rfl,rfl,rfl,by decide+kernel,rfl,by decide+kernel,by decide+kernel⟩
abbrev lJ:Stmt:=top 33
theorem zoZ:yB ["_law_word_here","_law_most"] ["_law_word_here","_law_most"] (zR lJ):=⟨rfl,rfl,rfl,by decide+kernel,rfl,by decide+kernel,by decide+kernel⟩
abbrev iD:Stmt:=top 34
theorem zoY:yB ["_law_word_here","_law_told"] ["_law_word_here","_law_told"] (zR iD):=⟨rfl,rfl,rfl,by decide+kernel,rfl,by decide+kernel,by decide+kernel⟩
abbrev nF:Stmt:=top 35
theorem zh0:yB ["_law_words","_law_told","_law_many"] ["_law_words","_law_told"] (zR nF):=⟨rfl,rfl,rfl,by decide+kernel,rfl,by decide+kernel,by decide+kernel⟩
abbrev iN:Stmt:=top 36
theorem pR:yB ["_law_row","_law_told","_law_deep","_law_one_here","_law_start","_law_end"] ["_law_row","_law_told"] (zR iN):=⟨rfl,rfl,rfl,by decide+kernel,rfl,by decide+kernel,by decide+kernel⟩
abbrev iJ:Stmt:=top 37
theorem zpb:yB ["_law_feed_here","_law_right","_law_wrong"] ["_law_feed_here","_law_right","_law_wrong"] (zR iJ):=⟨rfl,rfl,rfl,by decide+kernel,rfl,by decide+kernel,by decide+kernel⟩
abbrev iF:Stmt:=top 38
theorem zh2:yB ["_law_feed_here","_law_word_here"] ["_law_feed_here"] (zR iF):=⟨rfl,rfl,rfl,by decide+kernel,rfl,by decide+kernel,by decide+kernel⟩
abbrev iC:Stmt:=top 39
theorem iQ:yB ["_law_feed_here","_law_most","_law_number","_law_wrong"] ["_law_feed_here","_law_most"] (zR iC):=⟨rfl,rfl,rfl,by decide+kernel,rfl,by decide+kernel,by decide+kernel⟩
abbrev lI:Stmt:=top 40
theorem tV:yB ["_law_feed_here","_law_told","_law_room","_law_deep","_law_form","_law_many","_law_head","_law_inner","_law_blank","_law_start","_law_end"] ["_law_feed_here","_law_told","_law_room","_law_deep"] (zR lI):=⟨rfl,rfl,rfl,by decide+kernel,rfl,by decide+kernel,by decide+kernel⟩
abbrev i9:Stmt:=top 41
theorem nG:yB ["_law_feed_here","_law_found","_law_k","_law_one_here","_law_some"] ["_law_feed_here"] (zR i9):=⟨rfl,rfl,rfl,by decide+kernel,rfl,by decide+kernel,by decide+kernel⟩
abbrev iL:Stmt:=top 42
theorem zpc:yB ["_law_feed_here","_law_told"] ["_law_feed_here","_law_told"] (zR iL):=⟨rfl,rfl,rfl,by decide+kernel,rfl,by decide+kernel,by decide+kernel⟩
abbrev iM:Stmt:=top 43
theorem nH:yB ["_law_text","_law_told","_law_words","_law_due","_law_caught","_law_found","e"] ["_law_text","_law_told"] (zR iM):=⟨rfl,rfl,rfl,by decide+kernel,rfl,by decide+kernel,by decide+kernel⟩
abbrev zc1:Stmt:=top 44
theorem sW:yB ["_law_script","_law_k","_law_feed_here","_law_told","_law_text","_law_other","_law_many","_law_deep","_law_one_here"] ["_law_script"] (zR zc1):=⟨rfl,rfl,rfl,by decide+kernel,rfl,by decide+kernel,by decide+kernel⟩
def qY (i j:Nat):Stmt:=match top i with
 | .ClassDef (body:=b) .. =>b.getD j (.Pass ⟨0,0,0,0⟩)
 | _=> .Pass ⟨0,0,0,0⟩
abbrev nE:Stmt:=qY 3 0
theorem zoX:yB ["self","at"] ["self","at"] (zR nE):=⟨rfl,rfl,rfl,by decide+kernel,rfl,by decide+kernel,by decide+kernel⟩
abbrev sPI:Stmt:=qY 13 0
theorem zh3:yB ["self","text","spread"] ["self","text"] (zR sPI):=⟨rfl,rfl,rfl,by decide+kernel,rfl,by decide+kernel,by decide+kernel⟩
abbrev sPA:Stmt:=qY 13 1
theorem zpd:yB ["self"] ["self"] (zR sPA):=⟨rfl,rfl,rfl,by decide+kernel,rfl,by decide+kernel,by decide+kernel⟩
abbrev sPT:Stmt:=qY 13 2
theorem zh4:yB ["self","piece"] ["self"] (zR sPT):=⟨rfl,rfl,rfl,by decide+kernel,rfl,by decide+kernel,by decide+kernel⟩
abbrev sPK:Stmt:=qY 13 3
theorem zpf:yB ["self"] ["self"] (zR sPK):=⟨rfl,rfl,rfl,by decide+kernel,rfl,by decide+kernel,by decide+kernel⟩
abbrev sPE:Stmt:=qY 13 4
theorem zpe:yB ["self"] ["self"] (zR sPE):=⟨rfl,rfl,rfl,by decide+kernel,rfl,by decide+kernel,by decide+kernel⟩
abbrev sPW:Stmt:=qY 13 5
theorem zh5:yB ["self","piece"] ["self"] (zR sPW):=⟨rfl,rfl,rfl,by decide+kernel,rfl,by decide+kernel,by decide+kernel⟩
structure XE (K:Frag)(mg:Str->Option Value)(HE B J:Addr)(fj:FuncData):Prop where
 top:sB K HE
 head:gX K HE
 gh:mg "HouseError" =some (.ref HE)
 nh:v9 K HE B
 nhi:mD K B J
 gn:mg "BadText" =some (.ref B)
 nf:zN K "__init__" "BadText.__init__" nE J fj
 nb:zS K fj ["self","at"] []
 na:wQ K B "at"
 kk:kitOne K (.ref B) (.ref B)=some true
structure PX (K:Frag)(mg:Str->Option Value)(C I:Addr)(fi:FuncData)(A:Addr)(fa:FuncData)(T:Addr)(ft:FuncData)(K9:Addr)(fk:FuncData)(E:Addr)(fe:FuncData)(W:Addr)(fw:FuncData):Prop where
 gp:mg "Pieces" =some (.ref C)
 cl:vX K C
 nP:wQ K C "pieces"
 nL:wQ K C "place"
 mkC:Mk K C I
 fI:zN K "__init__" "Pieces.__init__" sPI I fi
 bI:zS K fi ["self","text"] []
 mA:tZ K C "at_end" A
 fA:zN K "at_end" "Pieces.at_end" sPA A fa
 bA:zS K fa ["self"] []
 mT:tZ K C "take" T
 fT:zN K "take" "Pieces.take" sPT T ft
 bT:zS K ft ["self"] []
 mK:tZ K C "take_close" K9
 fK:zN K "take_close" "Pieces.take_close" sPK K9 fk
 bK:zS K fk ["self"] []
 mE:tZ K C "take_end" E
 fE:zN K "take_end" "Pieces.take_end" sPE E fe
 bE:zS K fe ["self"] []
 mW:tZ K C "take_word" W
 fW:zN K "take_word" "Pieces.take_word" sPW W fw
 bW:zS K fw ["self"] []
structure Mo (K:Frag)(mg:Str->Option Value):Prop where
 len:mg "len" =none
 int:mg "int" =none
 range:mg "range" =none
 tuple:mg "tuple" =none
 isinstance:mg "isinstance" =none
 bool:mg "bool" =none
 str:mg "str" =none
 list:mg "list" =none
 min:mg "min" =none
 max:mg "max" =none
 all:mg "all" =none
 abs:mg "abs" =none
 is_word: ∃f fd,zN K "is_word" "is_word" lR f fd/\zS K fd ["text"] []/\mg "is_word" =some (.ref f)
 is_number: ∃f fd,zN K "is_number" "is_number" lQ f fd/\zS K fd ["text","most"] []/\mg "is_number" =some (.ref f)
 number_of: ∃f fd,zN K "number_of" "number_of" iS f fd/\zS K fd ["piece","least","most"] []/\mg "number_of" =some (.ref f)
 read_term: ∃f fd,zN K "read_term" "read_term" iX f fd/\zS K fd ["text","told"] []/\mg "read_term" =some (.ref f)
 take_term: ∃f fd,zN K "take_term" "take_term" lU f fd/\zS K fd ["pieces","told","around"] []/\mg "take_term" =some (.ref f)
 plain_term: ∃f fd,zN K "plain_term" "plain_term" iV f fd/\zS K fd ["piece","told"] []/\mg "plain_term" =some (.ref f)
 take_inside: ∃f fd,zN K "take_inside" "take_inside" lT f fd/\zS K fd ["pieces","told","around"] []/\mg "take_inside" =some (.ref f)
 take_terms: ∃f fd,zN K "take_terms" "take_terms" pS f fd/\zS K fd ["pieces","told","around","many"] []/\mg "take_terms" =some (.ref f)
 «show_term»: ∃f fd,zN K "show_term" "show_term" nK f fd/\zS K fd ["term"] []/\mg "show_term" =some (.ref f)
 bracketed: ∃f fd,zN K "bracketed" "bracketed" iP f fd/\zS K fd ["parts"] []/\mg "bracketed" =some (.ref f)
 _law_feed: ∃f fd,zN K "_law_feed" "_law_feed" iB f fd/\zS K fd ["_law_script","_law_k"] []/\mg "_law_feed" =some (.ref f)
 _law_next: ∃f fd,zN K "_law_next" "_law_next" iG f fd/\zS K fd ["_law_feed_here","_law_many"] []/\mg "_law_next" =some (.ref f)
 _law_one: ∃f fd,zN K "_law_one" "_law_one" iH f fd/\zS K fd ["_law_feed_here","_law_some"] []/\mg "_law_one" =some (.ref f)
 _law_word: ∃f fd,zN K "_law_word" "_law_word" lM f fd/\zS K fd ["_law_feed_here"] []/\mg "_law_word" =some (.ref f)
 _law_is_plain: ∃f fd,zN K "_law_is_plain" "_law_is_plain" lK f fd/\zS K fd ["_law_word_here"] []/\mg "_law_is_plain" =some (.ref f)
 _law_is_number: ∃f fd,zN K "_law_is_number" "_law_is_number" lJ f fd/\zS K fd ["_law_word_here","_law_most"] []/\mg "_law_is_number" =some (.ref f)
 _law_is_bare: ∃f fd,zN K "_law_is_bare" "_law_is_bare" iD f fd/\zS K fd ["_law_word_here","_law_told"] []/\mg "_law_is_bare" =some (.ref f)
 _law_is_inside: ∃f fd,zN K "_law_is_inside" "_law_is_inside" nF f fd/\zS K fd ["_law_words","_law_told"] []/\mg "_law_is_inside" =some (.ref f)
 _law_words_of: ∃f fd,zN K "_law_words_of" "_law_words_of" iN f fd/\zS K fd ["_law_row","_law_told"] []/\mg "_law_words_of" =some (.ref f)
 _law_slip: ∃f fd,zN K "_law_slip" "_law_slip" iJ f fd/\zS K fd ["_law_feed_here","_law_right","_law_wrong"] []/\mg "_law_slip" =some (.ref f)
 _law_name: ∃f fd,zN K "_law_name" "_law_name" iF f fd/\zS K fd ["_law_feed_here"] []/\mg "_law_name" =some (.ref f)
 _law_figures: ∃f fd,zN K "_law_figures" "_law_figures" iC f fd/\zS K fd ["_law_feed_here","_law_most"] []/\mg "_law_figures" =some (.ref f)
 _law_any_term: ∃f fd,zN K "_law_any_term" "_law_any_term" lI f fd/\zS K fd ["_law_feed_here","_law_told","_law_room","_law_deep"] []/\mg "_law_any_term" =some (.ref f)
 _law_chain: ∃f fd,zN K "_law_chain" "_law_chain" i9 f fd/\zS K fd ["_law_feed_here"] []/\mg "_law_chain" =some (.ref f)
 _law_term_of: ∃f fd,zN K "_law_term_of" "_law_term_of" iL f fd/\zS K fd ["_law_feed_here","_law_told"] []/\mg "_law_term_of" =some (.ref f)
 _law_term_right: ∃f fd,zN K "_law_term_right" "_law_term_right" iM f fd/\zS K fd ["_law_text","_law_told"] []/\mg "_law_term_right" =some (.ref f)
 WIDE: ∃t,mg "WIDE" =some (.int 4294967296 t)
 LONGEST: ∃t,mg "LONGEST" =some (.int 8 t)
 FIGURES_AT_MOST: ∃t,mg "FIGURES_AT_MOST" =some (.int 10 t)
 MOST_BRACKETS: ∃t,mg "MOST_BRACKETS" =some (.int 20 t)
 LETTERS: ∃t,mg "LETTERS" =some (.str "abcdefghijklmnopqrstuvwxyz" t)
 FIGURES: ∃t,mg "FIGURES" =some (.str "0123456789" t)
 OPS: ∃a,mg "OPS" =some (.ref a)/\gO K a [.str "+",.str "-",.str "*",.str "<",.str "="]
 THREE: ∃a,mg "THREE" =some (.ref a)/\gO K a [.str "was",.str "mine",.str "yours"]
 XEs: ∃HE B J fj,XE K mg HE B J fj
 PXs: ∃C I fi A fa T ft K9 fk E fe W fw,PX K mg C I fi A fa T ft K9 fk E fe W fw
local macro_rules | `(tactic| simp_all? only[$ts,*])=> `(tactic| ((try dsimp[pV]);repeat(simp only[cB,zd9,zdW,zdR,zdS,zdT,Nat.reduceAdd,Nat.reduceSub,Nat.reduceLT,Nat.reduceLeDiff,Int.reduceLT,Int.reduceLE,Int.reducePow,Int.reduceNeg,Int.reduceMul,Int.reduceAdd,Int.reduceSub,Int.reduceToNat,zdU,zdV,$ts,*];(try dsimp[pV]))))
local macro_rules | `(tactic| simp? only[$ts,*])=> `(tactic| ((try dsimp);repeat(simp only[cB,zd9,zdW,zdR,zdS,zdT,Nat.reduceAdd,Nat.reduceSub,Nat.reduceLT,Nat.reduceLeDiff,Int.reduceLT,Int.reduceLE,Int.reducePow,Int.reduceNeg,Int.reduceMul,Int.reduceAdd,Int.reduceSub,Int.reduceToNat,zdU,zdV,$ts,*];(try dsimp))))
theorem zjK:k6 10 18:=⟨by decide,by decide,by decide⟩
def wC (a b:Int):Prop:=0<=a/\0<=b/\b<=2147483647
abbrev xV (a b:Int):PO:= .lst [.int a,.int b]
def zp1:zQ:=λxs st Q=> ∃(ns:List Int) (k:Int),xs= [.lst (ns.map .int),.int k]/\ns.length<=63/\0<=k/\∀a b,wC a b->Q (.obj st.length) (st++ [xV a b])
def zpE:zQ:=λxs st Q=> ∃(i:Nat) (many a b:Int),xs= [.obj i,.int many]/\st[i]?=some (xV a b)/\wC a b/\0 < many/\many < 1099511627776/\∀d a b,0<=d->d < many->wC a b->Q (.int d) (st.set i (xV a b))
section
theorem yH {t u:yC}{D:yU}{env:zE}{st:z7}(h:t {D with nx:=u D} env st):pV t u D env st:=h
theorem zkK {tc:yR}{t u:yC}{D:yU}{env:zE}{st:z7}{b:Bool}(h: ∀Q,tc env st Q=Q b st)(k:if b=true then t D env st else u D env st):hZ tc t u D env st:=by
 show tc env st _;rw[h];exact k
abbrev W9:=K9.W
abbrev sv (w:W9):PV:= .str (K9.S w)
theorem lit {x:Str}{v:W9}(h:x=K9.S v:=by decide+kernel)(w:W9):(K9.S w==x)=decide (w=v):=by
 subst h;by_cases e:w=v
 ·subst e;rw[decide_eq_true rfl];exact beq_self_eq_true _
 ·rw[decide_eq_false e];exact beq_eq_false_iff_ne.mpr λz=>e (K9.S_inj z)
abbrev w9 (C dx:Addr)(ws:List W9)(k:Nat):PO:= .ins C dx [("pieces",.lst (ws.map sv)),("place",.int k)]
abbrev XB (B:Addr)(W:XW):Prop:=W B (some ("at",.int 0))
theorem rB:(2000000:Nat)<=sizeLine:=by rw[sizeLine_eq];decide
def yL (told:Bool):K9.T9->PV
 | .lf w=>if told&&K9.three.contains w then .tup [sv w]else if !told&&K9.plain w then .tup [.str "shelf",sv w]else .tup [.str "num",.int (K9.val w)]
 | .op h a b=> .tup [.str "op",sv h,yL told a,yL told b]
 | .if3 a b c=> .tup [.str "if",yL told a,yL told b,yL told c]
 | .fl h ws=> .tup (sv h::ws.map sv)
def zhJ:zQ:=λxs st Q=> ∃w:W9,xs= [sv w]/\w.length<=1000000/\Q (.bl (K9.plain w)) st
def zp9:zQ:=λxs st Q=> ∃w:W9,xs= [sv w,.int 10]/\w.length<=1000000/\Q (.bl (K9.figs w)) st
def zhC (B:Addr):xJ:=λxs st Q W=> ∃w:W9,xs= [sv w,.int 0,.int 4294967295]/\w.length<=1000000/\((K9.isNum w=true/\Q (.int (K9.val w)) st)∨(K9.isNum w=false/\XB B W))
def zp_ (B:Addr):xJ:=λxs st Q W=> ∃(w:W9) (told:Bool),xs= [sv w,.bl told]/\w.length<=1000000/\((K9.bare told w=true/\Q (yL told (.lf w)) st)∨(K9.bare told w=false/\XB B W))
def qB (B C:Addr)(ys:List PV){α:Type}(f:List W9->Option (α×List W9))(g:α->PV):xJ:=λxs st Q W=> ∃(i:Nat) (dx:Addr) (ws:List W9) (k:Nat),xs= .obj i::ys/\st[i]?=some (w9 C dx ws k)/\ws.length<=1000000/\(∀w∈ws,w.length<=1000000)/\k<=ws.length/\
 ((∃t r,f (ws.drop k)=some (t,r)/\∀k',ws.drop k'=r->k'<=ws.length->Q (g t) (st.set i (w9 C dx ws k')))∨(f (ws.drop k)=none/\XB B W))
def p1:List W9->Option (W9×List W9)
 | []=>none
 | w::r=>some (w,r)
def pc:List W9->Option (Unit×List W9)
 | []=>none
 | w::r=>if w= [41]then some ((),r)else none
def zp0 (C:Addr):zQ:=λxs st Q=> ∃(i:Nat) (dx:Addr) (ws:List W9) (k:Nat),xs= [.obj i]/\st[i]?=some (w9 C dx ws k)/\ws.length<=1000000/\Q (.bl (decide (k=ws.length))) st
def zpB (B C:Addr):xJ:=λxs st Q W=> ∃(i:Nat) (dx:Addr) (ws:List W9) (k:Nat),xs= [.obj i]/\st[i]?=some (w9 C dx ws k)/\ws.length<=1000000/\((k=ws.length/\Q .non st)∨(k≠ws.length/\XB B W))
def zp4 (C:Addr):zQ:=λxs st Q=> ∃(i:Nat) (dx:Addr) (x:W9),xs= [.obj i,sv x]/\st[i]?=some (.ins C dx [])/\x.length<=300000/\Q .non (st.set i (w9 C dx (K9.spl (K9.rep x)) 0))
def zhI (B C:Addr)(told:Bool)(n:Nat):xJ:=qB B C [.bl told,.int (20 - (n:Int))] (K9.pT told n) (yL told)
def zpC (B C:Addr)(told:Bool)(n:Nat):xJ:=qB B C [.bl told,.int (20 - (n:Int))] (K9.pI told (K9.pT told n)) (yL told)
def zhH (B C:Addr)(told:Bool)(n:Nat):xJ:=λxs st Q W=> ∃m:Nat,m<=3/\qB B C [.bl told,.int (20 - (n:Int)),.int m] (K9.pN (K9.pT told n) m) (λts=> .tup (ts.map (yL told))) xs st Q W
def zpA (B:Addr):xJ:=λxs st Q W=> ∃(x:W9) (told:Bool),xs= [sv x,.bl told]/\x.length<=300000/\((∃t,K9.prd told x=some t/\Q (yL told t) st)∨(K9.prd told x=none/\XB B W))
def zc3 (d:Nat):zQ:=λxs st Q=> ∃(told:Bool) (t:K9.T9),xs= [yL told t]/\K9.V told false t/\K9.dp t < d/\(K9.sh t).length<=300000/\Q (sv (K9.sh t)) st
theorem zhE {K:Frag}{vs:List V}{H:Hp}{Q:VK}{E:XK}(h:yD K (zc3 0) vs H Q E):False:=by
 obtain⟨_,_,_,_,_,_,⟨_,_,_,_,z,_⟩,_⟩:=h;exact absurd z (Nat.not_lt_zero _)
def zp2:zQ:=λxs st Q=> ∃ws:List W9,xs= [.lst (ws.map sv)]/\ws.length<=10/\(∀w∈ws,w.length<=300000)/\Q (sv (40::(K9.jn ws++ [41]))) st
theorem zfC {α:Type}{f:PV->Option PV}{g h:α->PV}(l:List α)(e: ∀x,f (g x)=some (h x)):(l.map g).filterMap f=l.map h:=by
 induction l with
 | nil=>rfl
 | cons x l ih=>rw[List.map_cons,List.filterMap_cons,e x,ih];rfl
theorem zcz (w:W9):vV (K9.S w)=w.map λc=>PV.str ⟨#[c]⟩:=by unfold vV;rw[K9.S_l]
theorem zbd {x:Str}{l:W9}(h:x=K9.S l)(c:Nat):(!(Builtin.Str.occurrences x ⟨#[c]⟩ 0 x.length 1).isEmpty)=decide (c∈l):=by subst h;exact K9.has_one l c
theorem jE {i j:Str}{st:z7}{Q:K3} :wY false (.str i) (.str j) st Q=Q (.bl (!(Builtin.Str.occurrences j i 0 j.length 1).isEmpty)) st:=rfl
theorem zmk {i j:Str}{st:z7}{Q:K3} :wY true (.str i) (.str j) st Q=Q (.bl (!(!(Builtin.Str.occurrences j i 0 j.length 1).isEmpty))) st:=rfl
def jD (x:Str):PV->Option PV
 | .str z=>some (.bl (!(Builtin.Str.occurrences x z 0 x.length 1).isEmpty))
 | _=>none
def kL:W9:= [97,98,99,100,101,102,103,104,105,106,107,108,109,110,111,112,113,114,115,116,117,118,119,120,121,122]
def k7:W9:= [48,49,50,51,52,53,54,55,56,57]
theorem zge (c:Nat):decide (c∈kL)=K9.letter c:=by
 unfold K9.letter;rw[<- Bool.decide_and];refine decide_eq_decide.mpr ⟨λh=> ?_,λh=> ?_⟩
 ·simp only[kL,List.mem_cons,List.not_mem_nil,or_false]at h;omega
 ·simp only[kL,List.mem_cons,List.not_mem_nil,or_false];omega
theorem zaZ (c:Nat):decide (c∈k7)=K9.digit c:=by
 unfold K9.digit;rw[<- Bool.decide_and];refine decide_eq_decide.mpr ⟨λh=> ?_,λh=> ?_⟩
 ·simp only[k7,List.mem_cons,List.not_mem_nil,or_false]at h;omega
 ·simp only[k7,List.mem_cons,List.not_mem_nil,or_false];omega
theorem zgd:("abcdefghijklmnopqrstuvwxyz" :Str)=K9.S kL:=by decide+kernel
theorem zaY:("0123456789" :Str)=K9.S k7:=by decide+kernel
theorem zbi {x:Str}{l w:W9}{p:Nat->Bool}(h:x=K9.S l)(hp: ∀c,decide (c∈l)=p c):(vV (K9.S w)).filterMap (jD x)=(w.map p).map PV.bl:=by
 rw[zcz,zfC w (h:=λc=>PV.bl (p c)) λc=> ?_,List.map_map]
 ·rfl
 ·show some (PV.bl _)=_
  rw[zbd h,hp]
theorem gY {w:W9}{p:Nat->Bool} :((w.map p).all id)=w.all p:=by rw[List.all_map];rfl
theorem qM {w:W9}{n:Nat}(h:w.length<=n)(hn:n<=2000000:=by decide):(K9.S w).length<=sizeLine:=by rw[K9.S_len];have:=rB;omega
theorem zk4 {ws:List W9}{k:Nat}(h:k < ws.length): ∃w,ws[k]?=some w/\ws.drop k=w::ws.drop (k+1)/\atI (ws.map sv) (k:Int)=some (sv w):=by
 refine⟨ws[k],List.getElem?_eq_getElem h,List.drop_eq_getElem_cons h,?_⟩;exact sC (j:=k) (by rw[List.getElem?_map,List.getElem?_eq_getElem h];rfl)
theorem eJ {ws:List W9}{k:Nat}(h:k<=ws.length):k=ws.length↔ws.drop k= []:=by rw[List.drop_eq_nil_iff];omega
theorem lkP {a b:PV} :List.lookup ("pieces" :Str) [(("pieces" :Str),a),("place",b)]=some a:=by
 rw[List.lookup_cons,show(("pieces" :Str)== "pieces")=true from beq_self_eq_true _]
theorem lkL {a b:PV} :List.lookup ("place" :Str) [(("pieces" :Str),a),("place",b)]=some b:=by
 rw[List.lookup_cons,show(("place" :Str)== "pieces")=false by decide+kernel,List.lookup_cons,show(("place" :Str)== "place")=true from beq_self_eq_true _]
theorem lkN {m:Str}{a b:PV}(h1:(m== "pieces")=false)(h2:(m== "place")=false):List.lookup m [(("pieces" :Str),a),("place",b)]=none:=by
 rw[List.lookup_cons,h1,List.lookup_cons,h2];rfl
theorem tL {C dx:Addr}{i:Nat}{st:z7}{ws:List W9}{k:Nat}{m:Str}(h:st[i]?=some (w9 C dx ws k))(h1:(m== "pieces")=false:=by decide+kernel)(h2:(m== "place")=false:=by decide+kernel):rL C m (.obj i) st:=⟨_,_,_,sG h,lkN h1 h2⟩
theorem zoa {C dx:Addr}{ws:List W9}{k:Nat}{j:Int}{k':Nat}(h:j=k'):PO.ins C dx (uJ "place" (.int j) [("pieces",.lst (ws.map sv)),("place",.int k)])=w9 C dx ws k':=by
 subst h;unfold uJ;rw[if_neg (by decide+kernel)];unfold uJ;rw[if_pos rfl]
theorem y8 {st:z7}{i:Nat}{o o':PO}(h:st[i]?=some o):(st.set i o')[i]?=some o':=List.getElem?_set_self (List.getElem?_eq_some_iff.mp h).1
theorem zkv {w:W9}(h:K9.figs w=true):w≠ []/\w.length<=10/\w.all K9.digit=true:=by
 unfold K9.figs at h;simp only[Bool.and_eq_true,decide_eq_true_eq]at h;exact⟨λz=>by rw[z]at h;exact absurd h.1.1.1 (by simp),h.1.1.2,h.2⟩
theorem oI (w:W9): ∀l:List W9,tK (sv w) (l.map sv)=l.contains w
 | []=>rfl
 | a::l=>by
  have e:y3 (sv a) (sv w)=(w==a):=by
   show(K9.S a==K9.S w)=_;rw[lit (v:=w) rfl a];by_cases h:a=w
   ·subst h;rw[decide_eq_true rfl];exact(beq_self_eq_true _).symm
   ·rw[decide_eq_false h];exact(beq_eq_false_iff_ne.mpr (Ne.symm h)).symm
  rw[List.map_cons,List.contains_cons,<- oI w l,<- e]
  rfl
theorem zhY: [PV.str "was",.str "mine",.str "yours"]=K9.three.map sv:=by
 rw[show("was" :Str)=K9.S [119,97,115] by decide+kernel,show("mine" :Str)=K9.S [109,105,110,101] by decide+kernel,show("yours" :Str)=K9.S [121,111,117,114,115] by decide+kernel]
 rfl
theorem zna: [PV.str "+",.str "-",.str "*",.str "<",.str "="]=([[43],[45],[42],[60],[61]]:List W9).map sv:=by
 rw[show("+" :Str)=K9.S [43] by decide+kernel,show("-" :Str)=K9.S [45] by decide+kernel,show("*" :Str)=K9.S [42] by decide+kernel,show("<" :Str)=K9.S [60] by decide+kernel,show("=" :Str)=K9.S [61] by decide+kernel]
 rfl
theorem zbj {z:Str}{ys:List PV}{st:z7}{Q:K3} :wY false (.str z) (.tup ys) st Q=((vL (.str z)=true/\ys.all vL=true)/\Q (.bl (tK (.str z) ys)) st):=rfl
theorem zmi {z:Str}{ys:List PV}{st:z7}{Q:K3} :wY true (.str z) (.lst ys) st Q=((vL (.str z)=true/\ys.all vL=true)/\Q (.bl (!tK (.str z) ys)) st):=rfl
theorem zkM {z:Str}{ys:List PV}{st:z7}{Q:K3} :wY false (.str z) (.lst ys) st Q=((vL (.str z)=true/\ys.all vL=true)/\Q (.bl (tK (.str z) ys)) st):=rfl
theorem zfM {w:W9}{st:z7}{Q:K3} :wY false (sv w) (.tup [.str "was",.str "mine",.str "yours"]) st Q=Q (.bl (K9.three.contains w)) st:=by
 rw[zbj,zhY,oI];exact propext ⟨λh=>h.2,λh=>⟨⟨rfl,by rw[List.all_map];rfl⟩,h⟩⟩
theorem zkN {w:W9}{st:z7}{Q:K3} :wY false (sv w) (.tup [.str "+",.str "-",.str "*",.str "<",.str "="]) st Q=Q (.bl (K9.isOp w)) st:=by
 rw[zbj,zna,oI];exact propext ⟨λh=>h.2,λh=>⟨⟨rfl,by rw[List.all_map];rfl⟩,h⟩⟩
theorem fG {w:W9} :K9.bare true w=(K9.isNum w||K9.three.contains w):=rfl
theorem fF {w:W9} :K9.bare false w=(K9.isNum w||K9.plain w):=rfl
theorem l40 (w:W9):(K9.S w==("(" :Str))=decide (w= [40]):=lit (v:= [40]) (by decide+kernel) w
theorem l41 (w:W9):(K9.S w==(")" :Str))=decide (w= [41]):=lit (v:= [41]) (by decide+kernel) w
theorem lif (w:W9):(K9.S w==("if" :Str))=decide (w=K9.IFW):=lit (v:=K9.IFW) (by decide+kernel) w
theorem zl2 (w:W9):(K9.S w==("many" :Str))=decide (w=K9.MANY):=lit (v:=K9.MANY) (by decide+kernel) w
theorem zl1 (w:W9):(K9.S w==("long" :Str))=decide (w=K9.LONG):=lit (v:=K9.LONG) (by decide+kernel) w
theorem zc4 (w:W9):(K9.spl w).length<=w.length+1:=by
 induction w with
 | nil=>exact Nat.le_refl _
 | cons c r ih=>
  rw[K9.spl_cons]
  split
  ·rw[List.length_cons,List.length_cons];omega
  ·split
   ·simp
   ·rename_i x l e;rw[e]at ih;rw[List.length_cons]at ih⊢;rw[List.length_cons];omega
theorem zc5 (w:W9): ∀x∈K9.spl w,x.length<=w.length:=by
 induction w with
 | nil=>intro x hx;rw[List.mem_singleton.mp hx];exact Nat.le_refl _
 | cons c r ih=>
  intro x hx;rw[K9.spl_cons]at hx
  split at hx
  ·rcases List.mem_cons.mp hx with rfl | hx
   ·simp
   ·have:=ih x hx;rw[List.length_cons];omega
  ·split at hx
   ·rw[List.mem_singleton.mp hx];simp
   ·rename_i y l e
    rw[e]at ih;rcases List.mem_cons.mp hx with rfl | hx
    ·have:=ih y (by simp);rw[List.length_cons,List.length_cons];omega
    ·have:=ih x (List.mem_cons_of_mem _ hx);rw[List.length_cons];omega
theorem zc6 (w:W9):(Txt.split (K9.S w) " ").map PV.str=(K9.spl w).map sv:=by
 rw[show(" " :Str)=⟨#[32]⟩ by decide+kernel,K9.split_eq,K9.S_l,List.map_map]
 rfl
theorem vM {C dx:Addr}{ws:List W9} :PO.ins C dx (uJ "place" (.int 0) (uJ "pieces" (.lst (ws.map sv)) []))=w9 C dx ws 0:=by
 have ne: ¬ (("pieces" :Str)= "place"):=by decide+kernel
 simp only[uJ,if_neg ne]
 rfl
theorem zpr {st:z7}{i:Nat}{o:PO}(h:st[i]?=some o):st.set i o=st:=by
 refine List.ext_getElem? λj=> ?_;by_cases e:i=j
 ·subst e;rw[y8 h,h]
 ·rw[List.getElem?_set_ne e]
theorem zgH (f:List W9->Option (K9.T9×List W9))(k:Nat)(r:List W9):K9.pN f (k+1) r=match f r with | none=>none | some p=>(match K9.pN f k p.2 with | none=>none | some q=>some (p.1::q.1,q.2)):=rfl
theorem zbC {f:List W9->Option (K9.T9×List W9)} : ∀{k:Nat} {r:List W9} {ts:List K9.T9} {r':List W9},K9.pN f k r=some (ts,r')->ts.length=k
 | 0,r,ts,r',h=>by cases h;rfl
 | k+1,r,ts,r',h=>by
  rw[zgH]at h;cases e1:f r with
  | none=>rw[e1]at h;cases h
  | some p=>
   rw[e1]at h;dsimp only at h;cases e2:K9.pN f k p.2 with
   | none=>rw[e2]at h;cases h
   | some q=>rw[e2]at h;cases h;rw[List.length_cons,zbC e2]
theorem zgs {told:Bool}(t:K9.T9):yG (yL told t)=true:=by
 cases t <;> unfold yL <;> (try split) <;> (try split) <;> rfl
theorem j6 {m:Nat}{Q:K3}{x:PV}{s:z7}(h:yG x=true):yZ m Q x s=Q x (s.take m):=by
 cases x <;> first | rfl | cases h
theorem j7 {m:Nat}{Q:K3}{told:Bool}{t:K9.T9}{s:z7} :yZ m Q (yL told t) s=Q (yL told t) (s.take m):=j6 (zgs t)
theorem zkz {P:Program}{w:World}{K:Frag}{mg:Str->Option Value}{base:Heap}{CX:wL}{k:Nat}{f:Addr}{fd:FuncData}{ps:List Str}{S:Bool->xJ}(F: ∀b,zZ P w K mg base CX k f fd ps (w4 K (S b))):zZ P w K mg base CX k f fd ps (w4 K λxs st Q W=> ∃b,S b xs st Q W):=
 ⟨λvs H Q E ⟨A,st,xs,Q3,W,h1,h2,⟨b,h3⟩,h4⟩=>(F b).len vs H Q E ⟨A,st,xs,Q3,W,h1,h2,h3,h4⟩,λA outer s H args us vs Q E hr he hb hv ⟨A0,st,xs,Q3,W,h1,h2,⟨b,h3⟩,h4⟩=>(F b).run A outer s H args us vs Q E hr he hb hv ⟨A0,st,xs,Q3,W,h1,h2,h3,h4⟩⟩
theorem zfW (ws:List W9):Txt.join " " (ws.map K9.S)=K9.S (K9.jn ws):=by
 unfold Txt.join;rw[StrLaws.glued_eq_join,show(" " :Str)=K9.S [32] by decide+kernel]
 induction ws with
 | nil=>rfl
 | cons a r ih=>
  cases r with
  | nil=>rfl
  | cons b r=>
   show K9.S a++K9.S [32]++Str.join (K9.S [32]) ((b::r).map K9.S)=_;rw[ih,K9.S_app,K9.S_app,K9.jn_cons a (by simp)];simp
theorem zpI {ws:List W9}{n:Nat}(h: ∀w∈ws,w.length<=n):((ws.map K9.S).map (·.length)).sum<=ws.length * n:=by
 induction ws with
 | nil=>simp
 | cons a r ih=>
  have h1:=h a (List.mem_cons_self ..);have h2:=ih λw hw=>h w (List.mem_cons_of_mem _ hw);rw[List.map_cons,List.map_cons,List.sum_cons,List.length_cons,Nat.succ_mul,K9.S_len];omega
theorem zlJ (ws:List W9):ws.map sv=(ws.map K9.S).map PV.str:=by rw[List.map_map];rfl
theorem h7 {w:W9}(h:K9.three.contains w=true){x:Str}{v:W9}(e:x=K9.S v)(n:K9.three.contains v=false):(K9.S w==x)=false:=by
 rw[lit (v:=v) e,decide_eq_false];intro z;rw[z,n]at h;cases h
theorem zdL {d:Nat}{told:Bool}{Q:List PV->z7->Prop}{e0:PV}{st:z7}{ts:List K9.T9}(h: ∀t∈ts,K9.V told false t/\K9.dp t < d/\(K9.sh t).length<=300000)(q:Q (ts.map λt=>sv (K9.sh t)) st):
  tX 1 (gN 1) lY (nO (zc3 d) (lX (uO 1) g6)) none (ts.map (yL told)) Q [some e0] st:=by
 refine⟨λi ys env s=> ∃v:Option PV,ys=(ts.take i).map (λt=>sv (K9.sh t))/\env= [some e0,v]/\s=st,⟨none,rfl,rfl,rfl⟩,?_,?_⟩
 ·rintro i x ys env s hx ⟨v,rfl,rfl,rfl⟩
  obtain⟨t,ht,rfl⟩:=rQ hx;obtain⟨h1,h2,h3⟩:=h t (List.mem_of_getElem? ht);refine⟨told,t,rfl,h1,h2,h3,rfl,_,?_,rfl,rfl⟩;rw[zcC ht,List.map_append];rfl
 ·rintro ys env s ⟨v,rfl,rfl,rfl⟩
  rw[List.length_map,List.take_of_length_le (Nat.le_refl _)];exact q
theorem zfL {w:W9}{st:z7}{Q:K3} :wY false (sv w) (.tup [.str "many",.str "long"]) st Q=Q (.bl ([K9.MANY,K9.LONG].contains w)) st:=by
 rw[zbj,show [PV.str "many",PV.str "long"]=([K9.MANY,K9.LONG]:List W9).map sv by rw[show("many" :Str)=K9.S K9.MANY by decide+kernel,show("long" :Str)=K9.S K9.LONG by decide+kernel];rfl,oI];exact propext ⟨λh=>h.2,λh=>⟨⟨rfl,by rw[List.all_map];rfl⟩,h⟩⟩
theorem zl5:("(" :Str)=K9.S [40]:=by decide+kernel
theorem zoM:(")" :Str)=K9.S [41]:=by decide+kernel
def tl (n:Nat):PV->Bool
 | .str x=>decide (x.length<=n)
 | _=>false
theorem zqo {n:Nat}{y:PV}(h:tl n y=true): ∃x:Str,y= .str x/\x.length<=n:=by
 cases y with
 | str x=>exact⟨x,rfl,of_decide_eq_true h⟩
 | _=>cases h
theorem zia {n:Nat}{ys:List PV}(h:ys.all (tl n)=true): ∀y∈ys,∃x:Str,y= .str x/\x.length<=n:=λy hy=>zqo (List.all_eq_true.mp h y hy)
abbrev ziT (ys:List PV)(i:Nat)(st:z7)(Q:K3):Prop:=ys≠ []/\ys.length<=1000/\ys.all yG=true/\∀y∈ys,∀a b,wC a b->Q y (st.set i (xV a b))
def zhD:zQ:=λxs st Q=> ∃(i:Nat) (x:PV) (a b:Int),xs= [.obj i,x]/\st[i]?=some (xV a b)/\wC a b/\
 ((∃ys:List PV,x= .lst ys/\ziT ys i st Q)∨(∃z:Str,x= .str z/\0 < z.length/\z.length<=1000/\∀y:Str,y.length=1->∀a b,wC a b->Q (.str y) (st.set i (xV a b))))
def nJ (ys:List PV)(n:Nat):zQ:=λxs st Q=> ∃(i:Nat) (a b:Int),xs= .obj i::ys/\st[i]?=some (xV a b)/\wC a b/\∀x:Str,x.length<=n->∀a b,wC a b->Q (.str x) (st.set i (xV a b))
def zhF:zQ:=λxs st Q=> ∃(i:Nat) (x y:PV) (a b:Int),xs= [.obj i,x,y]/\st[i]?=some (xV a b)/\wC a b/\yG x=true/\yG y=true/\∀r:PV,(r=x∨r=y)->∀a b,wC a b->Q r (st.set i (xV a b))
def zp3:zQ:=λxs st Q=> ∃most:Int,0<=most/\most<=4294967295/\nJ [.int most] 12 xs st Q
theorem zdO: ∀k n:Nat,n < 10 ^ (k+1)->(Nat.toDigits 10 n).length<=k+1
 | 0,n,h=>by
  have:n < 10:=h;rw[Nat.toDigits_of_lt_base this];exact Nat.le_refl _
 | k+1,n,h=>by
  by_cases hn:n < 10
  ·rw[Nat.toDigits_of_lt_base hn];show 1<=_;omega
  ·have e:n=(n / 10) * 10+n % 10:=by omega
   rw[e,K9.digs_snoc (by omega) (Nat.mod_lt _ (by decide)),List.length_append];have:=zdO k (n / 10) (by rw[Nat.pow_succ]at h;omega);show _+1<=_;omega
theorem zgv {i:Int}(h0:0<=i)(h1:i<=9999999999):(Str.ofString (toString i)).length<=10:=by
 obtain⟨n,rfl⟩:=Int.eq_ofNat_of_zero_le h0;rw[show((Str.ofString (toString ((n:Nat):Int)))=K9.S ((Nat.toDigits 10 n).map Char.toNat))from K9.str_of n,K9.S_len,List.length_map];exact zdO 9 n (by omega)
theorem ziW (c:Nat):(⟨#[c]⟩:Str).length=1:=rfl
theorem y0 (x y:Str):(x++y).length=x.length+y.length:=by rw[<- K9.l_S x,<- K9.l_S y,K9.S_app,K9.S_len,K9.S_len,K9.S_len,List.length_append]
theorem zjl {ys:List PV}{d:Int}(h0:0<=d)(h1:d < ys.length): ∃y∈ys,atI ys d=some y:=by
 obtain⟨n,rfl⟩:=Int.eq_ofNat_of_zero_le h0;have hn:n < ys.length:=by omega
 exact⟨ys[n],List.getElem_mem hn,sC (j:=n) (List.getElem?_eq_getElem hn)⟩
theorem zjm {z:Str}{d:Int}(h0:0<=d)(h1:d < z.length): ∃c,atI z.cps.toList d=some c:=by
 obtain⟨n,rfl⟩:=Int.eq_ofNat_of_zero_le h0;have hn:n < z.cps.toList.length:=by have:(z.cps.toList.length:Int)=z.length:=rfl;omega
 exact⟨z.cps.toList[n],sC (j:=n) (List.getElem?_eq_getElem hn)⟩
theorem tQ (n:Nat){ys:List PV}{i:Nat}{st:z7}{Q:K3}{a b:Int}(h:ys.all (tl n)=true)(hn:0 < ys.length)(hl:ys.length<=1000)(hi:st[i]?=some (xV a b))(hb:wC a b)(q: ∀x:Str,x.length<=n->∀a b,wC a b->Q (.str x) (st.set i (xV a b))):zhD [.obj i,.lst ys] st Q:=by
 refine⟨i,_,a,b,rfl,hi,hb,.inl ⟨ys,rfl,List.length_pos_iff.mp hn,hl,List.all_eq_true.mpr λy hy=> ?_,λy hy a b hb=> ?_⟩⟩
 ·obtain⟨x,rfl,_⟩:=zia h y hy;rfl
 ·obtain⟨x,rfl,hx⟩:=zia h y hy
  exact q x hx a b hb
theorem zc7 {zs:List Str}{n:Nat}(h: ∀z∈zs,z.length<=n):(zs.map (·.length)).sum<=zs.length * n:=by
 induction zs with
 | nil=>simp
 | cons a r ih=>
  have h1:=h a (List.mem_cons_self ..);have h2:=ih λw hw=>h w (List.mem_cons_of_mem _ hw);rw[List.map_cons,List.sum_cons,List.length_cons,Nat.succ_mul];omega
theorem zld {zs:List Str}{n:Nat}(d:Str)(h: ∀z∈zs,z.length<=n):(Txt.join d zs).length<=zs.length * n+zs.length * d.length:=by
 have:=StrLaws.join_length_le d zs;have h2:=zc7 h;unfold Txt.join;rw[StrLaws.glued_eq_join];have e:zs.length * d.length=d.length * zs.length:=Nat.mul_comm ..;omega
theorem q1:((" " :Str).length=1/\("(" :Str).length=1/\(")" :Str).length=1/\("1" :Str).length=1/\("0" :Str).length=1)/\("-" :Str).length=1/\("" :Str).length=0/\("A" :Str).length=1/\("yes" :Str).length=3:=by decide+kernel
theorem q2:(("(many " :Str).length=6/\("(long " :Str).length=6/\("if" :Str).length=2/\("/" :Str).length=1/\("(+ " :Str).length=3)/\("(< " :Str).length=3/\("(if 1 2 " :Str).length=8/\(" 1" :Str).length=2/\("2" :Str).length=1:=by decide+kernel
theorem xF {n:Nat}{x:Str}{ys:List PV}(h:x.length<=n)(t:ys.all (tl n)=true):(PV.str x::ys).all (tl n)=true:=by
 rw[List.all_cons,t,Bool.and_true];exact decide_eq_true h
def vH:Nat->Nat
 | 0=>40
 | d+1=>3 * vH d+20
theorem zd5: ∀d,40<=vH d
 | 0=>Nat.le_refl _
 | d+1=>by have:=zd5 d;show 40<=3 * vH d+20;omega
theorem zd7: ∀d e,d<=e->vH d<=vH e
 | d,0,h=>by rw[Nat.le_zero.mp h];exact Nat.le_refl _
 | d,e+1,h=>by
  by_cases z:d=e+1
  ·rw[z];exact Nat.le_refl _
  ·have:=zd7 d e (by omega)
   show _<=3 * vH e+20;omega
theorem zd6 {e:Nat}(h:e<=6):vH e<=40000:=Nat.le_trans (zd7 e 6 h) (by decide)
def zhA (d:Nat):zQ:=λxs st Q=> ∃(told:Bool) (room:Int) (e:Nat),e < d/\e<=6/\nJ [.bl told,.int room,.int e] (vH e) xs st Q
theorem zhB {K:Frag}{vs:List V}{H:Hp}{Q:VK}{E:XK}(h:yD K (zhA 0) vs H Q E):False:=by
 obtain⟨_,_,_,_,_,_,⟨_,_,_,z,_⟩,_⟩:=h;exact absurd z (Nat.not_lt_zero _)
def zpD:zQ:=λxs st Q=> ∃told:Bool,nJ [.bl told] 40000 xs st Q
theorem qP {T:zA}{g:xN}{D:yU}{env:zE}{st:z7}(Post:PV->z7->Prop)(h: ∀Q:K3,(∀x s,Post x s->Q x s)->T env st Q)(k: ∀x s,Post x s->r6 (vC x) g D env s):r6 T g D env st:=h _ λx s hx=>k x s hx
def mC (n i:Nat)(st:z7):PV->z7->Prop:=λx s=> ∃(y:Str) (a b:Int),x= .str y/\y.length<=n/\wC a b/\s=st.set i (xV a b)
def LxP (n i:Nat)(st:z7):PV->z7->Prop:=λx s=> ∃(zs:List Str) (a b:Int),x= .lst (zs.map PV.str)/\zs.length<=3/\(∀z∈zs,z.length<=n)/\wC a b/\s=st.set i (xV a b)
theorem zle (d:Str)(zs:List Str):(Txt.join d zs).length<=(zs.map (·.length)).sum+d.length * zs.length:=by
 have:=StrLaws.join_length_le d zs;unfold Txt.join;rw[StrLaws.glued_eq_join];have e:zs.length * d.length=d.length * zs.length:=Nat.mul_comm ..;omega
theorem zc0 (n:Nat){i:Nat}{st st':z7}{x y:Str}{Q:K3}{a b:Int}(hi:st[i]?=some (xV a b))(hb:wC a b)(hx:x.length<=n)(hy:y.length<=n)(e: ∀a b,st.set i (xV a b)=st'.set i (xV a b))(q: ∀z s,mC n i st' z s->Q z s):zhF [.obj i,.str x,.str y] st Q:=by
 refine⟨i,_,_,a,b,rfl,hi,hb,rfl,rfl,λr hr a b hb=> ?_⟩;rcases hr with rfl | rfl
 ·exact q _ _ ⟨x,a,b,rfl,hx,hb,e a b⟩
 ·exact q _ _ ⟨y,a,b,rfl,hy,hb,e a b⟩
theorem zjL (zs:List Str):vS (zs.map PV.str) (some 1) none=(zs.drop 1).map PV.str:=by
 rw[show(1:Int)=((1:Nat):Int)from rfl,zdM,List.map_drop]
def zp7:zQ:=λxs st Q=> ∃w:W9,xs= [sv w,.int 4294967295]/\w.length<=1000000/\Q (.bl (K9.numJ w)) st
def zp5:zQ:=λxs st Q=> ∃(w:W9) (told:Bool),xs= [sv w,.bl told]/\w.length<=1000000/\Q (.bl (K9.tb told w)) st
def zp6:zQ:=λxs st Q=> ∃(h:W9) (ws:List W9) (told:Bool),xs= [.lst ((h::ws).map sv),.bl told]/\ws.length<=1000000/\(∀w∈h::ws,w.length<=1000000)/\Q (.bl (K9.ins told (h::ws))) st
def zp8:zQ:=λxs st Q=> ∃(x:W9) (told:Bool),xs= [sv x,.bl told]/\x.length<=300000/\∀ws:List W9,ws.length<=1000000->(∀w∈ws,w.length<=1000000)->((∃w,ws= [w]/\K9.tb told w=true)↔K9.Good told x)->Q (.lst (ws.map sv)) st
def jM (x:Str):PV->Option PV
 | .str z=>if(!(Builtin.Str.occurrences x z 0 x.length 1).isEmpty)=true then none else some (.str z)
 | _=>none
theorem zb6 (c:Nat):jM "0123456789" (.str ⟨#[c]⟩)=if K9.digit c=true then none else some (.str ⟨#[c]⟩):=by
 unfold jM;dsimp only;rw[zbd zaY,zaZ]
theorem zme: ∀w:W9,(vV (K9.S w)).filterMap (jM "0123456789")=(w.filter λc=> !K9.digit c).map λc=>PV.str ⟨#[c]⟩:=λw=>by
 rw[zcz]
 induction w with
 | nil=>rfl
 | cons c w ih=>
  rw[List.map_cons,List.filterMap_cons,zb6,ih];cases h:K9.digit c with
  | true=>rw[List.filter_cons_of_neg (by rw[h];decide)];rfl
  | false=>rw[List.filter_cons_of_pos (by rw[h];decide)];rfl
theorem zmg {w:W9}(h:w.all K9.digit=true):(w.filter λc=> !K9.digit c)= []:=by
 rw[List.filter_eq_nil_iff];intro c hc;rw[List.all_eq_true.mp h c hc];decide
theorem zmf {w:W9}(h:w.all K9.digit=false): ∃c r,(w.filter λc=> !K9.digit c)=c::r:=by
 cases e:w.filter λc=> !K9.digit c with
 | cons c r=>exact⟨c,r,rfl⟩
 | nil=>
  rw[List.filter_eq_nil_iff]at e;have:w.all K9.digit=true:=List.all_eq_true.mpr λc hc=>by
   have:=e c hc;cases h:K9.digit c with
   | true=>rfl
   | false=>rw[h]at this;exact absurd rfl this
  rw[this]at h;cases h
theorem zl6 (w:W9):(K9.S w==("~" :Str))=decide (w= [126]):=lit (v:= [126]) (by decide+kernel) w
theorem zl3 (w:W9):(K9.S w==("" :Str))=decide (w= []):=lit (v:= []) (by decide+kernel) w
theorem zkO {w:W9}{st:z7}{Q:K3} :wY false (sv w) (.lst [.str "was",.str "mine",.str "yours"]) st Q=Q (.bl (K9.three.contains w)) st:=by
 rw[zkM,zhY,oI];exact propext ⟨λh=>h.2,λh=>⟨⟨rfl,by rw[List.all_map];rfl⟩,h⟩⟩
theorem zqL (w:W9):w.all K9.digit=true->K9.val w < 10 ^ w.length:=by
 refine K9.snoc_ind (P:=λw=>w.all K9.digit=true->K9.val w < 10 ^ w.length) (λ_=>by decide) (λr c ih h=> ?_) w;rw[List.all_append,Bool.and_eq_true]at h;have h1:=ih h.1;have h2:K9.digit c=true:=by simpa using h.2
 unfold K9.digit at h2;simp only[Bool.and_eq_true,decide_eq_true_eq]at h2;rw[K9.val_snoc,List.length_append,show [c].length=1 from rfl,Nat.pow_succ];omega
abbrev KL:List (Str×Int):= [("+",2),("-",2),("*",2),("<",2),("=",2),("if",3),("many",2),("long",1)]
def pE (h:W9):Int:=if K9.isOp h=true then 2 else if h=K9.IFW then 3 else if h=K9.MANY then 2 else if h=K9.LONG then 1 else 0
theorem ziP:(KL.map (·.1)).Nodup:=by decide+kernel
theorem ziQ:KL= [(K9.S [43],2),(K9.S [45],2),(K9.S [42],2),(K9.S [60],2),(K9.S [61],2),(K9.S K9.IFW,3),(K9.S K9.MANY,2),(K9.S K9.LONG,1)]:=by decide+kernel
theorem zlG (h:W9):lZ KL (K9.S h)=pE h:=by
 have ne: ∀{a:W9},¬ h=a->¬ K9.S a=K9.S h:=λn z=>n (K9.S_inj z).symm;rw[ziQ];unfold pE;cases ho:K9.isOp h with
 | true=>
  have:h= [43]∨h= [45]∨h= [42]∨h= [60]∨h= [61]:=by unfold K9.isOp at ho;simpa using ho
  rw[if_pos rfl];rcases this with rfl | rfl | rfl | rfl | rfl <;> decide+kernel
 | false=>
  have n: ¬ h= [43]/\¬ h= [45]/\¬ h= [42]/\¬ h= [60]/\¬ h= [61]:=by unfold K9.isOp at ho;simpa using ho
  obtain⟨n1,n2,n3,n4,n5⟩:=n;rw[if_neg (by decide)];by_cases h1:h=K9.IFW
  ·rw[if_pos h1,h1];decide+kernel
  rw[if_neg h1];by_cases h2:h=K9.MANY
  ·rw[if_pos h2,h2];decide+kernel
  rw[if_neg h2];by_cases h3:h=K9.LONG
  ·rw[if_pos h3,h3];decide+kernel
  rw[if_neg h3];simp only[lZ,if_neg (ne n1),if_neg (ne n2),if_neg (ne n3),if_neg (ne n4),if_neg (ne n5),if_neg (ne h1),if_neg (ne h2),if_neg (ne h3)]
def bF (p:W9->Bool):PV->Option PV
 | .str z=>some (.bl (p z.cps.toList))
 | _=>none
theorem zdy (p:W9->Bool)(ws:List W9):(ws.map sv).filterMap (bF p)=(ws.map p).map PV.bl:=by
 rw[zfC ws (h:=λw=>PV.bl (p w)) λw=> ?_,List.map_map]
 ·rfl
 ·show some (PV.bl (p (K9.S w).cps.toList))=_
  rw[K9.S_l]
theorem zdr {ws:List W9}{p:W9->Bool} :((ws.map p).all id)=ws.all p:=by rw[List.all_map];rfl
theorem zdx (p:W9->Bool)(w:W9):bF p (sv w)=some (.bl (p w)):=by show some (PV.bl (p (K9.S w).cps.toList))=_;rw[K9.S_l]
theorem zmj {w:W9}{st:z7}{Q:K3} :wY true (sv w) (.lst [.str "many",.str "long"]) st Q=Q (.bl (!([K9.MANY,K9.LONG].contains w))) st:=by
 rw[zmi,show [PV.str "many",PV.str "long"]=([K9.MANY,K9.LONG]:List W9).map sv by rw[show("many" :Str)=K9.S K9.MANY by decide+kernel,show("long" :Str)=K9.S K9.LONG by decide+kernel];rfl,oI];exact propext ⟨λh=>h.2,λh=>⟨⟨rfl,by rw[List.all_map];rfl⟩,h⟩⟩
theorem zjM (h:W9)(ws:List W9):vS (sv h::ws.map sv) (some 1) none=ws.map sv:=by
 rw[show(1:Int)=((1:Nat):Int)from rfl,zdM];rfl
theorem zkP (told:Bool)(h:W9)(ws:List W9):K9.ins told (h::ws)=if pE h=0 then false else if ¬ (ws.length:Int)=pE h then false else if [K9.MANY,K9.LONG].contains h=false then ws.all (K9.tb told)else if told=true then false else ws.all K9.plain:=by
 rw[K9.ins_cons];have ml: [K9.MANY,K9.LONG].contains h=(decide (h=K9.MANY)||decide (h=K9.LONG)):=by
  rw[Bool.eq_iff_iff];simp
 have lenN: ∀n:Nat,decide (ws.length=n)=decide ((ws.length:Int)=(n:Int)):=λn=>decide_eq_decide.mpr (by omega);unfold pE;by_cases ho:K9.isOp h=true
 ·have nm: ¬ h=K9.MANY:=λz=>by rw[z]at ho;exact absurd ho (by decide)
  have nl: ¬ h=K9.LONG:=λz=>by rw[z]at ho;exact absurd ho (by decide)
  rw[if_pos ho,if_pos ho,ml,decide_eq_false nm,decide_eq_false nl,if_neg (by decide)];by_cases hl:ws.length=2
  ·rw[decide_eq_true hl,if_neg (by omega)];rfl
  ·rw[decide_eq_false hl,if_pos (by omega)];rfl
 rw[if_neg ho,if_neg ho];by_cases hi:h=K9.IFW
 ·have nm: ¬ h=K9.MANY:=λz=>by rw[z]at hi;exact absurd hi (by decide)
  have nl: ¬ h=K9.LONG:=λz=>by rw[z]at hi;exact absurd hi (by decide)
  rw[if_pos hi,if_pos hi,ml,decide_eq_false nm,decide_eq_false nl,if_neg (by decide)];by_cases hl:ws.length=3
  ·rw[decide_eq_true hl,if_neg (by omega)];rfl
  ·rw[decide_eq_false hl,if_pos (by omega)];rfl
 rw[if_neg hi,if_neg hi];by_cases hm:h=K9.MANY
 ·rw[if_pos hm,if_pos hm,ml,decide_eq_true hm,Bool.true_or]
  cases told with
  | true=>simp
  | false=>
   by_cases hl:ws.length=2
   ·rw[decide_eq_true hl];simp[hl]
   ·have: ¬ (ws.length:Int)=2:=by omega
    rw[decide_eq_false hl];simp[this]
 rw[if_neg hm,if_neg hm];by_cases hn:h=K9.LONG
 ·rw[if_pos hn,if_pos hn,ml,decide_eq_true hn,Bool.or_true]
  cases told with
  | true=>simp
  | false=>
   by_cases hl:ws.length=1
   ·rw[decide_eq_true hl];simp[hl]
   ·have: ¬ (ws.length:Int)=1:=by omega
    rw[decide_eq_false hl];simp[this]
 rw[if_neg hn,if_neg hn,if_pos rfl];cases told <;> rfl
theorem zhZ:("~" :Str)=⟨#[126]⟩:=by decide+kernel
theorem zgj:("(" :Str)=⟨#[40]⟩:=by decide+kernel
theorem zoN:(")" :Str)=⟨#[41]⟩:=by decide+kernel
theorem zmd:("" :Str)=K9.S []:=by decide+kernel
theorem zql {told:Bool} :K9.tb told []=false:=by cases told <;> decide
theorem c40 (c:Nat):((⟨#[c]⟩:Str)==("(" :Str))=decide (c=40):=by
 rw[show(⟨#[c]⟩:Str)=K9.S [c]from rfl,l40];exact decide_eq_decide.mpr ⟨λh=>by cases h;rfl,λh=>by rw[h]⟩
theorem c41 (c:Nat):((⟨#[c]⟩:Str)==(")" :Str))=decide (c=41):=by
 rw[show(⟨#[c]⟩:Str)=K9.S [c]from rfl,l41];exact decide_eq_decide.mpr ⟨λh=>by cases h;rfl,λh=>by rw[h]⟩
theorem zqw (d:Int)(c:Nat):d+(if decide (c=40)=true then 1 else 0) - (if decide (c=41)=true then 1 else 0)=d+K9.up c:=by
 unfold K9.up;simp only[decide_eq_true_eq];omega
theorem zfI {x:W9}{c:Nat}{z:Str}(h:z=⟨#[c]⟩){st:z7}{Q:K3} :wY false (.str z) (sv x) st Q=Q (.bl (decide (c∈x))) st:=by
 subst h;rw[jE,K9.has_one]
def zhG:zQ:=λxs st Q=> ∃(x:W9) (told:Bool),xs= [sv x,.bl told]/\x.length<=300000/\Q (.bl true) st
def lS:zQ:=λxs st Q=> ∃ns:List Int,xs= [.lst (ns.map PV.int)]/\st= []/\ns.length<=63/\Q (.bl true) []
theorem zib {z:Str}{told:Bool}{st:z7}{Q:K3}(h:z.length<=300000)(q:Q (.bl true) st):zhG [.str z,.bl told] st Q:=
 ⟨z.cps.toList,told,by rw[show sv z.cps.toList=PV.str z from congrArg PV.str (K9.l_S z)],h,q⟩
theorem kQ {s:z7}{o:PO} :(s++ [o])[s.length]?=some o:=by rw[List.getElem?_append_right (Nat.le_refl _),Nat.sub_self];rfl
theorem zjY {d:Int}(h0:0<=d)(h1:d < 2):(Txt.mul "(+ 1 " (20+d)).length<=200/\(Txt.mul ")" (20+d)).length<=200:=by
 have:d=0∨d=1:=by omega
 rcases this with rfl | rfl <;> decide+kernel
end
section
variable {P:Program} {w:World} {K:Frag} {mg:Str->Option Value} {base:Heap} {HE B J:Addr} {fj:FuncData}
theorem rV (N:XE K mg HE B J fj):zZ P w K mg base yE 1 J fj ["self","at"] (zhK B "at" λv=>v= .int 0):=by
 refine N.nf.ok zoX (λvs H Q E h=>by obtain⟨e,v,rfl,_⟩:=h;rfl) (λcdv A outer s H vs Q E hr h=> ?_);obtain⟨e,v,rfl,rfl,he,q⟩:=h;refine⟨_,zbI (zhc (znq N.top (by rfl) N.gh (rW (pv 0) (rW (zns (zbH zbG (zbH (znp (pv 1)) (zbH zbG zn8)))) lC)))) (zbJ (znJ (HE:=HE) (pv 0) (pv 1) (by rfl))),?_⟩;refine⟨_,rfl,_,rfl,by decide+kernel,_,rfl,0,rfl,by decide,_,rfl,by decide+kernel,_,rfl,by decide+kernel,by decide+kernel,e,B,none,_,rfl,he,N.nh,?_⟩;exact⟨_,rfl,_,rfl,e,B,rfl,he,N.nh,N.na,λdx hd=>q dx hd⟩
theorem nd0:(["text","sign"]:List Str).Nodup:=by decide+kernel
theorem zgA (M:Mo K mg){f:Addr}{fd:FuncData}(F:zN K "is_word" "is_word" lR f fd):zZ P w K mg base yE 1 f fd ["text"] (yD K (zhJ)):=by
 obtain⟨tLONGEST,zLONGEST⟩:=M.LONGEST;obtain⟨tLETTERS,zLETTERS⟩:=M.LETTERS;refine xU 0 F zpj (λxs st Q h=>by obtain⟨w,rfl,_⟩:=h;rfl) ⟨_,λcdv A outer s H E hr=>(zH (y9 (PW.pt (uK (y7 sL (xI vD (by rfl) M.len PySem.boot_len (z5 (qv 0) z8)) zD (y4 _)) (tU (y7 rT (xI vD (by rfl) M.len PySem.boot_len (z5 (qv 0) z8)) (sQ (v:= .int 8) (y:= .int 8) (by rfl) zLONGEST ⟨_,rfl⟩ (λ_ _=> .val (.int _))) (y4 _))))) (zM (zX sN)) yA)
   (zM (zX (xI (mX rfl) (by rfl) M.all boot_all (z5 (sP (own:= ["sign"]) (uW (fsc:=zR lR) (N:= ["text"]) (N':= ["text"]) rfl rfl (by decide+kernel)) rfl (tT (qv 0)) (λC s H fp pins=>(vN (i:=1) nd0 rfl (Or.inl rfl))) (λC s H fp pins=>tS) (λC s H fp pins=>(vU (sK hr) (qv 1) (sQ (v:= .str "abcdefghijklmnopqrstuvwxyz") (y:= .str "abcdefghijklmnopqrstuvwxyz") (by rfl) zLETTERS ⟨_,rfl⟩ (λ_ _=> .val (.str _))) (by rfl)))) z8))))),λxs st Q h=> ?_⟩
 obtain⟨w,rfl,hw,q⟩:=h;have hz:=qM hw
 simp_all? only[true_and]
 have hl:=K9.S_len w;refine⟨hz,xD (λh=> ?_) (λh=>⟨hz,xD (λh2=> ?_) (λh2=>⟨hz,?_⟩)⟩)⟩
 ·have h:=of_decide_eq_true h
  have e:K9.plain w=false:=by unfold K9.plain;rw[decide_eq_false (by omega)];rfl
  rw[e]at q;exact q
 ·have h2:=of_decide_eq_true h2
  have e:K9.plain w=false:=by unfold K9.plain;rw[decide_eq_false (show ¬ w.length<=8 by omega),Bool.and_false];rfl
  rw[e]at q;exact q
 ·have h:=of_decide_eq_false (Bool.not_eq_true _▸h)
  have h2:=of_decide_eq_false (Bool.not_eq_true _▸h2);refine o8 (jD "abcdefghijklmnopqrstuvwxyz") (λj x e hx he=> ?_) ?_
  ·obtain⟨c,hc,rfl⟩:=rQ hx
   obtain⟨y,rfl⟩:=pB he
   simp_all? only[jE]
   exact CP.yes (e':= [_]) hx rfl rfl
  ·rw[zbi zgd zge]
   refine⟨_,rfl,?_⟩;rw[gY]
   simp_all? only[true_and]
   have e:K9.plain w=w.all K9.letter:=by unfold K9.plain;rw[decide_eq_true (show 1<=w.length by omega),decide_eq_true (show w.length<=8 by omega)];rfl
   rw[e]at q;exact q
theorem nd1:(["text","most","sign"]:List Str).Nodup:=by decide+kernel
theorem zmA (M:Mo K mg){f:Addr}{fd:FuncData}(F:zN K "is_number" "is_number" lQ f fd):zZ P w K mg base yE 1 f fd ["text","most"] (yD K (zp9)):=by
 obtain⟨tFIGURES,zFIGURES⟩:=M.FIGURES;refine xU 0 F zpi (λxs st Q h=>by obtain⟨w,rfl,_⟩:=h;rfl) ⟨_,λcdv A outer s H E hr=>(zH (y9 (PW.pt (uK (y7 sL (xI vD (by rfl) M.len PySem.boot_len (z5 (qv 0) z8)) zD (y4 _)) (tU (y7 rT (xI vD (by rfl) M.len PySem.boot_len (z5 (qv 0) z8)) (qv 1) (y4 _))))) (zM (zX sN)) yA)
   (zH (y9 (PW.pt (oY (y7 rT (xI vD (by rfl) M.len PySem.boot_len (z5 (qv 0) z8)) zD (y4 _)) (oZ (y7 (xE hr) (x6 (x5 hr) (qv 0) zD (λ_ _=>rfl)) zB (y4 _))))) (zM (zX sN)) yA)
   (zM (zX (xI (mX rfl) (by rfl) M.all boot_all (z5 (sP (own:= ["sign"]) (uW (fsc:=zR lQ) (N:= ["text","most"]) (N':= ["text","most"]) rfl rfl (by decide+kernel)) rfl (tT (qv 0)) (λC s H fp pins=>(vN (i:=2) nd1 rfl (Or.inl rfl))) (λC s H fp pins=>tS) (λC s H fp pins=>(vU (sK hr) (qv 2) (sQ (v:= .str "0123456789") (y:= .str "0123456789") (by rfl) zFIGURES ⟨_,rfl⟩ (λ_ _=> .val (.str _))) (by rfl)))) z8)))))),λxs st Q h=> ?_⟩
 obtain⟨w,rfl,hw,q⟩:=h;have hz:=qM hw;have hl:=K9.S_len w
 simp_all? only[true_and]
 refine⟨hz,xD (λh=> ?_) (λh=>⟨hz,xD (λh2=> ?_) (λh2=> ?_)⟩)⟩
 ·have h:=of_decide_eq_true h
  have e:K9.figs w=false:=by unfold K9.figs;rw[decide_eq_false (show ¬ 1<=w.length by omega)];rfl
  rw[e]at q;exact q
 ·have h2:=of_decide_eq_true h2
  have e:K9.figs w=false:=by unfold K9.figs;rw[decide_eq_false (show ¬ w.length<=10 by omega),Bool.and_false];rfl
  rw[e]at q;exact q
 ·have h:=of_decide_eq_false (Bool.not_eq_true _▸h)
  have h2:=of_decide_eq_false (Bool.not_eq_true _▸h2);have comp:tX 1 (gN 2) lY (tW (wY false) (uO 2) (vC (PV.str (Str.ofString "0123456789")))) none (vV (K9.S w)) (λys st2=>jZ [PV.lst ys] st2 λr s=>r= .bl (w.all K9.digit)/\s=st) [some (sv w),some (PV.int 10)] st:=by
   refine o8 (jD "0123456789") (λj x e hx he=> ?_) ?_
   ·obtain⟨c,hc,rfl⟩:=rQ hx
    obtain⟨y,rfl⟩:=pB he
    simp_all? only[jE]
    exact CP.yes (e':= [_]) hx rfl rfl
   ·rw[zbi zaY zaZ]
    refine⟨_,rfl,?_⟩;rw[gY];exact⟨rfl,rfl⟩
  have fin:K9.figs w=w.all K9.digit->tX 1 (gN 2) lY (tW (wY false) (uO 2) (vC (PV.str (Str.ofString "0123456789")))) none (vV (K9.S w)) (λys st2=>jZ [PV.lst ys] st2 (yZ (List.length st) Q)) [some (sv w),some (PV.int 10)] st:=λe=>by
   obtain⟨p,p0,p1,p2⟩:=comp;refine⟨p,p0,p1,λys env s hp=> ?_⟩;obtain⟨bs,eb,er,rfl⟩:=p2 ys env s hp;refine⟨bs,eb,?_⟩;rw[er]
   simp_all? only[true_and]
   rw[e]at q;exact q
  refine⟨hz,xD (λh3=>⟨hz,?_⟩) (λh3=>⟨hz,fin ?_⟩)⟩
  ·have h3:=of_decide_eq_true h3
   cases w with
   | nil=>exact absurd (show((K9.S ([]:W9)).length:Int) < 1 from by decide) h
   | cons c r=>
    rw[show atI (c::r) 0=some c from sC (j:=0) rfl];show(if _ then _ else _);refine xD (λh4=> ?_) (λh4=>⟨hz,fin ?_⟩)
    ·have e4:c=48:=by
      have:(⟨#[c]⟩:Str)=⟨#[48]⟩:=(beq_iff_eq.mp h4).trans (by decide+kernel);have:=congrArg (λx:Str=>x.cps) this;simpa using this
     have e:K9.figs (c::r)=false:=by
      unfold K9.figs;rw[e4,show decide (1 < (48::r:W9).length)=true from decide_eq_true (by rw[<- e4];omega)];simp
     rw[e]at q;exact q
    ·have e4:c≠48:=λz=>h4 (by rw[z];decide+kernel)
     unfold K9.figs;rw[decide_eq_true (show 1<=(c::r).length by omega),decide_eq_true (show(c::r).length<=10 by omega)];simp[e4]
  ·have h3:=of_decide_eq_false (Bool.not_eq_true _▸h3)
   unfold K9.figs;rw[decide_eq_true (show 1<=w.length by omega),decide_eq_true (show w.length<=10 by omega),decide_eq_false (show ¬ 1 < w.length by omega)];simp
theorem zmC (M:Mo K mg){HE B J:Addr}{fj:FuncData}(N:XE K mg HE B J fj){f:Addr}{fd:FuncData}(F:zN K "number_of" "number_of" iS f fd):zZ P w K mg base (yJ P w u7) 3 f fd ["piece","least","most"] (w4 K (zhC B)):=by
 obtain⟨zuv,zur,zdd,zjv,zlN⟩:=M.is_number;have ziK:=zmA (P:=P) (w:=w) (base:=base) M zdd;have GX:=rV (P:=P) (w:=w) (base:=base) N;obtain⟨tFIGURES_AT_MOST,zFIGURES_AT_MOST⟩:=M.FIGURES_AT_MOST;refine tP 0 F zh6 (λxs st Q W h=>by obtain⟨w,rfl,_⟩:=h;rfl) ⟨λW=>_,λcdv A outer s H E W hr hE=>have hr1:zF 1 _:=hr.mono (by decide);have hrX:zF 2 _:=hr.mono (by decide);(zH (y9 (sU (vF (zW ziK hr1 (by rfl) zlN zdd.kp zjv (z5 (qv 0) (z5 (sQ (v:= .int 10) (y:= .int 10) (by rfl) zFIGURES_AT_MOST ⟨_,rfl⟩ (λ_ _=> .val (.int _))) z8))))) (zM (sT N.top N.nh N.nhi GX hrX N.gn N.nb sX rfl hE rfl zD)) yA)
   (zH (y6 (i:=3) zh6.nd rfl (Or.inl rfl) (vE zb9 (by rfl) M.int rD (z5 (qv 0) z8)))
   (zH (y9 (PW.pt (uK (y7 sL (qv 3) (qv 1) (y4 _)) (tU (y7 rT (qv 3) (qv 2) (y4 _))))) (zM (sT N.top N.nh N.nhi GX hrX N.gn N.nb sX rfl hE rfl zD)) yA)
   (zM (zX (qv 3)))))),λxs st Q W h=> ?_⟩
 obtain⟨w,rfl,hw,q⟩:=h
 simp_all? only[true_and]
 refine⟨w,rfl,hw,?_⟩
 simp_all? only[true_and]
 have rx:XB B W->∃v,lD (PV.int 0)=some v/\v=V.int 0/\W B (some (Str.ofString "at",PV.int 0)):=λz=>⟨_,rfl,rfl,z⟩;have no:K9.isNum w=false->XB B W:=λe=>q.elim (λz=>by rw[e]at z;cases z.1) λz=>z.2;cases hf:K9.figs w with
 | false=>exact rx (no (by unfold K9.isNum;rw[hf];rfl))
 | true=>
  obtain⟨h1,h2,h3⟩:=zkv hf;refine⟨by rw[K9.S_len];omega,_,K9.int_of h3 h1 (by omega),?_⟩;refine xD (λh=>absurd (of_decide_eq_true h) (by omega)) λ_=>xD (λh=> ?_) (λh=> ?_)
  ·have h:=of_decide_eq_true h
   exact rx (no (by unfold K9.isNum;rw[hf,decide_eq_false (by omega)];rfl))
  ·have h:=of_decide_eq_false (Bool.not_eq_true _▸h)
   refine q.elim (λz=>z.2) λz=> ?_;have e:K9.isNum w=true:=by unfold K9.isNum;rw[hf,decide_eq_true (by omega)];rfl
   rw[e]at z;cases z.1
theorem zgB (M:Mo K mg){HE B J:Addr}{fj:FuncData}(N:XE K mg HE B J fj){f:Addr}{fd:FuncData}(F:zN K "plain_term" "plain_term" iV f fd):zZ P w K mg base (yJ P w u7) 4 f fd ["piece","told"] (w4 K (zp_ B)):=by
 obtain⟨zkx,zks,nW,fL,zb4⟩:=M.is_word;have gJ:=zgA (P:=P) (w:=w) (base:=base) M nW;obtain⟨zuw,zus,zdf,zjw,zlQ⟩:=M.number_of;have ziL:=zmC (P:=P) (w:=w) (base:=base) M N zdf;obtain⟨tWIDE,zWIDE⟩:=M.WIDE;obtain⟨aTHREE,zTHREE,kTHREE⟩:=M.THREE;refine tP 0 F zpk (λxs st Q W h=>by obtain⟨w,told,rfl,_⟩:=h;rfl) ⟨λW=>_,λcdv A outer s H E W hr hE=>have hr1:zF 1 _:=hr.mono (by decide);have hr3:zF 3 _:=hr.mono (by decide);(zH (y9 (PW.pt (oY (vF (qv 1)) (oZ (y7 (sK hr) (qv 0) (sQ (v:= .ref aTHREE) (y:= .tup [.str "was",.str "mine",.str "yours"]) (by rfl) zTHREE rfl (λ_ _=> .val (.tup (.inr kTHREE) (by show 3<=sizeLine;decide) (.cons (.str _) (.cons (.str _) (.cons (.str _) .nil)))))) (by rfl))))) (zM (zX (sR (z5 (qv 0) z8)))) yA)
   (zH (y9 (PW.pt (oY (sU (vF (qv 1))) (oZ (vF (zW gJ hr1 (by rfl) zb4 nW.kp fL (z5 (qv 0) z8)))))) (zM (zX (sR (z5 zB (z5 (qv 0) z8))))) yA)
   (zM (zX (sR (z5 zB (z5 (rX ziL hr3 zlQ zdf zjw wV hE (z5 (qv 0) (z5 zD (z5 (zK pH (sQ (v:= .int 4294967296) (y:= .int 4294967296) (by rfl) zWIDE ⟨_,rfl⟩ (λ_ _=> .val (.int _))) zD) z8)))) z8))))))),λxs st Q W h=> ?_⟩
 obtain⟨w,told,rfl,hw,q⟩:=h
 simp_all? only[zfM]
 have num:(told&&K9.three.contains w)=false->(!told&&K9.plain w)=false->zhC B [sv w,PV.int 0,PV.int 4294967295] st (λx st1=>yG x=true/\Q (PV.tup [PV.str (Str.ofString "num"),x]) (List.take (List.length st) st1)) W:=λh1 h2=>by
  have eb:K9.bare told w=K9.isNum w:=by
   cases told with
   | true=>rw[fG,show K9.three.contains w=false from h1,Bool.or_false]
   | false=>rw[fF,show K9.plain w=false from h2,Bool.or_false]
  refine⟨w,rfl,hw,?_⟩;rw[eb]at q;rcases q with⟨e,q⟩ | q
  ·refine .inl ⟨e,rfl,?_⟩
   unfold yL at q;rw[h1,h2]at q
   simp_all? only[true_and]
   exact q
  ·exact .inr q
 cases told with
 | true=>
  simp_all? only[zfM]
  cases e:K9.three.contains w with
  | true=>
   simp_all? only[true_and]
   rcases q with⟨_,q⟩ | ⟨z,_⟩
   ·unfold yL at q
    rw[e]at q;exact q
   ·rw[fG,e,Bool.or_true]at z;cases z
  | false=>
   simp_all? only[true_and]
   exact num e rfl
 | false=>
  simp_all? only[true_and]
  refine⟨w,rfl,hw,?_⟩
  simp_all? only[true_and]
  cases e:K9.plain w with
  | true=>
   simp_all? only[true_and]
   rcases q with⟨_,q⟩ | ⟨z,_⟩
   ·unfold yL at q
    rw[e]at q;exact q
   ·rw[fF,e,Bool.or_true]at z;cases z
  | false=>
   simp_all? only[true_and]
   exact num rfl e
theorem zg9 (M:Mo K mg){C Ia:Addr}{fi:FuncData}{Aa:Addr}{fa:FuncData}{Ta:Addr}{ft:FuncData}{Ka:Addr}{fk:FuncData}{Ea:Addr}{fe:FuncData}{Wa:Addr}{fw:FuncData}(U:PX K mg C Ia fi Aa fa Ta ft Ka fk Ea fe Wa fw):zZ P w K mg base yE 1 Aa fa ["self"] (yD K (zp0 C)):=by
 refine xU 0 U.fA zpd (λxs st Q h=>by obtain⟨i,dx,ws,k,rfl,_⟩:=h;rfl) ⟨_,λcdv A outer s H E hr=>(zM (zX (vU (xE hr) (lE U.cl U.nL (qv 0)) (xI vD (by rfl) M.len PySem.boot_len (z5 (lE U.cl U.nP (qv 0)) z8)) (y4 _)))),λxs st Q h=> ?_⟩;obtain⟨i,dx,ws,k,rfl,hi,hl,q⟩:=h
 simp_all? only[true_and]
 refine⟨_,_,_,_,sG hi,lkL,_,_,_,_,sG hi,lkP,?_⟩
 simp_all? only[List.length_map]
 have e:((k:Int)==(ws.length:Int))=decide (k=ws.length):=by
  by_cases h:k=ws.length
  ·rw[h,decide_eq_true rfl];exact beq_self_eq_true _
  ·rw[decide_eq_false h];exact beq_eq_false_iff_ne.mpr (by omega)
 rw[e];exact q
theorem lA (M:Mo K mg){HE B J:Addr}{fj:FuncData}(N:XE K mg HE B J fj){C Ia:Addr}{fi:FuncData}{Aa:Addr}{fa:FuncData}{Ta:Addr}{ft:FuncData}{Ka:Addr}{fk:FuncData}{Ea:Addr}{fe:FuncData}{Wa:Addr}{fw:FuncData}(U:PX K mg C Ia fi Aa fa Ta ft Ka fk Ea fe Wa fw):zZ P w K mg base (yJ P w u7) 3 Ta ft ["self"] (w4 K (qB B C [] p1 sv)):=by
 have GA:=zg9 (P:=P) (w:=w) (base:=base) M U;have GX:=rV (P:=P) (w:=w) (base:=base) N;refine tP 0 U.fT zh4 (λxs st Q W h=>by obtain⟨i,dx,ws,k,rfl,_⟩:=h;rfl) ⟨λW=>_,λcdv A outer s H E W hr hE=>have hr1:zF 1 _:=hr.mono (by decide);have hrX:zF 2 _:=hr.mono (by decide);(zH (y9 (vF (zhj U.cl U.mA GA hr1 U.bA (qv 0))) (zM (sT N.top N.nh N.nhi GX hrX N.gn N.nb sX rfl hE rfl zD)) yA)
   (zH (y6 (i:=1) zh4.nd rfl (Or.inl rfl) (x6 (x5 hr) (lE U.cl U.nP (qv 0)) (lE U.cl U.nL (qv 0)) (λ_ _=>rfl)))
   (zH (zbP U.cl U.nL (qv 0) (zK zY (lE U.cl U.nL (qv 0)) zD))
   (zM (zX (qv 1)))))),λxs st Q W h=> ?_⟩
 obtain⟨i,dx,ws,k,rfl,hi,hl,hw,hk,q⟩:=h
 simp_all? only[true_and]
 refine⟨tL hi,i,dx,ws,k,rfl,hi,hl,?_⟩
 simp_all? only[true_and]
 by_cases hz:k=ws.length
 ·rw[decide_eq_true hz]
  simp_all? only[true_and]
  rw[(eJ hk).mp hz]at q;rcases q with⟨t,r,e,_⟩ | ⟨_,q⟩
  ·cases e
  ·exact⟨_,rfl,rfl,q⟩
 ·rw[decide_eq_false hz]
  obtain⟨w,h1,h2,h3⟩:=zk4 (ws:=ws) (k:=k) (by omega)
  simp_all? only[true_and]
  refine⟨_,_,_,_,sG hi,lkP,_,_,_,_,sG hi,lkL,?_⟩
  simp_all? only[h3]
  refine⟨_,_,_,_,sG hi,lkL,?_⟩
  simp_all? only[true_and]
  refine⟨_,_,_,sG hi,?_⟩
  simp_all? only[true_and]
  rw[zoa (show((k:Int)+1)=((k+1:Nat):Int) by omega)];rw[h2]at q;rcases q with⟨t,r,e,q⟩ | ⟨e,_⟩
  ·cases e
   have:=q (k+1) rfl (by omega)
   simp_all? only[true_and]
   exact this
  ·cases e
theorem zg_ (M:Mo K mg){HE B J:Addr}{fj:FuncData}(N:XE K mg HE B J fj){C Ia:Addr}{fi:FuncData}{Aa:Addr}{fa:FuncData}{Ta:Addr}{ft:FuncData}{Ka:Addr}{fk:FuncData}{Ea:Addr}{fe:FuncData}{Wa:Addr}{fw:FuncData}(U:PX K mg C Ia fi Aa fa Ta ft Ka fk Ea fe Wa fw):zZ P w K mg base (yJ P w u7) 4 Ka fk ["self"] (w4 K (qB B C [] pc (λ_=> .non))):=by
 have GT:=lA (P:=P) (w:=w) (base:=base) M N U;have GX:=rV (P:=P) (w:=w) (base:=base) N;refine tP 0 U.fK zpf (λxs st Q W h=>by obtain⟨i,dx,ws,k,rfl,_⟩:=h;rfl) ⟨λW=>_,λcdv A outer s H E W hr hE=>have hr3:zF 3 _:=hr.mono (by decide);have hrX:zF 2 _:=hr.mono (by decide);(zM (y9 (y7 (mZ hr) (tR U.cl U.mT GT hr3 U.bT wV hE (qv 0)) zB (y4 _)) (zM (sT N.top N.nh N.nhi GX hrX N.gn N.nb sX rfl hE rfl zD)) yA)),λxs st Q W h=> ?_⟩;obtain⟨i,dx,ws,k,rfl,hi,hl,hw,hk,q⟩:=h
 simp_all? only[true_and]
 refine⟨tL hi,i,dx,ws,k,rfl,hi,hl,hw,hk,?_⟩;cases hd:ws.drop k with
 | nil=>
  rw[hd]at q;rcases q with⟨t,r,e,_⟩ | ⟨_,q⟩
  ·cases e
  ·exact .inr ⟨rfl,q⟩
 | cons x r=>
  refine .inl ⟨x,r,rfl,λk' e' hk'=> ?_⟩;rw[hd]at q
  simp_all? only[l41]
  by_cases hx:x= [41]
  ·rw[decide_eq_true hx]
   simp_all? only[true_and]
   rcases q with⟨t,r',e,q⟩ | ⟨e,_⟩
   ·rw[show pc (x::r)=some ((),r)from if_pos hx]at e
    cases e;exact q k' e' hk'
   ·rw[show pc (x::r)=some ((),r)from if_pos hx]at e;cases e
  ·rw[decide_eq_false hx]
   simp_all? only[true_and]
   rcases q with⟨t,r',e,q⟩ | ⟨_,q⟩
   ·rw[show pc (x::r)=none from if_neg hx]at e;cases e
   ·exact⟨_,rfl,rfl,q⟩
theorem zm7 (M:Mo K mg){HE B J:Addr}{fj:FuncData}(N:XE K mg HE B J fj){C Ia:Addr}{fi:FuncData}{Aa:Addr}{fa:FuncData}{Ta:Addr}{ft:FuncData}{Ka:Addr}{fk:FuncData}{Ea:Addr}{fe:FuncData}{Wa:Addr}{fw:FuncData}(U:PX K mg C Ia fi Aa fa Ta ft Ka fk Ea fe Wa fw):zZ P w K mg base (yJ P w u7) 3 Ea fe ["self"] (w4 K (zpB B C)):=by
 have GA:=zg9 (P:=P) (w:=w) (base:=base) M U;have GX:=rV (P:=P) (w:=w) (base:=base) N;refine tP 0 U.fE zpe (λxs st Q W h=>by obtain⟨i,dx,ws,k,rfl,_⟩:=h;rfl) ⟨λW=>_,λcdv A outer s H E W hr hE=>have hr1:zF 1 _:=hr.mono (by decide);have hrX:zF 2 _:=hr.mono (by decide);(zM (y9 (sU (vF (zhj U.cl U.mA GA hr1 U.bA (qv 0)))) (zM (sT N.top N.nh N.nhi GX hrX N.gn N.nb sX rfl hE rfl zD)) yA)),λxs st Q W h=> ?_⟩;obtain⟨i,dx,ws,k,rfl,hi,hl,q⟩:=h
 simp_all? only[true_and]
 refine⟨tL hi,i,dx,ws,k,rfl,hi,hl,?_⟩
 simp_all? only[true_and]
 rcases q with⟨e,q⟩ | ⟨e,q⟩
 ·rw[decide_eq_true e];simp_all? only[true_and];exact q
 ·rw[decide_eq_false e];simp_all? only[true_and];exact⟨_,rfl,rfl,q⟩
theorem zm9 (M:Mo K mg){HE B J:Addr}{fj:FuncData}(N:XE K mg HE B J fj){C Ia:Addr}{fi:FuncData}{Aa:Addr}{fa:FuncData}{Ta:Addr}{ft:FuncData}{Ka:Addr}{fk:FuncData}{Ea:Addr}{fe:FuncData}{Wa:Addr}{fw:FuncData}(U:PX K mg C Ia fi Aa fa Ta ft Ka fk Ea fe Wa fw):zZ P w K mg base (yJ P w u7) 4 Wa fw ["self"] (w4 K (qB B C [] K9.pw sv)):=by
 obtain⟨zkx,zks,nW,fL,zb4⟩:=M.is_word;have gJ:=zgA (P:=P) (w:=w) (base:=base) M nW;have GT:=lA (P:=P) (w:=w) (base:=base) M N U;have GX:=rV (P:=P) (w:=w) (base:=base) N;refine tP 0 U.fW zh5 (λxs st Q W h=>by obtain⟨i,dx,ws,k,rfl,_⟩:=h;rfl) ⟨λW=>_,λcdv A outer s H E W hr hE=>have hr1:zF 1 _:=hr.mono (by decide);have hr3:zF 3 _:=hr.mono (by decide);have hrX:zF 2 _:=hr.mono (by decide);(zH (y6 (i:=1) zh5.nd rfl (Or.inl rfl) (tR U.cl U.mT GT hr3 U.bT wV hE (qv 0)))
   (zH (y9 (sU (vF (zW gJ hr1 (by rfl) zb4 nW.kp fL (z5 (qv 1) z8)))) (zM (sT N.top N.nh N.nhi GX hrX N.gn N.nb sX rfl hE rfl zD)) yA)
   (zM (zX (qv 1))))),λxs st Q W h=> ?_⟩
 obtain⟨i,dx,ws,k,rfl,hi,hl,hw,hk,q⟩:=h
 simp_all? only[true_and]
 refine⟨tL hi,i,dx,ws,k,rfl,hi,hl,hw,hk,?_⟩;cases hd:ws.drop k with
 | nil=>
  rw[hd]at q;rcases q with⟨t,r,e,_⟩ | ⟨_,q⟩
  ·cases e
  ·exact .inr ⟨rfl,q⟩
 | cons x r=>
  refine .inl ⟨x,r,rfl,λk' e' hk'=> ?_⟩;rw[hd]at q;have hx:x∈ws:=List.mem_of_mem_drop (by rw[hd];exact List.mem_cons_self ..);refine⟨x,rfl,hw x hx,?_⟩;cases hp:K9.plain x with
  | true=>
   simp_all? only[true_and]
   rcases q with⟨t,r',e,q⟩ | ⟨e,_⟩
   ·rw[show K9.pw (x::r)=some (x,r)from if_pos hp]at e
    cases e;exact q k' e' hk'
   ·rw[show K9.pw (x::r)=some (x,r)from if_pos hp]at e;cases e
  | false=>
   simp_all? only[true_and]
   have hn:K9.pw (x::r)=none:=if_neg (by rw[hp];decide);rcases q with⟨t,r',e,q⟩ | ⟨_,q⟩
   ·rw[hn]at e;cases e
   ·exact⟨_,rfl,rfl,q⟩
theorem zm8 (M:Mo K mg){C Ia:Addr}{fi:FuncData}{Aa:Addr}{fa:FuncData}{Ta:Addr}{ft:FuncData}{Ka:Addr}{fk:FuncData}{Ea:Addr}{fe:FuncData}{Wa:Addr}{fw:FuncData}(U:PX K mg C Ia fi Aa fa Ta ft Ka fk Ea fe Wa fw):t5 P w K mg base yE 2 Ia fi ["self","text"] (yD K (zp4 C)):=by
 refine zmw 0 U.fI zh3 (λxs st Q h=>by obtain⟨i,dx,x,rfl,_⟩:=h;rfl) ⟨_,λcdv A outer s H E hr=>(jY (zhl (i:=2) zh3.nd rfl (Or.inl rfl) (zhi (by decide+kernel) (by decide) (zhi (by decide+kernel) (by decide) (qv 1).toP))) (yI.toP (zH (zbP U.cl U.nP (qv 0) (sO PySem.F.plainAttrs_str PySem.F.slot_str_split PySem.F.type_str_split (by decide) zbA (qv 2) (z5 zB z8)))
   (zM (zbP U.cl U.nL (qv 0) zD))))),λxs st Q h=> ?_⟩
 obtain⟨i,dx,x,rfl,hi,hl,q⟩:=h;have h32:("(" :Str)=⟨#[40]⟩:=by decide+kernel
 have h33:(")" :Str)=⟨#[41]⟩:=by decide+kernel
 have hA:("( " :Str).cps.toList= [40,32]:=by decide+kernel
 have hB:(" )" :Str).cps.toList= [32,41]:=by decide+kernel
 have r1:=K9.rep_len1 x "( " hA;have r2:=K9.rep_eq x "( " " )" hA hB;have r3:=K9.rep_len x
 simp_all? only[h32,h33,r2]
 refine⟨by rw[K9.S_len];omega,by omega,?_⟩;refine⟨by decide+kernel,by rw[K9.S_len];omega,i,dx,[],sG hi,by decide,i,dx,_,sG (y8 hi),by show 1 < 900;decide,?_⟩;rw[zc6,vM,List.set_set]
 simp_all? only[true_and]
 exact q
theorem nd2:(["pieces","told","around","many","k"]:List Str).Nodup:=by decide+kernel
theorem zmF (M:Mo K mg){HE B J:Addr}{fj:FuncData}(N:XE K mg HE B J fj){C Ia:Addr}{fi:FuncData}{Aa:Addr}{fa:FuncData}{Ta:Addr}{ft:FuncData}{Ka:Addr}{fk:FuncData}{Ea:Addr}{fe:FuncData}{Wa:Addr}{fw:FuncData}(U:PX K mg C Ia fi Aa fa Ta ft Ka fk Ea fe Wa fw)(told:Bool)(n:Nat){uY:Addr}{uX:FuncData}(t8:zN K "take_terms" "take_terms" pS uY uX)(sD:zS K uX ["pieces","told","around","many"] [])(sI:mg "take_terms" =some (.ref uY)){rJ:Addr}{rH:FuncData}(tY:zN K "take_term" "take_term" lU rJ rH)(qR:zS K rH ["pieces","told","around"] [])(pG:mg "take_term" =some (.ref rJ))(gL:zZ P w K mg base (yJ P w u7) (3 * n+5) rJ rH ["pieces","told","around"] (w4 K (zhI B C told n))):zZ P w K mg base (yJ P w u7) (3 * n+6) uY uX ["pieces","told","around","many"] (w4 K (zhH B C told n)):=by
 refine tP 0 t8 zpn (λxs st Q W h=>by obtain⟨m,_,i,dx,ws,k,rfl,_⟩:=h;rfl) ⟨λW=>_,λcdv A outer s H E W hr hE=>have hr70:zF (3 * n+5) _:=hr.mono (by omega);(zM (zX (vE zmu (by rfl) M.tuple zjz (z5 (zok (g0:=u7) (W0:=E) (own:= ["k"]) (uW (fsc:=zR pS) (N:= ["pieces","told","around","many"]) (N':= ["pieces","told","around","many"]) rfl rfl (by decide+kernel)) rfl (lF (by rfl) M.range (z5 (qv 3) z8)) (λC s H fp pins=>(vN (i:=4) nd2 rfl (Or.inl rfl))) (λC s H fp pins=>tS) (λC s H fp pins=>(rX gL hr70 pG tY qR znc hE (z5 (qv 0) (z5 (qv 1) (z5 (qv 2) z8))))) rfl rfl zqn) z8)))),λxs st Q W h=> ?_⟩;obtain⟨m,hm,i,dx,ws,k,rfl,hi,hl,hw,hk,q⟩:=h
 simp_all? only[true_and]
 refine⟨by omega,?_⟩;refine⟨λj ys env s=> ∃(ts:List K9.T9) (ki:Nat) (v:Option PV),ys=ts.map (yL told)/\env= [some (PV.obj i),some (PV.bl told),some (PV.int (20 - ↑n)),some (PV.int ↑m),v]/\s=st.set i (w9 C dx ws ki)/\ki<=ws.length/\j<=m/\
  K9.pN (K9.pT told n) m (ws.drop k)=(match K9.pN (K9.pT told n) (m - j) (ws.drop ki)with | none=>none | some z=>some (ts++z.1,z.2)),⟨[],k,none,rfl,rfl,(zpr hi).symm,hk,Nat.zero_le _,?_⟩,?_,?_⟩
 ·rw[Nat.sub_zero]
  cases K9.pN (K9.pT told n) m (ws.drop k) <;> rfl
 ·rintro j x ys env s hx ⟨ts,ki,v,rfl,rfl,rfl,hki,hj,e⟩
  have hjm:j < m:=(i8 hx).1
  simp_all? only[true_and]
  refine⟨i,dx,ws,ki,rfl,y8 hi,hl,hw,hki,?_⟩;rw[show m - j=(m - (j+1))+1 by omega,zgH]at e;cases ef:K9.pT told n (ws.drop ki)with
  | none=>
   rw[ef]at e;rw[e]at q;rcases q with⟨_,_,z,_⟩ | ⟨_,q⟩
   ·cases z
   ·exact .inr ⟨rfl,q⟩
  | some p=>
   obtain⟨t,r⟩:=p;rw[ef]at e;refine .inl ⟨t,r,rfl,λk' e' hk'=>⟨?_,ts++ [t],k',_,by rw[List.map_append];rfl,rfl,by rw[List.set_set],hk',by omega,?_⟩⟩
   ·exact zgs t
   ·rw[e,e']
    dsimp only;cases K9.pN (K9.pT told n) (m - (j+1)) r with
    | none=>rfl
    | some z=>simp
 ·rintro ys env s ⟨ts,ki,v,rfl,rfl,rfl,hki,hj,e⟩
  rw[qA,Nat.sub_self]at e;have e:K9.pN (K9.pT told n) m (ws.drop k)=some (ts++ [],ws.drop ki):=e;rw[List.append_nil]at e;rw[e]at q
  simp_all? only[true_and]
  rcases q with⟨_,_,z,q⟩ | ⟨z,_⟩
  ·cases z;exact q ki rfl hki
  ·cases z
theorem zmE (M:Mo K mg){HE B J:Addr}{fj:FuncData}(N:XE K mg HE B J fj){C Ia:Addr}{fi:FuncData}{Aa:Addr}{fa:FuncData}{Ta:Addr}{ft:FuncData}{Ka:Addr}{fk:FuncData}{Ea:Addr}{fe:FuncData}{Wa:Addr}{fw:FuncData}(U:PX K mg C Ia fi Aa fa Ta ft Ka fk Ea fe Wa fw)(told:Bool)(n:Nat){qX:Addr}{qW:FuncData}(qI:zN K "take_inside" "take_inside" lT qX qW)(o5:zS K qW ["pieces","told","around"] [])(oR:mg "take_inside" =some (.ref qX)){uY:Addr}{uX:FuncData}(t8:zN K "take_terms" "take_terms" pS uY uX)(sD:zS K uX ["pieces","told","around","many"] [])(sI:mg "take_terms" =some (.ref uY))(zdj:zZ P w K mg base (yJ P w u7) (3 * n+6) uY uX ["pieces","told","around","many"] (w4 K (zhH B C told n))):zZ P w K mg base (yJ P w u7) (3 * n+7) qX qW ["pieces","told","around"] (w4 K (zpC B C told n)):=by
 have GT:=lA (P:=P) (w:=w) (base:=base) M N U;have GW:=zm9 (P:=P) (w:=w) (base:=base) M N U;have GX:=rV (P:=P) (w:=w) (base:=base) N;obtain⟨aOPS,zOPS,kOPS⟩:=M.OPS;refine tP 0 qI zcv (λxs st Q W h=>by obtain⟨i,dx,ws,k,rfl,_⟩:=h;rfl) ⟨λW=>_,λcdv A outer s H E W hr hE=>have hr3:zF 3 _:=hr.mono (by omega);have hr4:zF 4 _:=hr.mono (by omega);have hrX:zF 2 _:=hr.mono (by omega);have hr70:zF (3 * n+6) _:=hr.mono (by omega);(zH (y6 (i:=3) zcv.nd rfl (Or.inl rfl) (tR U.cl U.mT GT hr3 U.bT wV hE (qv 0)))
   (zH (y9 (y7 (sK hr) (qv 3) (sQ (v:= .ref aOPS) (y:= .tup [.str "+",.str "-",.str "*",.str "<",.str "="]) (by rfl) zOPS rfl (λ_ _=> .val (.tup (.inr kOPS) (by show 5<=sizeLine;decide) (.cons (.str _) (.cons (.str _) (.cons (.str _) (.cons (.str _) (.cons (.str _) .nil)))))))) (by rfl)) (zM (zX (zK zY (sR (z5 zB (z5 (qv 3) z8))) (rX zdj hr70 sI t8 sD wV hE (z5 (qv 0) (z5 (qv 1) (z5 (qv 2) (z5 zD z8)))))))) yA)
   (zH (y9 (y7 (xE hr) (qv 3) zB (y4 _)) (zM (zX (zK zY (sR (z5 zB z8)) (rX zdj hr70 sI t8 sD wV hE (z5 (qv 0) (z5 (qv 1) (z5 (qv 2) (z5 zD z8)))))))) yA)
   (zH (y9 (PW.pt (oY (y7 (xE hr) (qv 3) zB (y4 _)) (oZ (sU (vF (qv 1)))))) (zH (y6 (i:=4) zcv.nd rfl (Or.inl rfl) (tR U.cl U.mW GW hr4 U.bW wV hE (qv 0)))
   (zM (zX (sR (z5 zB (z5 (qv 4) (z5 (tR U.cl U.mW GW hr4 U.bW wV hE (qv 0)) z8))))))) yA)
   (zH (y9 (PW.pt (oY (y7 (xE hr) (qv 3) zB (y4 _)) (oZ (sU (vF (qv 1)))))) (zM (zX (sR (z5 zB (z5 (tR U.cl U.mW GW hr4 U.bW wV hE (qv 0)) z8))))) yA)
   (zM (sT N.top N.nh N.nhi GX hrX N.gn N.nb sX rfl hE rfl zD))))))),λxs st Q W h=> ?_⟩
 obtain⟨i,dx,ws,k,rfl,hi,hl,hw,hk,q⟩:=h;refine yH ?_;simp? only[true_and];refine⟨tL hi,i,dx,ws,k,rfl,hi,hl,hw,hk,?_⟩;cases hd:ws.drop k with
 | nil=>
  rw[hd]at q;rcases q with⟨t,r,e,_⟩ | ⟨_,q⟩
  ·cases e
  ·exact .inr ⟨rfl,q⟩
 | cons h r=>
  refine .inl ⟨h,r,rfl,λk1 e1 hk1=> ?_⟩;rw[hd,K9.pI_cons]at q;have s1:(st.set i (w9 C dx ws k1))[i]?=some (w9 C dx ws k1):=y8 hi;have ss: ∀k2,(st.set i (w9 C dx ws k1)).set i (w9 C dx ws k2)=st.set i (w9 C dx ws k2):=λk2=>List.set_set ..;refine yH ?_;simp? only[zkN];cases ho:K9.isOp h with
  | true=>
   simp? only[true_and];rw[if_pos ho]at q;refine⟨2,by decide,i,dx,ws,k1,rfl,s1,hl,hw,hk1,?_⟩;rw[e1];cases ep:K9.pN (K9.pT told n) 2 r with
   | none=>
    rw[ep]at q;rcases q with⟨_,_,z,_⟩ | ⟨_,q⟩
    ·cases z
    ·exact .inr ⟨rfl,q⟩
   | some p=>
    obtain⟨ts,r1⟩:=p;obtain⟨a,b,rfl⟩:=zls (zbC ep);rw[ep]at q;refine .inl ⟨_,_,rfl,λk2 e2 hk2=> ?_⟩;rcases q with⟨_,_,z,q⟩ | ⟨z,_⟩
    ·cases z
     have:=q k2 e2 hk2;rw[ss]
     simp_all? only[true_and]
     exact⟨by decide,this⟩
    ·cases z
  | false=>
   simp? only[true_and];rw[if_neg (by rw[ho];decide)]at q;refine yH ?_;simp? only[lif];by_cases hf:h=K9.IFW
   ·rw[decide_eq_true hf]
    simp? only[true_and];rw[if_pos hf]at q;refine⟨3,by decide,i,dx,ws,k1,rfl,s1,hl,hw,hk1,?_⟩;rw[e1];cases ep:K9.pN (K9.pT told n) 3 r with
    | none=>
     rw[ep]at q;rcases q with⟨_,_,z,_⟩ | ⟨_,q⟩
     ·cases z
     ·exact .inr ⟨rfl,q⟩
    | some p=>
     obtain⟨ts,r1⟩:=p;obtain⟨a,b,c,rfl⟩:=zlt (zbC ep);rw[ep]at q;refine .inl ⟨_,_,rfl,λk2 e2 hk2=> ?_⟩;rcases q with⟨_,_,z,q⟩ | ⟨z,_⟩
     ·cases z
      have:=q k2 e2 hk2;rw[ss]
      simp_all? only[true_and]
      exact⟨by decide,this⟩
     ·cases z
   ·rw[decide_eq_false hf]
    simp? only[true_and];rw[if_neg hf]at q;refine yH ?_;simp? only[zl2];have word: ∀{k2:Nat} {r2:List W9} {s:z7} {Q2:K3},s[i]?=some (w9 C dx ws k2)->ws.drop k2=r2->k2<=ws.length->((∃x r3,K9.pw r2=some (x,r3)/\∀k3,ws.drop k3=r3->k3<=ws.length->Q2 (sv x) (s.set i (w9 C dx ws k3)))∨(K9.pw r2=none/\XB B W))->rL C "take_word" (.obj i) s/\qB B C [] K9.pw sv [.obj i] s Q2 W:=λ{k2 r2 s Q2} g1 g2 g3 g4=>by
     refine⟨tL g1,i,dx,ws,k2,rfl,g1,hl,hw,g3,?_⟩;rw[g2];exact g4
    have long:h≠K9.MANY∨told=true->pV (hZ (hU (g8 (tW zbT (uO 3) (vC (PV.str (Str.ofString "long"))))) (zcM (zcQ (uO 1)))) (zcP (zcR (lX (vC (PV.str (Str.ofString "long"))) (lX (zcK C (Str.ofString "take_word") (qB B C [] K9.pw sv) W (uO 0)) g6)))) zcL)
      (zcO B (Str.ofString "at") (λv=>v=V.int 0) W (vC (PV.int 0))) {nx:=λx s'=>Q PV.non (List.take (List.length st) s'),rt:=yZ (List.length st) Q}
      [some (PV.obj i),some (PV.bl told),some (PV.int (20 - ↑n)),some (sv h),none] (List.set st i (w9 C dx ws k1)):=λhm=>by
     rw[if_neg (λz=>hm.elim (λy=>y z.1) λy=>by rw[z.2]at y;cases y)]at q;refine yH ?_;simp? only[zl1];by_cases hL:h=K9.LONG
     ·rw[decide_eq_true hL]
      cases told with
      | true=>
       simp? only[true_and];rw[if_neg (λz=>by cases z.2)]at q;rcases q with⟨_,_,z,_⟩ | ⟨_,q⟩
       ·cases z
       ·exact⟨_,rfl,rfl,q⟩
      | false=>
       rw[if_pos ⟨hL,rfl⟩]at q;simp? only[true_and];refine word s1 e1 hk1 ?_;cases ep:K9.pw r with
       | none=>
        rw[ep]at q;rcases q with⟨_,_,z,_⟩ | ⟨_,q⟩
        ·cases z
        ·exact .inr ⟨rfl,q⟩
       | some p=>
        obtain⟨x,r1⟩:=p;rw[ep]at q;refine .inl ⟨x,r1,rfl,λk2 e2 hk2=> ?_⟩;rcases q with⟨_,_,z,q⟩ | ⟨z,_⟩
        ·cases z
         have:=q k2 e2 hk2;unfold yL at this;rw[hL]at this;rw[ss]
         simp_all? only[true_and]
         exact this
        ·cases z
     ·rw[decide_eq_false hL]
      simp? only[true_and];rw[if_neg (λz=>hL z.1)]at q;rcases q with⟨_,_,z,_⟩ | ⟨_,q⟩
      ·cases z
      ·exact⟨_,rfl,rfl,q⟩
    by_cases hM:h=K9.MANY
    ·rw[decide_eq_true hM]
     cases told with
     | true=>simp? only[true_and];exact long (.inr rfl)
     | false=>
      rw[if_pos ⟨hM,rfl⟩]at q;simp? only[true_and];refine yH ?_;simp? only[true_and];refine word s1 e1 hk1 ?_;cases ep:K9.pw r with
      | none=>
       rw[ep]at q;rcases q with⟨_,_,z,_⟩ | ⟨_,q⟩
       ·cases z
       ·exact .inr ⟨rfl,q⟩
      | some p=>
       obtain⟨x,r1⟩:=p;rw[ep]at q;refine .inl ⟨x,r1,rfl,λk2 e2 hk2=> ?_⟩;rw[ss];simp? only[true_and];refine word (y8 hi) e2 hk2 ?_;dsimp only at q;cases ep2:K9.pw r1 with
       | none=>
        rw[ep2]at q;rcases q with⟨_,_,z,_⟩ | ⟨_,q⟩
        ·cases z
        ·exact .inr ⟨rfl,q⟩
       | some p2=>
        obtain⟨y,r2⟩:=p2;rw[ep2]at q;refine .inl ⟨y,r2,rfl,λk3 e3 hk3=> ?_⟩;rcases q with⟨_,_,z,q⟩ | ⟨z,_⟩
        ·cases z
         have:=q k3 e3 hk3;unfold yL at this;rw[hM]at this;rw[List.set_set]
         simp_all? only[true_and]
         exact this
        ·cases z
    ·rw[decide_eq_false hM]
     simp? only[true_and];exact long (.inl hM)
theorem zgD (M:Mo K mg){HE B J:Addr}{fj:FuncData}(N:XE K mg HE B J fj){C Ia:Addr}{fi:FuncData}{Aa:Addr}{fa:FuncData}{Ta:Addr}{ft:FuncData}{Ka:Addr}{fk:FuncData}{Ea:Addr}{fe:FuncData}{Wa:Addr}{fw:FuncData}(U:PX K mg C Ia fi Aa fa Ta ft Ka fk Ea fe Wa fw)(told:Bool){rJ:Addr}{rH:FuncData}(tY:zN K "take_term" "take_term" lU rJ rH)(qR:zS K rH ["pieces","told","around"] [])(pG:mg "take_term" =some (.ref rJ)){qX:Addr}{qW:FuncData}(qI:zN K "take_inside" "take_inside" lT qX qW)(o5:zS K qW ["pieces","told","around"] [])(oR:mg "take_inside" =some (.ref qX)){uY:Addr}{uX:FuncData}(t8:zN K "take_terms" "take_terms" pS uY uX)(sD:zS K uX ["pieces","told","around","many"] [])(sI:mg "take_terms" =some (.ref uY)): ∀n,zZ P w K mg base (yJ P w u7) (3 * n+5) rJ rH ["pieces","told","around"] (w4 K (zhI B C told n))
 | 0=>by
  obtain⟨zk1,zkt,nX,fN,zb5⟩:=M.plain_term;have gK:=zgB (P:=P) (w:=w) (base:=base) M N nX;have GK:=zg_ (P:=P) (w:=w) (base:=base) M N U;have GT:=lA (P:=P) (w:=w) (base:=base) M N U;have GX:=rV (P:=P) (w:=w) (base:=base) N;obtain⟨tMOST_BRACKETS,zMOST_BRACKETS⟩:=M.MOST_BRACKETS;refine tP 0 tY lP (λxs st Q W h=>by obtain⟨i,dx,ws,k,rfl,_⟩:=h;rfl) ⟨λW=>_,λcdv A outer s H E W hr hE=>have hr3:zF 3 _:=hr.mono (by omega);have hr4:zF 4 _:=hr.mono (by omega);have hrX:zF 2 _:=hr.mono (by omega);(zH (y6 (i:=3) lP.nd rfl (Or.inl rfl) (tR U.cl U.mT GT hr3 U.bT wV hE (qv 0)))
   (zH (y9 (y7 (mZ hr) (qv 3) zB (y4 _)) (zM (zX (rX gK hr4 zb5 nX fN wV hE (z5 (qv 3) (z5 (qv 1) z8))))) yA)
   (zH (y9 (y7 (xE hr) (qv 2) (sQ (v:= .int 20) (y:= .int 20) (by rfl) zMOST_BRACKETS ⟨_,rfl⟩ (λ_ _=> .val (.int _))) (y4 _)) (zM (sT N.top N.nh N.nhi GX hrX N.gn N.nb sX rfl hE rfl zD)) yA)
   (zH zbQ
   (zH zbQ
   (zM (zX (qv 4)))))))),λxs st Q W h=> ?_⟩
  obtain⟨i,dx,ws,k,rfl,hi,hl,hw,hk,q⟩:=h;refine yH ?_;simp? only[true_and];refine⟨tL hi,i,dx,ws,k,rfl,hi,hl,hw,hk,?_⟩;cases hd:ws.drop k with
  | nil=>
   rw[hd]at q;rcases q with⟨t,r,e,_⟩ | ⟨_,q⟩
   ·cases e
   ·exact .inr ⟨rfl,q⟩
  | cons x r=>
   refine .inl ⟨x,r,rfl,λk1 e1 hk1=> ?_⟩;rw[hd,K9.pT_0]at q;have hx:x∈ws:=List.mem_of_mem_drop (by rw[hd];exact List.mem_cons_self ..);refine yH ?_;simp? only[l40];by_cases h4:x= [40]
   ·rw[decide_eq_true h4]
    rw[if_pos h4]at q;simp? only[true_and];refine yH ?_;simp? only[true_and];rcases q with⟨_,_,z,_⟩ | ⟨_,q⟩
    ·cases z
    ·exact⟨_,rfl,rfl,q⟩
   ·rw[decide_eq_false h4]
    rw[if_neg h4]at q;simp? only[true_and];refine⟨x,told,rfl,hw x hx,?_⟩;cases hb:K9.bare told x with
    | true=>
     rw[if_pos hb]at q;refine .inl ⟨rfl,?_⟩;rcases q with⟨_,_,z,q⟩ | ⟨z,_⟩
     ·cases z
      have:=q k1 e1 hk1;rw[j7]
      simp_all? only[true_and]
      exact this
     ·cases z
    | false=>
     rw[if_neg (by rw[hb];decide)]at q;rcases q with⟨_,_,z,_⟩ | ⟨_,q⟩
     ·cases z
     ·exact .inr ⟨rfl,q⟩
 | n+1=>by
  obtain⟨zk1,zkt,nX,fN,zb5⟩:=M.plain_term;have gK:=zgB (P:=P) (w:=w) (base:=base) M N nX;have GK:=zg_ (P:=P) (w:=w) (base:=base) M N U;have GT:=lA (P:=P) (w:=w) (base:=base) M N U;have GX:=rV (P:=P) (w:=w) (base:=base) N;obtain⟨tMOST_BRACKETS,zMOST_BRACKETS⟩:=M.MOST_BRACKETS;have IH:=zgD M N U told tY qR pG qI o5 oR t8 sD sI n;have Gs:=zmF M N U told n t8 sD sI tY qR pG IH;have ziN:=zmE M N U told n qI o5 oR t8 sD sI Gs;refine tP 0 tY lP (λxs st Q W h=>by obtain⟨i,dx,ws,k,rfl,_⟩:=h;rfl) ⟨λW=>_,λcdv A outer s H E W hr hE=>have hr3:zF 3 _:=hr.mono (by omega);have hr4:zF 4 _:=hr.mono (by omega);have hrX:zF 2 _:=hr.mono (by omega);have hr70:zF (3 * n+7) _:=hr.mono (by omega);(zH (y6 (i:=3) lP.nd rfl (Or.inl rfl) (tR U.cl U.mT GT hr3 U.bT wV hE (qv 0)))
   (zH (y9 (y7 (mZ hr) (qv 3) zB (y4 _)) (zM (zX (rX gK hr4 zb5 nX fN wV hE (z5 (qv 3) (z5 (qv 1) z8))))) yA)
   (zH (y9 (y7 (xE hr) (qv 2) (sQ (v:= .int 20) (y:= .int 20) (by rfl) zMOST_BRACKETS ⟨_,rfl⟩ (λ_ _=> .val (.int _))) (y4 _)) (zM (sT N.top N.nh N.nhi GX hrX N.gn N.nb sX rfl hE rfl zD)) yA)
   (zH (y6 (i:=4) lP.nd rfl (Or.inl rfl) (rX ziN hr70 oR qI o5 wV hE (z5 (qv 0) (z5 (qv 1) (z5 (zK zY (qv 2) zD) z8)))))
   (zH (zhn (tR U.cl U.mK GK hr4 U.bK wV hE (qv 0)))
   (zM (zX (qv 4)))))))),λxs st Q W h=> ?_⟩
  obtain⟨i,dx,ws,k,rfl,hi,hl,hw,hk,q⟩:=h;refine yH ?_;simp? only[true_and];refine⟨tL hi,i,dx,ws,k,rfl,hi,hl,hw,hk,?_⟩;cases hd:ws.drop k with
  | nil=>
   rw[hd]at q;rcases q with⟨t,r,e,_⟩ | ⟨_,q⟩
   ·cases e
   ·exact .inr ⟨rfl,q⟩
  | cons x r=>
   refine .inl ⟨x,r,rfl,λk1 e1 hk1=> ?_⟩;rw[hd,K9.pT_s]at q;have hx:x∈ws:=List.mem_of_mem_drop (by rw[hd];exact List.mem_cons_self ..);refine yH ?_;simp? only[l40];by_cases h4:x= [40]
   ·rw[decide_eq_true h4]
    rw[if_pos h4]at q;simp? only[true_and];refine yH ?_;have hb:(((20:Int) - (↑n+1))==20)=false:=beq_eq_false_iff_ne.mpr (by omega);simp? only[hb];refine yH ?_;simp? only[true_and];have ss: ∀{k2 k3},(st.set i (w9 C dx ws k2)).set i (w9 C dx ws k3)=st.set i (w9 C dx ws k3):=λ{k2 k3} =>List.set_set ..;refine⟨i,dx,ws,k1,by rw[show((20:Int) - (↑n+1)+1)=20 - ↑n by omega],y8 hi,hl,hw,hk1,?_⟩;rw[e1];cases ep:K9.pI told (K9.pT told n) r with
    | none=>
     rw[ep]at q;rcases q with⟨_,_,z,_⟩ | ⟨_,q⟩
     ·cases z
     ·exact .inr ⟨rfl,q⟩
    | some p=>
     obtain⟨t,r1⟩:=p;rw[ep]at q;refine .inl ⟨t,r1,rfl,λk2 e2 hk2=> ?_⟩;rw[ss];refine yH ?_;simp? only[true_and];refine⟨tL (y8 hi),i,dx,ws,k2,rfl,y8 hi,hl,hw,hk2,?_⟩;rw[e2];cases r1 with
     | nil=>
      rcases q with⟨_,_,z,_⟩ | ⟨_,q⟩
      ·cases z
      ·exact .inr ⟨rfl,q⟩
     | cons y r2=>
      by_cases hy:y= [41]
      ·rw[show K9.pC (some (t,y::r2))=some (t,r2)from if_pos hy]at q
       refine .inl ⟨(),r2,if_pos hy,λk3 e3 hk3=> ?_⟩;rcases q with⟨_,_,z,q⟩ | ⟨z,_⟩
       ·cases z
        have:=q k3 e3 hk3;rw[ss]
        simp_all? only[true_and]
        rw[j7]
        simp_all? only[true_and]
        exact this
       ·cases z
      ·rw[show K9.pC (some (t,y::r2))=none from if_neg hy]at q
       rcases q with⟨_,_,z,_⟩ | ⟨_,q⟩
       ·cases z
       ·exact .inr ⟨if_neg hy,q⟩
   ·rw[decide_eq_false h4]
    rw[if_neg h4]at q;simp? only[true_and];refine⟨x,told,rfl,hw x hx,?_⟩;cases hb:K9.bare told x with
    | true=>
     rw[if_pos hb]at q;refine .inl ⟨rfl,?_⟩;rcases q with⟨_,_,z,q⟩ | ⟨z,_⟩
     ·cases z
      have:=q k1 e1 hk1;rw[j7]
      simp_all? only[true_and]
      exact this
     ·cases z
    | false=>
     rw[if_neg (by rw[hb];decide)]at q;rcases q with⟨_,_,z,_⟩ | ⟨_,q⟩
     ·cases z
     ·exact .inr ⟨rfl,q⟩
theorem zmD (M:Mo K mg){HE B J:Addr}{fj:FuncData}(N:XE K mg HE B J fj){C Ia:Addr}{fi:FuncData}{Aa:Addr}{fa:FuncData}{Ta:Addr}{ft:FuncData}{Ka:Addr}{fk:FuncData}{Ea:Addr}{fe:FuncData}{Wa:Addr}{fw:FuncData}(U:PX K mg C Ia fi Aa fa Ta ft Ka fk Ea fe Wa fw){f:Addr}{fd:FuncData}(F:zN K "read_term" "read_term" iX f fd):t5 P w K mg base (yJ P w u7) 100 f fd ["text","told"] (w4 K (zpA B)):=by
 have GE:=zm7 (P:=P) (w:=w) (base:=base) M N U;have GI:=zm8 (P:=P) (w:=w) (base:=base) M U;obtain⟨rJ,rH,tY,qR,pG⟩:=M.take_term;obtain⟨qX,qW,qI,o5,oR⟩:=M.take_inside;obtain⟨uY,uX,t8,sD,sI⟩:=M.take_terms;have gL:=zkz λb=>zgD (P:=P) (w:=w) (base:=base) M N U b tY qR pG qI o5 oR t8 sD sI 20;refine zmx 0 F zcu (λxs st Q W h=>by obtain⟨x,told,rfl,_⟩:=h;rfl) ⟨λW=>_,λcdv A outer s H E W hr hE=>have hr3:zF 3 _:=hr.mono (by decide);have hrI:zF 3 _:=hr.mono (by decide);have hr70:zF (3 * 20+5) _:=hr.mono (by decide);(jY (zhl (i:=2) zcu.nd rfl (Or.inl rfl) (zoi U.mkC GI hrI U.gp U.bI (z5 (qv 0) z8))) (yI.toP (zH (y6 (i:=3) zcu.nd rfl (Or.inl rfl) (rX gL hr70 pG tY qR wV hE (z5 (qv 2) (z5 (qv 1) (z5 zD z8)))))
   (zH (zhn (tR U.cl U.mE GE hr3 U.bE wV hE (qv 2)))
   (zM (zX (qv 3))))))),λxs st Q W h=> ?_⟩
 obtain⟨x,told,rfl,hl,q⟩:=h;refine yH ?_;simp? only[true_and];intro dx;have r3:=K9.rep_len x;have r4:=zc4 (K9.rep x);have hw: ∀w∈K9.spl (K9.rep x),w.length<=1000000:=λw h=>by have:=zc5 _ w h;omega
 have ga: ∀{o:PO},(st++ [o])[st.length]?=some o:=λ{o} =>by rw[List.getElem?_append_right (Nat.le_refl _),Nat.sub_self];rfl
 have sa: ∀{o o':PO},(st++ [o]).set st.length o'=st++ [o']:=λ{o o'} =>by rw[List.set_append_right (h:=Nat.le_refl _),Nat.sub_self];rfl
 have ta: ∀{o:PO},(st++ [o]).take st.length=st:=λ{o} =>by rw[List.take_left]
 refine⟨st.length,dx,x,rfl,ga,hl,rfl,?_⟩;rw[sa];refine yH ?_;simp? only[true_and];refine⟨told,st.length,dx,_,0,rfl,ga,by omega,hw,Nat.zero_le _,?_⟩;rw[List.drop_zero];unfold K9.prd at q;cases ep:K9.pT told 20 (K9.spl (K9.rep x))with
 | none=>
  rw[ep]at q;rcases q with⟨_,z,_⟩ | ⟨_,q⟩
  ·cases z
  ·exact .inr ⟨rfl,q⟩
 | some p=>
  obtain⟨t,r⟩:=p;rw[ep]at q;refine .inl ⟨t,r,rfl,λk' e' hk'=> ?_⟩;rw[sa];refine yH ?_;simp? only[true_and];refine⟨tL ga,st.length,dx,_,k',rfl,ga,by omega,?_⟩;cases r with
  | nil=>
   refine .inl ⟨(eJ hk').mpr e',?_⟩;rcases q with⟨_,z,q⟩ | ⟨z,_⟩
   ·cases z
    simp_all? only[true_and]
    rw[j7,ta];exact q
   ·cases z
  | cons y r=>
   refine .inr ⟨λz=> ?_,?_⟩
   ·have:=(eJ hk').mp z
    rw[e']at this;cases this
   ·rcases q with⟨_,z,_⟩ | ⟨_,q⟩
    ·cases z
    ·exact q
theorem zm_ (M:Mo K mg){f:Addr}{fd:FuncData}(F:zN K "bracketed" "bracketed" iP f fd):zZ P w K mg base yE 1 f fd ["parts"] (yD K (zp2)):=by
 refine xU 0 F zph (λxs st Q h=>by obtain⟨ws,rfl,_⟩:=h;rfl) ⟨_,λcdv A outer s H E hr=>(zM (zX (zK zY (zK zY zB (sO PySem.F.plainAttrs_str PySem.F.slot_str_join PySem.F.type_str_join (by decide) zb_ zB (z5 (qv 0) z8))) zB))),λxs st Q h=> ?_⟩;obtain⟨ws,rfl,hl,hw,q⟩:=h
 simp_all? only[true_and]
 have hs:=zpI hw;have hm:ws.length * 300000<=10 * 300000:=Nat.mul_le_mul_right _ hl;have hj:(K9.S (K9.jn ws)).length<=3000100:=by
  have:=StrLaws.join_length_le (" " :Str) (ws.map K9.S);have e:=zfW ws;unfold Txt.join at e;rw[StrLaws.glued_eq_join]at e;rw[e,List.length_map]at this;have h1:(" " :Str).length=1:=by decide+kernel
  rw[h1]at this;omega
 have hb:(4000000:Nat)<=sizeLine:=by rw[sizeLine_eq];decide
 refine⟨ws.map K9.S,by rw[<- zlJ];rfl,?_,?_⟩
 ·rw[List.length_map,show(" " :Str).length=1 by decide+kernel];omega
 rw[zfW]
 simp_all? only[true_and]
 rw[zl5,zoM,K9.S_app,K9.S_app];rw[K9.S_len]at hj;refine⟨by rw[K9.S_len,K9.S_len];show 1+_<=_;omega,by rw[K9.S_len,K9.S_len,List.length_append];show 1+_+1<=_;omega,?_⟩;rw[show [40]++K9.jn ws++ [41]=40::(K9.jn ws++ [41]) by simp];exact q
theorem nd3:(["term","inner"]:List Str).Nodup:=by decide+kernel
theorem zgC (M:Mo K mg){f:Addr}{fd:FuncData}(qH:zN K "show_term" "show_term" nK f fd)(o4:zS K fd ["term"] [])(oQ:mg "show_term" =some (.ref f)): ∀d,zZ P w K mg base yE (d+2) f fd ["term"] (yD K (zc3 d))
 | 0=>⟨λvs H Q E h=>(zhE h).elim,λA outer s H args us vs Q E _ _ _ _ h=>(zhE h).elim⟩
 | d+1=>by
  have kF:=zgC M qH o4 oQ d;obtain⟨zuf,zuq,k8,fH,zb3⟩:=M.bracketed;have gI:=zm_ (P:=P) (w:=w) (base:=base) M k8;refine xU 0 qH zpm (λxs st Q h=>by obtain⟨told,t,rfl,_⟩:=h;rfl) ⟨_,λcdv A outer s H E hr=>have hr1:zF 1 _:=hr.mono (by omega);have hr30:zF (d+2) _:=hr.mono (by omega);(zH (y9 (y7 (xE hr) (x6 (x5 hr) (qv 0) zD (λ_ _=>rfl)) zB (y4 _)) (zM (zX (vE oU (by rfl) M.str o3 (z5 (x6 (x5 hr) (qv 0) zD (λ_ _=>rfl)) z8)))) yA)
   (zH (y9 (y7 (xE hr) (x6 (x5 hr) (qv 0) zD (λ_ _=>rfl)) zB (y4 _)) (zM (zX (x6 (x5 hr) (qv 0) zD (λ_ _=>rfl)))) yA)
   (zH (y9 (y7 (xE hr) (x6 (x5 hr) (qv 0) zD (λ_ _=>rfl)) zB (y4 _)) (zM (zX (zW gI hr1 (by rfl) zb3 k8.kp fH (z5 (zK zY (xB (z5 (x6 (x5 hr) (qv 0) zD (λ_ _=>rfl)) z8)) (sP (own:= ["inner"]) (uW (fsc:=zR nK) (N:= ["term"]) (N':= ["term"]) rfl rfl (by decide+kernel)) rfl (tT (rY (qv 0) (sS zD) pL)) (λC s H fp pins=>(vN (i:=1) nd3 rfl (Or.inl rfl))) (λC s H fp pins=>tS) (λC s H fp pins=>(zW kF hr30 (by rfl) oQ qH.kp o4 (z5 (qv 1) z8))))) z8)))) yA)
   (zH (y9 (y7 (xE hr) (x6 (x5 hr) (qv 0) zD (λ_ _=>rfl)) zB (y4 _)) (zM (zX (zW gI hr1 (by rfl) zb3 k8.kp fH (z5 (zK zY (xB (z5 zB z8)) (sP (own:= ["inner"]) (uW (fsc:=zR nK) (N:= ["term"]) (N':= ["term"]) rfl rfl (by decide+kernel)) rfl (tT (rY (qv 0) (sS zD) pL)) (λC s H fp pins=>(vN (i:=1) nd3 rfl (Or.inl rfl))) (λC s H fp pins=>tS) (λC s H fp pins=>(zW kF hr30 (by rfl) oQ qH.kp o4 (z5 (qv 1) z8))))) z8)))) yA)
   (zH (y9 (y7 (sK hr) (x6 (x5 hr) (qv 0) zD (λ_ _=>rfl)) (sR (z5 zB (z5 zB z8))) (by rfl)) (zM (zX (zW gI hr1 (by rfl) zb3 k8.kp fH (z5 (vE (zmq rfl) (by rfl) M.list zjy (z5 (qv 0) z8)) z8)))) yA)
   (zM (zX (x6 (x5 hr) (qv 0) zD (λ_ _=>rfl))))))))),λxs st Q h=> ?_⟩
  obtain⟨told,t,rfl,v,hd,hl,q⟩:=h;have n1:(("shelf" :Str)== "num")=false:=by decide+kernel
  have n2:(("shelf" :Str)== "shelf")=true:=by decide+kernel
  have n3:(("num" :Str)== "num")=true:=by decide+kernel
  have n4:(("op" :Str)== "num")=false:=by decide+kernel
  have n5:(("op" :Str)== "shelf")=false:=by decide+kernel
  have n6:(("op" :Str)== "op")=true:=by decide+kernel
  have n7:(("if" :Str)== "num")=false:=by decide+kernel
  have n8:(("if" :Str)== "shelf")=false:=by decide+kernel
  have n9:(("if" :Str)== "op")=false:=by decide+kernel
  have n10:(("if" :Str)== "if")=true:=by decide+kernel
  cases t with
  | lf w=>
   have hb:K9.bare told w=true:=v.elim id λz=>by cases z.1
   cases hc:(told&&K9.three.contains w)with
   | true=>
    have h3:=(Bool.and_eq_true_iff.mp hc).2;have m1:=h7 h3 (x:= "num") (v:= [110,117,109]) (by decide+kernel) (by decide);have m2:=h7 h3 (x:= "shelf") (v:= [115,104,101,108,102]) (by decide+kernel) (by decide);have m3:=h7 h3 (x:= "op") (v:= [111,112]) (by decide+kernel) (by decide);have m4:=h7 h3 (x:= "if") (v:=K9.IFW) (by decide+kernel) (by decide);rw[show yL told (.lf w)= .tup [sv w] by unfold yL;rw[hc];rfl]
    simp_all? only[m1,m2,m3,m4]
    rw[zfL,show [K9.MANY,K9.LONG].contains w=false from by
     cases z: [K9.MANY,K9.LONG].contains w with
     | false=>rfl
     | true=>
      have z:w=K9.MANY∨w=K9.LONG:=by simpa using z
      rcases z with rfl | rfl <;> exact absurd h3 (by decide)]
    simp_all? only[true_and]
    exact q
   | false=>
    cases hp:(!told&&K9.plain w)with
    | true=>
     rw[show yL told (.lf w)= .tup [.str "shelf",sv w] by unfold yL;rw[hc,hp];rfl]
     simp_all? only[n1,n2]
     exact q
    | false=>
     rw[show yL told (.lf w)= .tup [.str "num",.int (K9.val w)] by unfold yL;rw[hc,hp];rfl];have hn:K9.isNum w=true:=by
      cases told with
      | true=>rw[fG,show K9.three.contains w=false from hc,Bool.or_false]at hb;exact hb
      | false=>rw[fF,show K9.plain w=false from hp,Bool.or_false]at hb;exact hb
     have hn:=Bool.and_eq_true_iff.mp hn
     simp_all? only[n3]
     refine⟨by have:=of_decide_eq_true hn.2;omega,?_⟩;rw[K9.str_back hn.1];exact q
  | op h a b=>
   obtain⟨ho,va,vb⟩:=v;have hd':1+max (K9.dp a) (K9.dp b) < d+1:=hd;have hl':(K9.sh (.op h a b)).length=h.length+(K9.sh a).length+(K9.sh b).length+4:=by simp[K9.sh];omega
   rw[hl']at hl;unfold yL
   simp_all? only[n4,n5,n6]
   rw[show vS [PV.str (Str.ofString "op"),sv h,yL told a,yL told b] (some 2) none= [a,b].map (yL told)from rfl];refine zdL (λt ht=> ?_) ⟨by show 1+2<=sizeLine;decide,[h,K9.sh a,K9.sh b],rfl,by show 3<=10;decide,λw hw=> ?_,?_⟩
   ·simp only[List.mem_cons,List.not_mem_nil,or_false]at ht
    rcases ht with rfl | rfl
    ·exact⟨va,by omega,by omega⟩
    ·exact⟨vb,by omega,by omega⟩
   ·simp only[List.mem_cons,List.not_mem_nil,or_false]at hw
    rcases hw with rfl | rfl | rfl <;> omega
   ·simp_all? only[true_and]
    have e:40::(K9.jn [h,K9.sh a,K9.sh b]++ [41])=K9.sh (.op h a b):=by simp[K9.sh,K9.jn]
    rw[e];exact q
  | if3 a b c=>
   obtain⟨va,vb,vc⟩:=v;have hd':1+max (K9.dp a) (max (K9.dp b) (K9.dp c)) < d+1:=hd;have hl':(K9.sh (.if3 a b c)).length=2+(K9.sh a).length+(K9.sh b).length+(K9.sh c).length+5:=by simp[K9.sh,K9.IFW];omega
   rw[hl']at hl;unfold yL
   simp_all? only[n7,n8,n9,n10]
   rw[show vS [PV.str (Str.ofString "if"),yL told a,yL told b,yL told c] (some 1) none= [a,b,c].map (yL told)from rfl];refine zdL (λt ht=> ?_) ⟨by show 1+3<=sizeLine;decide,[K9.IFW,K9.sh a,K9.sh b,K9.sh c],by rw[show(Str.ofString "if")=K9.S K9.IFW by decide+kernel];rfl,by show 4<=10;decide,λw hw=> ?_,?_⟩
   ·simp only[List.mem_cons,List.not_mem_nil,or_false]at ht
    rcases ht with rfl | rfl | rfl
    ·exact⟨va,by omega,by omega⟩
    ·exact⟨vb,by omega,by omega⟩
    ·exact⟨vc,by omega,by omega⟩
   ·simp only[List.mem_cons,List.not_mem_nil,or_false]at hw
    rcases hw with rfl | rfl | rfl | rfl
    ·decide
    all_goals omega
   ·simp_all? only[true_and]
    have e:40::(K9.jn [K9.IFW,K9.sh a,K9.sh b,K9.sh c]++ [41])=K9.sh (.if3 a b c):=by simp[K9.sh,K9.jn]
    rw[e];exact q
  | fl h ws=>
   obtain⟨hc,hne⟩:=v.fl_cl;have hs: ∀w∈h::ws,w.length<=8:=by
    obtain⟨_,⟨rfl,x,y,rfl,hx,hy⟩ | ⟨rfl,x,rfl,hx⟩⟩:=v
    ·intro w hw
     unfold K9.plain at hx hy;simp only[Bool.and_eq_true,decide_eq_true_eq]at hx hy;simp only[List.mem_cons,List.not_mem_nil,or_false]at hw;rcases hw with rfl | rfl | rfl
     ·decide
     ·omega
     ·omega
    ·intro w hw
     unfold K9.plain at hx;simp only[Bool.and_eq_true,decide_eq_true_eq]at hx;simp only[List.mem_cons,List.not_mem_nil,or_false]at hw;rcases hw with rfl | rfl
     ·decide
     ·omega
   have hh:h=K9.MANY∨h=K9.LONG:=by
    obtain⟨_,⟨rfl,_⟩ | ⟨rfl,_⟩⟩:=v
    ·exact .inl rfl
    ·exact .inr rfl
   have hw2:ws.length<=2:=by
    obtain⟨_,⟨rfl,x,y,rfl,_⟩ | ⟨rfl,x,rfl,_⟩⟩:=v <;> simp
   have m1:(K9.S h==("num" :Str))=false:=by rcases hh with rfl | rfl <;> decide+kernel
   have m2:(K9.S h==("shelf" :Str))=false:=by rcases hh with rfl | rfl <;> decide+kernel
   have m3:(K9.S h==("op" :Str))=false:=by rcases hh with rfl | rfl <;> decide+kernel
   have m4:(K9.S h==("if" :Str))=false:=by rcases hh with rfl | rfl <;> decide+kernel
   have m5: [K9.MANY,K9.LONG].contains h=true:=by rcases hh with rfl | rfl <;> decide
   unfold yL
   simp_all? only[m1,m2,m3,m4,zfL,m5]
   refine⟨h::ws,rfl,by rw[List.length_cons];omega,λw hw=>by have:=hs w hw;omega,?_⟩
   simp_all? only[true_and]
   exact q
theorem zmz (M:Mo K mg){f:Addr}{fd:FuncData}(F:zN K "_law_feed" "_law_feed" iB f fd):zZ P w K mg base yE 1 f fd ["_law_script","_law_k"] (yD K (zp1)):=by
 refine xU 1 F lN (λxs st Q h=>by obtain⟨ns,k,rfl,_⟩:=h;rfl) ⟨_,λcdv A outer s H E hr=>(zH (y6 (i:=2) lN.nd rfl (Or.inl rfl) (zK zY (zK rU zD (qv 1)) zD))
   (zH (y9 (y7 rT (xI vD (by rfl) M.len PySem.boot_len (z5 (qv 0) z8)) zD (y4 _)) (zM (y6 (i:=2) lN.nd rfl (Or.inl rfl) (zK zY (zK rU (zK sM (x6 (x5 hr) (qv 0) (zK sM (qv 1) (xI vD (by rfl) M.len PySem.boot_len (z5 (qv 0) z8))) (λ_ _=>rfl)) zD) zD) (zK rU zD (qv 1))))) yA)
   (zH (y6 (i:=3) lN.nd rfl (Or.inl rfl) zD)
   (zH (y9 (PW.pt (oY (y7 sL (qv 1) (xI vD (by rfl) M.len PySem.boot_len (z5 (qv 0) z8)) (y4 _)) (oZ (y7 zmm (xI zgy (by rfl) M.abs boot_abs (z5 (x6 (x5 hr) (qv 0) (qv 1) (λ_ _=>rfl)) z8)) (zK zmr zD zD) (y4 _))))) (zM (y6 (i:=3) lN.nd rfl (Or.inl rfl) (xI zgy (by rfl) M.abs boot_abs (z5 (x6 (x5 hr) (qv 0) (qv 1) (λ_ _=>rfl)) z8)))) yA)
   (zM (zX (zom (z5 (qv 3) (z5 (zK sM (qv 2) zD) z8))))))))),λxs st Q h=> ?_⟩
 obtain⟨ns,k,rfl,hl,hk,q⟩:=h
 simp_all? only[List.length_map]
 have fin: ∀c n:Int,0<=c->wC c (n % 2147483647):=λc n h=>⟨h,by omega,by omega⟩;have ab: ∀z:Int,0<=(if z < 0 then -z else z):=λz=>by split <;> omega
 refine xD (λh=> ?_) (λh=> ?_)
 ·have hp:(0:Int) < ns.length:=of_decide_eq_true h
  obtain⟨z,_,ez⟩:=zdv PV.int (ns:=ns) (k:=k % ns.length) (Int.emod_nonneg _ (by omega)) (Int.emod_lt_of_pos _ hp)
  simp_all? only[ez]
  refine⟨hp,?_⟩;refine xD (λh2=> ?_) (λh2=>q _ _ (fin _ _ (Int.le_refl 0)));obtain⟨y,_,ey⟩:=zdv PV.int (ns:=ns) hk (of_decide_eq_true h2)
  simp_all? only[ey]
  refine⟨zjK,xD (λh3=> ?_) (λh3=>q _ _ (fin _ _ (Int.le_refl 0)))⟩;exact q _ _ (fin _ _ (ab _))
 ·have hp: ¬ (0:Int) < ns.length:=λz=>h (decide_eq_true z)
  refine xD (λh2=>absurd (of_decide_eq_true h2) (by omega)) (λh2=>q _ _ (fin _ _ (Int.le_refl 0)))
theorem pJ (M:Mo K mg){f:Addr}{fd:FuncData}(F:zN K "_law_next" "_law_next" iG f fd):zZ P w K mg base yE 1 f fd ["_law_feed_here","_law_many"] (yD K (zpE)):=by
 refine xU 0 F lO (λxs st Q h=>by obtain⟨i,many,a,b,rfl,_⟩:=h;rfl) ⟨_,λcdv A outer s H E hr=>(zH (y9 (y7 rT (x6 (x5 hr) (qv 0) zD (λ_ _=>rfl)) zD (y4 _)) (zH (y6 (i:=2) lO.nd rfl (Or.inl rfl) (zK sM (x6 (x5 hr) (qv 0) zD (λ_ _=>rfl)) (qv 1)))
   (zH (zhm (zK zgz (x6 (x5 hr) (qv 0) zD (λ_ _=>rfl)) (qv 1)) (zhk hr (qv 0) zD))
   (zM (zX (qv 2))))) yA)
   (zH (y6 (i:=3) lO.nd rfl (Or.inl rfl) (zK sM (zK zY (zK rU (x6 (x5 hr) (qv 0) zD (λ_ _=>rfl)) zD) zD) zD))
   (zH (zhm (zK sM (zK zY (zK rU (qv 3) zD) zD) zD) (zhk hr (qv 0) zD))
   (zH (y6 (i:=4) lO.nd rfl (Or.inl rfl) (zK sM (zK rU (qv 3) (qv 3)) zD))
   (zH (y6 (i:=5) lO.nd rfl (Or.inl rfl) (zK sM (zK rU (x6 (x5 hr) (qv 0) zD (λ_ _=>rfl)) (x6 (x5 hr) (qv 0) zD (λ_ _=>rfl))) zD))
   (zM (zX (zK sM (zK zY (zK rU (qv 4) zD) (qv 5)) (qv 1))))))))),λxs st Q h=> ?_⟩
 obtain⟨i,many,a,b,rfl,hi,⟨ha,hb,hb2⟩,hm,hm2,q⟩:=h
 simp_all? only[hi]
 refine xD (λh=> ?_) (λh=> ?_)
 ·exact⟨hm,⟨hm,hm2⟩,q _ _ _ (Int.emod_nonneg _ (by omega)) (Int.emod_lt_of_pos _ hm) ⟨Int.ediv_nonneg ha (by omega),hb,hb2⟩⟩
 ·exact⟨.inl ⟨by omega,by omega⟩,.inl ⟨by omega,by omega⟩,hm,q _ _ _ (Int.emod_nonneg _ (by omega)) (Int.emod_lt_of_pos _ hm) ⟨ha,by omega,by omega⟩⟩
theorem oV (M:Mo K mg){f:Addr}{fd:FuncData}(F:zN K "_law_one" "_law_one" iH f fd):zZ P w K mg base yE 2 f fd ["_law_feed_here","_law_some"] (yD K (zhD)):=by
 obtain⟨oE,oF,xO,vA,vB⟩:=M._law_next;have v0:=pJ (P:=P) (w:=w) (base:=base) M xO;refine xU 0 F zpa (λxs st Q h=>by obtain⟨i,x,a,b,rfl,_⟩:=h;rfl) ⟨_,λcdv A outer s H E hr=>have hr1:zF 1 _:=hr.mono (by decide);(zM (zX (x6 (x5 hr) (qv 1) (zW v0 hr1 (by rfl) vB xO.kp vA (z5 (qv 0) (z5 (xI vD (by rfl) M.len PySem.boot_len (z5 (qv 1) z8)) z8))) (λ_ _=>rfl)))),λxs st Q h=> ?_⟩;obtain⟨i,x,a,b,rfl,hi,hb,h⟩:=h;rcases h with⟨ys,rfl,hn,hl,ho,q⟩ | ⟨z,rfl,hn,hl,q⟩
 ·simp_all? only[true_and]
  have hp:0 < ys.length:=List.length_pos_iff.mpr hn;refine⟨i,_,a,b,rfl,hi,hb,by omega,by omega,λd a b h0 h1 hb=> ?_⟩;obtain⟨y,hy,ey⟩:=zjl h0 h1
  simp_all? only[ey]
  rw[j6 (List.all_eq_true.mp ho y hy)]
  simp_all? only[true_and]
  exact q y hy a b hb
 ·simp_all? only[true_and]
  refine⟨Nat.le_trans hl (by decide),i,_,a,b,rfl,hi,hb,by omega,by omega,λd a b h0 h1 hb=> ?_⟩;obtain⟨c,ec⟩:=zjm h0 h1
  simp_all? only[ec]
  exact⟨Nat.le_trans hl (by decide),q _ (ziW c) a b hb⟩
theorem jR (M:Mo K mg){f:Addr}{fd:FuncData}(F:zN K "_law_slip" "_law_slip" iJ f fd):zZ P w K mg base yE 2 f fd ["_law_feed_here","_law_right","_law_wrong"] (yD K (zhF)):=by
 obtain⟨oE,oF,xO,vA,vB⟩:=M._law_next;have v0:=pJ (P:=P) (w:=w) (base:=base) M xO;refine xU 0 F zpb (λxs st Q h=>by obtain⟨i,x,y,a,b,rfl,_⟩:=h;rfl) ⟨_,λcdv A outer s H E hr=>have hr1:zF 1 _:=hr.mono (by decide);(zM (zX (x6 (x5 hr) (xB (z5 (qv 1) (z5 (qv 2) z8))) (vE mY (by rfl) M.int rD (z5 (vU (xE hr) (zW v0 hr1 (by rfl) vB xO.kp vA (z5 (qv 0) (z5 zD z8))) zD (y4 _)) z8)) (λ_ _=>rfl)))),λxs st Q h=> ?_⟩;obtain⟨i,x,y,a,b,rfl,hi,hb,hx,hy,q⟩:=h
 simp_all? only[hx,hy]
 refine⟨i,_,a,b,rfl,hi,hb,by omega,by omega,λd a b h0 h1 hb=> ?_⟩
 simp_all? only[true_and]
 cases(d==7)with
 | true=>
  simp_all? only[true_and]
  rw[j6 hy]
  simp_all? only[true_and]
  exact q y (.inr rfl) a b hb
 | false=>
  simp_all? only[true_and]
  rw[j6 hx]
  simp_all? only[true_and]
  exact q x (.inl rfl) a b hb
theorem nd4:(["_law_feed_here","_law_some","_law_k"]:List Str).Nodup:=by decide+kernel
theorem zm5 (M:Mo K mg){f:Addr}{fd:FuncData}(F:zN K "_law_word" "_law_word" lM f fd):zZ P w K mg base yE 3 f fd ["_law_feed_here"] (yD K (nJ [] 8)):=by
 obtain⟨oE,oF,xO,vA,vB⟩:=M._law_next;have v0:=pJ (P:=P) (w:=w) (base:=base) M xO;obtain⟨mO,mP,xL,wF,wG⟩:=M._law_one;have wD:=oV (P:=P) (w:=w) (base:=base) M xL;refine xU 0 F zct (λxs st Q h=>by obtain⟨i,a,b,rfl,_⟩:=h;rfl) ⟨_,λcdv A outer s H E hr=>have hr1:zF 1 _:=hr.mono (by decide);have hr2:zF 2 _:=hr.mono (by decide);(zH (y9 (y7 (xE hr) (zW v0 hr1 (by rfl) vB xO.kp vA (z5 (qv 0) (z5 zD z8))) zD (y4 _)) (zH (y6 (i:=1) zct.nd rfl (Or.inl rfl) (xB (z5 zB (z5 zB (z5 zB (z5 zB (z5 zB (z5 zB (z5 zB (z5 zB (z5 zB (z5 zB (z5 zB (z5 zB (z5 zB (z5 zB z8))))))))))))))))
   (zH (y6 (i:=1) zct.nd rfl (Or.inl rfl) (zK zY (qv 1) (xB (z5 zB (z5 zB (z5 zB (z5 zB (z5 zB (z5 zB (z5 zB (z5 zB (z5 zB (z5 zB (z5 zB (z5 zB z8)))))))))))))))
   (zM (zX (zW wD hr2 (by rfl) wG xL.kp wF (z5 (qv 0) (z5 (zK zY (qv 1) (xB (z5 zB (z5 zB (z5 zB (z5 zB (z5 zB z8))))))) z8))))))) yA)
   (zM (zX (sO PySem.F.plainAttrs_str PySem.F.slot_str_join PySem.F.type_str_join (by decide) zb_ zB (z5 (sP (own:= ["_law_k"]) (uW (fsc:=zR lM) (N:= ["_law_feed_here","_law_some"]) (N':= ["_law_feed_here","_law_some"]) rfl rfl (by decide+kernel)) rfl (lF (by rfl) M.range (z5 (zK zY zD (zW v0 hr1 (by rfl) vB xO.kp vA (z5 (qv 0) (z5 zD z8)))) z8)) (λC s H fp pins=>(vN (i:=2) nd4 rfl (Or.inl rfl))) (λC s H fp pins=>tS) (λC s H fp pins=>(zW wD hr2 (by rfl) wG xL.kp wF (z5 (qv 0) (z5 zB z8))))) z8))))),λxs st Q h=> ?_⟩
 obtain⟨i,a,b,rfl,hi,hb,q⟩:=h
 simp_all? only[true_and]
 refine⟨i,_,a,b,rfl,hi,hb,by decide,by decide,λd a b h0 h1 hb=> ?_⟩
 simp_all? only[true_and]
 refine xD (λh=> ?_) (λh=> ?_)
 ·simp_all? only[true_and]
  refine⟨by decide,by decide,tQ 8 (by decide+kernel) (by decide) (by decide) (y8 hi) hb λx hx a b hb=> ?_⟩
  simp_all? only[true_and]
  exact q x hx a b hb
 ·simp_all? only[true_and]
  refine⟨i,_,a,b,rfl,y8 hi,hb,by decide,by decide,λd a b h0 h1 hb=> ?_⟩
  simp_all? only[true_and]
  refine⟨by omega,?_⟩;refine⟨λj ys env s=> ∃(zs:List Str) (v:Option PV) (a b:Int),ys=zs.map PV.str/\zs.length=j/\(∀z∈zs,z.length<=1)/\env= [some (PV.obj i),none,v]/\s=st.set i (xV a b)/\wC a b,⟨[],none,a,b,rfl,rfl,λz hz=>(by cases hz),rfl,rfl,hb⟩,?_,?_⟩
  ·rintro j x ys env s hx ⟨zs,v,a,b,rfl,hj,hz,rfl,rfl,hb⟩
   simp_all? only[true_and]
   refine⟨i,_,a,b,rfl,y8 hi,hb,.inr ⟨_,rfl,by decide,by decide,λy hy a b hb=> ?_⟩⟩
   simp_all? only[true_and]
   refine⟨zs++ [y],_,a,b,by rw[List.map_append];rfl,by rw[List.length_append,hj];rfl,λz hz'=> ?_,rfl,rfl,hb⟩;rcases List.mem_append.mp hz' with hz' | hz'
   ·exact hz z hz'
   ·rw[List.mem_singleton.mp hz'];omega
  ·rintro ys env s ⟨zs,v,a,b,rfl,hj,hz,rfl,rfl,hb⟩
   rw[qA]at hj;have h2:=zc7 hz;have h3:=zld ("" :Str) hz;have h4:("" :Str).length=0:=rfl;rw[h4]at h3;refine⟨zs,rfl,by rw[h4];omega,?_⟩
   simp_all? only[true_and]
   exact q _ (by omega) a b hb
theorem zm2 (M:Mo K mg){f:Addr}{fd:FuncData}(F:zN K "_law_name" "_law_name" iF f fd):zZ P w K mg base yE 4 f fd ["_law_feed_here"] (yD K (nJ [] 10)):=by
 obtain⟨mO,mP,xL,wF,wG⟩:=M._law_one;have wD:=oV (P:=P) (w:=w) (base:=base) M xL;obtain⟨zud,zuo,zdb,zjs,zlB⟩:=M._law_word;have ziH:=zm5 (P:=P) (w:=w) (base:=base) M zdb;obtain⟨zaW,zaX,wP,u5,uA⟩:=M._law_slip;have vZ:=jR (P:=P) (w:=w) (base:=base) M wP;refine xU 0 F zh2 (λxs st Q h=>by obtain⟨i,a,b,rfl,_⟩:=h;rfl) ⟨_,λcdv A outer s H E hr=>have hr2:zF 2 _:=hr.mono (by decide);have hr3:zF 3 _:=hr.mono (by decide);(zH (y6 (i:=1) zh2.nd rfl (Or.inl rfl) (zW wD hr2 (by rfl) wG xL.kp wF (z5 (qv 0) (z5 (xB (z5 zB (z5 zB (z5 zB (z5 zB (z5 zB (z5 (zW ziH hr3 (by rfl) zlB zdb.kp zjs (z5 (qv 0) z8)) z8))))))) z8))))
   (zM (zX (zW vZ hr2 (by rfl) uA wP.kp u5 (z5 (qv 0) (z5 (qv 1) (z5 (zW wD hr2 (by rfl) wG xL.kp wF (z5 (qv 0) (z5 (xB (z5 zB (z5 zB (z5 (zK zY (qv 1) zB) (z5 (zK zY (zK zY zB (qv 1)) zB) (z5 (zK zY (qv 1) zB) (z5 zB z8))))))) z8))) z8))))))),λxs st Q h=> ?_⟩
 obtain⟨i,a,b,rfl,hi,hb,q⟩:=h
 simp_all? only[true_and]
 refine⟨i,a,b,rfl,hi,hb,λw hw a b hb=> ?_⟩
 simp_all? only[true_and]
 refine tQ 8 (xF (by decide) (xF (by decide) (xF (by decide) (xF (by decide) (xF (by decide) (xF hw rfl)))))) (by show 0 < 6;decide) (by show 6<=1000;decide) (y8 hi) hb λx hx a b hb=> ?_
 simp_all? only[true_and]
 have:=rB;obtain⟨⟨l1,l2,l3,l4,l5⟩,l6,l7,l8,l9⟩:=q1;refine⟨by omega,by omega,by rw[y0];omega,by omega,?_⟩;refine tQ 10 (xF (by omega) (xF (by omega) (xF (by rw[y0];omega) (xF (by rw[y0,y0];omega) (xF (by rw[y0];omega) (xF (by omega) rfl)))))) (by show 0 < 6;decide) (by show 6<=1000;decide) (y8 hi) hb λy hy a b hb=> ?_;refine⟨i,_,_,a,b,rfl,y8 (y8 hi),hb,rfl,rfl,λr hr a b hb=> ?_⟩;rcases hr with rfl | rfl
 ·simp_all? only[true_and]
  exact q _ (by omega) a b hb
 ·simp_all? only[true_and]
  exact q _ (by omega) a b hb
theorem zg6 (M:Mo K mg){f:Addr}{fd:FuncData}(F:zN K "_law_figures" "_law_figures" iC f fd):zZ P w K mg base yE 3 f fd ["_law_feed_here","_law_most"] (yD K (zp3)):=by
 obtain⟨oE,oF,xO,vA,vB⟩:=M._law_next;have v0:=pJ (P:=P) (w:=w) (base:=base) M xO;obtain⟨mO,mP,xL,wF,wG⟩:=M._law_one;have wD:=oV (P:=P) (w:=w) (base:=base) M xL;obtain⟨zaW,zaX,wP,u5,uA⟩:=M._law_slip;have vZ:=jR (P:=P) (w:=w) (base:=base) M wP;refine xU 0 F iQ (λxs st Q h=>by obtain⟨m,_,_,i,a,b,rfl,_⟩:=h;rfl) ⟨_,λcdv A outer s H E hr=>have hr1:zF 1 _:=hr.mono (by decide);have hr2:zF 2 _:=hr.mono (by decide);(zH (y6 (i:=2) iQ.nd rfl (Or.inl rfl) (zW wD hr2 (by rfl) wG xL.kp wF (z5 (qv 0) (z5 (xB (z5 zD (z5 zD (z5 zD (z5 (qv 1) (z5 (zK pH (qv 1) zD) (z5 (zW v0 hr1 (by rfl) vB xO.kp vA (z5 (qv 0) (z5 (zK zY (qv 1) zD) z8))) z8))))))) z8))))
   (zH (y6 (i:=2) iQ.nd rfl (Or.inl rfl) (xI (zg0 rfl) (by rfl) M.max boot_max (z5 zD (z5 (xI (zg1 rfl) (by rfl) M.min boot_min (z5 (qv 1) (z5 (qv 2) z8))) z8))))
   (zH (y6 (i:=3) iQ.nd rfl (Or.inl rfl) (zW wD hr2 (by rfl) wG xL.kp wF (z5 (qv 0) (z5 (xB (z5 (vE oU (by rfl) M.str o3 (z5 (zK zY (qv 1) zD) z8)) (z5 (zK zY zB (vE oU (by rfl) M.str o3 (z5 (qv 2) z8))) (z5 (zK zY zB (vE oU (by rfl) M.str o3 (z5 (qv 2) z8))) (z5 zB z8))))) z8))))
   (zM (zX (zW vZ hr2 (by rfl) uA wP.kp u5 (z5 (qv 0) (z5 (vE oU (by rfl) M.str o3 (z5 (qv 2) z8)) (z5 (qv 3) z8))))))))),λxs st Q h=> ?_⟩
 obtain⟨m,hm0,hm,i,a,b,rfl,hi,hb,q⟩:=h
 simp_all? only[true_and]
 refine⟨i,_,a,b,rfl,hi,hb,by omega,by omega,λd a b h0 h1 hb=> ?_⟩
 simp_all? only[true_and]
 refine⟨i,_,a,b,rfl,y8 hi,hb,.inl ⟨_,rfl,by simp,by show 6<=1000;decide,rfl,λy hy a b hb=> ?_⟩⟩;have hy: ∃n:Int,y= .int n:=by
  simp only[List.mem_cons,List.not_mem_nil,or_false]at hy;rcases hy with rfl | rfl | rfl | rfl | rfl | rfl <;> exact⟨_,rfl⟩
 obtain⟨n,rfl⟩:=hy
 simp_all? only[true_and]
 have hc: ∃c:Int,(if(if n < m then n else m) > 0 then if n < m then n else m else 0)=c/\0<=c/\c<=4294967295:=⟨_,rfl,by split <;> omega,by split <;> (try split) <;> omega⟩;obtain⟨c,ec,hc0,hc⟩:=hc;rw[ec];have n1:=zgv hc0 (by omega);have n2:=zgv (i:=m+1) (by omega) (by omega);have:=rB;obtain⟨⟨l1,l2,l3,l4,l5⟩,l6,l7,l8,l9⟩:=q1;refine⟨by omega,by omega,by omega,by omega,by omega,?_⟩;refine tQ 12 (xF (by omega) (xF (by rw[y0];omega) (xF (by rw[y0];omega) (xF (by omega) rfl)))) (by show 0 < 4;decide) (by show 4<=1000;decide) (y8 hi) hb λy hy a b hb=> ?_;refine⟨by omega,i,_,_,a,b,rfl,y8 (y8 hi),hb,rfl,rfl,λr hr a b hb=> ?_⟩;rcases hr with rfl | rfl
 ·simp_all? only[true_and]
  exact q _ (by omega) a b hb
 ·simp_all? only[true_and]
  exact q _ (by omega) a b hb
theorem nd5:(["_law_feed_here","_law_told","_law_room","_law_deep","_law_form","_law_many","_law_head","_law_inner","_law_blank","_law_start","_law_end","_law_k"]:List Str).Nodup:=by decide+kernel
theorem zg5 (M:Mo K mg){f:Addr}{fd:FuncData}(pW:zN K "_law_any_term" "_law_any_term" lI f fd)(mJ:zS K fd ["_law_feed_here","_law_told","_law_room","_law_deep"] [])(mU:mg "_law_any_term" =some (.ref f)): ∀d,zZ P w K mg base yE (d+5) f fd ["_law_feed_here","_law_told","_law_room","_law_deep"] (yD K (zhA d))
 | 0=>⟨λvs H Q E h=>(zhB h).elim,λA outer s H args us vs Q E _ _ _ _ h=>(zhB h).elim⟩
 | d+1=>by
  have gE:=zg5 M pW mJ mU d;obtain⟨oE,oF,xO,vA,vB⟩:=M._law_next;have v0:=pJ (P:=P) (w:=w) (base:=base) M xO;obtain⟨mO,mP,xL,wF,wG⟩:=M._law_one;have wD:=oV (P:=P) (w:=w) (base:=base) M xL;obtain⟨zaW,zaX,wP,u5,uA⟩:=M._law_slip;have vZ:=jR (P:=P) (w:=w) (base:=base) M wP;obtain⟨zua,zul,nV,kR,jK⟩:=M._law_name;have kD:=zm2 (P:=P) (w:=w) (base:=base) M nV;obtain⟨zkm,zkp,nQ,f9,zb0⟩:=M._law_figures;have gF:=zg6 (P:=P) (w:=w) (base:=base) M nQ;refine xU 0 pW tV (λxs st Q h=>by obtain⟨_,_,_,_,_,i,a,b,rfl,_⟩:=h;rfl) ⟨_,λcdv A outer s H E hr=>have hr1:zF 1 _:=hr.mono (by omega);have hr2:zF 2 _:=hr.mono (by omega);have hr3:zF 3 _:=hr.mono (by omega);have hr4:zF 4 _:=hr.mono (by omega);have hr12:zF (d+5) _:=hr.mono (by omega);(zH (y6 (i:=4) tV.nd rfl (Or.inl rfl) (zW v0 hr1 (by rfl) vB xO.kp vA (z5 (qv 0) (z5 zD z8))))
   (zH (y9 (PW.pt (uK (y7 sL (qv 2) zD (y4 _)) (uK (y7 (xE hr) (qv 3) zD (y4 _)) (tU (y7 (xE hr) (qv 4) zD (y4 _)))))) (zH (y6 (i:=4) tV.nd rfl (Or.inl rfl) (zW v0 hr1 (by rfl) vB xO.kp vA (z5 (qv 0) (z5 zD z8))))
   (zH (y9 (y7 (xE hr) (qv 4) zD (y4 _)) (zM (zX (zW gF hr3 (by rfl) zb0 nQ.kp f9 (z5 (qv 0) (z5 zD z8))))) yA)
   (zH (y9 (vF (qv 1)) (zM (zX (zW vZ hr2 (by rfl) uA wP.kp u5 (z5 (qv 0) (z5 (zW wD hr2 (by rfl) wG xL.kp wF (z5 (qv 0) (z5 (xB (z5 zB (z5 zB (z5 zB z8)))) z8))) (z5 zB z8)))))) yA)
   (zH (y9 (y7 (xE hr) (qv 4) zD (y4 _)) (zM (zX (zK zY (zK zY (zK zY (zK zY zB (zW kD hr4 (by rfl) jK nV.kp kR (z5 (qv 0) z8))) zB) (zW kD hr4 (by rfl) jK nV.kp kR (z5 (qv 0) z8))) zB))) yA)
   (zM (zX (x6 (x5 hr) (xB (z5 (zW kD hr4 (by rfl) jK nV.kp kR (z5 (qv 0) z8)) (z5 (zK zY (zK zY zB (zW kD hr4 (by rfl) jK nV.kp kR (z5 (qv 0) z8))) zB) z8))) (zK pH (qv 4) zD) (λ_ _=>rfl)))))))) yA)
   (zH (y6 (i:=5) tV.nd rfl (Or.inr rfl) (x6 (x5 hr) (xB (z5 zD (z5 zD z8))) (vE mY (by rfl) M.int rD (z5 (vU (xE hr) (qv 4) zD (y4 _)) z8)) (λ_ _=>rfl)))
   (zH (y6 (i:=6) tV.nd rfl (Or.inl rfl) (x6 (x5 hr) (xB (z5 (zW vZ hr2 (by rfl) uA wP.kp u5 (z5 (qv 0) (z5 (zW wD hr2 (by rfl) wG xL.kp wF (z5 (qv 0) (z5 zB z8))) (z5 zB z8)))) (z5 zB z8))) (zK pH (qv 5) zD) (λ_ _=>rfl)))
   (zH (zot (i0:=7) (own:= ["_law_k"]) (uW (fsc:=zR lI) (N:= ["_law_feed_here","_law_told","_law_room","_law_deep","_law_form","_law_many","_law_head","_law_inner","_law_blank","_law_start","_law_end"]) (N':= ["_law_feed_here","_law_told","_law_room","_law_deep","_law_form","_law_many","_law_head","_law_inner","_law_blank","_law_start","_law_end"]) rfl rfl (by decide+kernel)) tV.nd rfl (Or.inl rfl) rfl (lF (by rfl) M.range (z5 (qv 5) z8)) (λC s H fp pins=>(vN (i:=11) nd5 rfl (Or.inl rfl))) (λC s H fp pins=>tS) (λC s H fp pins=>(zW gE hr12 (by rfl) mU pW.kp mJ (z5 (qv 0) (z5 (qv 1) (z5 (zK zgz (zK pH (qv 2) zD) (qv 5)) (z5 (zK pH (qv 3) zD) z8)))))))
   (zH (y6 (i:=7) tV.nd rfl (Or.inl rfl) (zW vZ hr2 (by rfl) uA wP.kp u5 (z5 (qv 0) (z5 (qv 7) (z5 (rY (qv 7) (sS zD) pL) z8)))))
   (zH (y6 (i:=8) tV.nd rfl (Or.inl rfl) (zW vZ hr2 (by rfl) uA wP.kp u5 (z5 (qv 0) (z5 zB (z5 (zW wD hr2 (by rfl) wG xL.kp wF (z5 (qv 0) (z5 (xB (z5 zB (z5 zB z8))) z8))) z8)))))
   (zH (y6 (i:=9) tV.nd rfl (Or.inl rfl) (zW vZ hr2 (by rfl) uA wP.kp u5 (z5 (qv 0) (z5 zB (z5 (zW wD hr2 (by rfl) wG xL.kp wF (z5 (qv 0) (z5 (xB (z5 zB (z5 zB (z5 zB z8)))) z8))) z8)))))
   (zH (y6 (i:=10) tV.nd rfl (Or.inl rfl) (zW vZ hr2 (by rfl) uA wP.kp u5 (z5 (qv 0) (z5 zB (z5 (zW wD hr2 (by rfl) wG xL.kp wF (z5 (qv 0) (z5 (xB (z5 zB (z5 zB (z5 zB z8)))) z8))) z8)))))
   (zM (zX (zK zY (zK zY (qv 9) (sO PySem.F.plainAttrs_str PySem.F.slot_str_join PySem.F.type_str_join (by decide) zb_ (qv 8) (z5 (zK zY (xB (z5 (qv 6) z8)) (qv 7)) z8))) (qv 10))))))))))))),λxs st Q h=> ?_⟩
  obtain⟨told,room,e,he,he6,i,a,b,rfl,hi,hb,q⟩:=h;have hbig:=rB;have hb40:=zd5 e;have hbm:=zd6 he6;obtain⟨⟨l1,l2,l3,l4,l5⟩,l6,l7,l8,l9⟩:=q1;obtain⟨⟨m1,m2,m3,m4,m5⟩,m6,m7,m8,m9⟩:=q2;refine yH ?_;simp? only[true_and];refine⟨i,_,a,b,rfl,hi,hb,by decide,by decide,λform a b f0 f1 hb=> ?_⟩;refine yH ?_;refine zkK (b:=decide (room < 3)||(((e:Int)==0)||(form==0))) (λQ=> ?_) ?_
  ·simp? only[true_and]
   cases decide (room < 3) <;> cases((e:Int)==0) <;> cases(form==0) <;> rfl
  cases hL:(decide (room < 3)||(((e:Int)==0)||(form==0)))with
  | true=>
   rw[if_pos rfl]
   simp_all? only[true_and]
   refine⟨i,_,a,b,rfl,y8 hi,hb,by decide,by decide,λg a b g0 g1 hb=> ?_⟩
   simp_all? only[true_and]
   refine xD (λh=> ?_) (λh=> ?_)
   ·refine⟨_,by decide,by decide,i,a,b,rfl,y8 hi,hb,λx hx a b hb=> ?_⟩
    simp_all? only[true_and]
    exact q _ (by omega) a b hb
   have hg:g≠0:=λz=>h (by rw[z];rfl);cases told with
   | true=>
    simp_all? only[true_and]
    refine tQ 12 (by decide+kernel) (by decide) (by decide) (y8 hi) hb λx hx a b hb=> ?_;refine⟨i,_,_,a,b,rfl,y8 (y8 hi),hb,rfl,rfl,λr hr a b hb=> ?_⟩;rcases hr with rfl | rfl
    ·simp_all? only[true_and]
     exact q _ (by omega) a b hb
    ·simp_all? only[true_and]
     exact q _ (by omega) a b hb
   | false=>
    simp_all? only[true_and]
    refine xD (λh=> ?_) (λh=> ?_)
    ·refine⟨i,a,b,rfl,y8 hi,hb,λx hx a b hb=>⟨by omega,by rw[y0];omega,?_⟩⟩
     simp_all? only[true_and]
     refine⟨i,a,b,rfl,y8 hi,hb,λy hy a b hb=>⟨by rw[y0,y0];omega,by rw[y0,y0,y0];omega,?_⟩⟩
     simp_all? only[true_and]
     exact q _ (by rw[y0,y0,y0,y0];omega) a b hb
    have hg1:g≠1:=λz=>h (by rw[z];rfl);refine⟨i,a,b,rfl,y8 hi,hb,λx hx a b hb=> ?_⟩
    simp_all? only[true_and]
    refine⟨i,a,b,rfl,y8 hi,hb,λy hy a b hb=>⟨by omega,by rw[y0];omega,?_⟩⟩
    simp_all? only[true_and]
    have h2:g=2∨g=3:=by omega
    rcases h2 with rfl | rfl
    ·simp_all? only[true_and]
     exact q _ (by omega) a b hb
    ·simp_all? only[true_and]
     exact q _ (by rw[y0,y0];omega) a b hb
  | false=>
   rw[if_neg (by decide)];have he0:e≠0:=λz=>by rw[z]at hL;simp at hL
   obtain⟨c,rfl⟩: ∃c,e=c+1:=⟨e - 1,by omega⟩;have hbs:vH (c+1)=3 * vH c+20:=rfl;simp? only[true_and];refine yH ?_;refine qP (λx s=>(x= .int 2∨x= .int 3)/\s=st.set i (xV a b)) (λQ k=> ?_) ?_
   ·simp? only[true_and]
    cases(form==1)with
    | true=>
     simp? only[true_and];exact k _ _ ⟨.inr rfl,rfl⟩
    | false=>
     simp? only[true_and];exact k _ _ ⟨.inl rfl,rfl⟩
   rintro x s ⟨hx,rfl⟩;obtain⟨m,rfl,hm⟩: ∃m:Int,x= .int m/\(m=2∨m=3):=by
    rcases hx with rfl | rfl
    ·exact⟨2,rfl,.inl rfl⟩
    ·exact⟨3,rfl,.inr rfl⟩
   simp? only[true_and];refine yH ?_;refine qP (mC 2 i st) (λQ k=> ?_) ?_
   ·simp? only[true_and]
    refine⟨i,_,a,b,rfl,y8 hi,hb,.inr ⟨_,rfl,by decide,by decide,λy hy a b hb=> ?_⟩⟩;simp? only[true_and];refine⟨i,_,_,a,b,rfl,y8 hi,hb,rfl,rfl,λr hr a b hb=> ?_⟩;have hr: ∃z:Str,r= .str z/\z.length<=2:=by
     rcases hr with rfl | rfl
     ·exact⟨y,rfl,by omega⟩
     ·exact⟨_,rfl,by decide⟩
    obtain⟨z,rfl,hz⟩:=hr;rcases hm with rfl | rfl
    ·simp? only[true_and]
     exact k _ _ ⟨z,a,b,rfl,hz,hb,rfl⟩
    ·simp? only[true_and]
     exact k _ _ ⟨_,a,b,rfl,by decide,hb,rfl⟩
   rintro _ _ ⟨hd,a,b,rfl,hhd,hb,rfl⟩;simp? only[true_and];refine yH ?_;refine qP (LxP (vH c) i st) (λQ k=> ?_) ?_
   ·simp? only[true_and]
    refine⟨by omega,?_⟩;refine⟨λj ys env s=> ∃(zs:List Str) (v:Option PV) (a b:Int),ys=zs.map PV.str/\zs.length=j/\(∀z∈zs,z.length<=vH c)/\env= [some (PV.obj i),some (PV.bl told),some (PV.int room),some (PV.int ((c:Int)+1)),some (PV.int form),some (PV.int m),some (PV.str hd),none,none,none,none,v]/\s=st.set i (xV a b)/\wC a b,⟨[],none,a,b,rfl,rfl,λz hz=>(by cases hz),rfl,rfl,hb⟩,?_,?_⟩
    ·rintro j x ys env s hx ⟨zs,v,a,b,rfl,hj,hz,rfl,rfl,hb⟩
     simp_all? only[true_and]
     refine⟨by omega,told,(room - 1) / m,c,by omega,by omega,i,a,b,?_,y8 hi,hb,λy hy a b hb=> ?_⟩
     ·rw[show((c:Int)+1 - 1)=c by omega]
     simp_all? only[true_and]
     refine⟨zs++ [y],_,a,b,by rw[List.map_append];rfl,by rw[List.length_append,hj];rfl,λz hz'=> ?_,rfl,rfl,hb⟩;rcases List.mem_append.mp hz' with hz' | hz'
     ·exact hz z hz'
     ·rw[List.mem_singleton.mp hz'];exact hy
    ·rintro ys env s ⟨zs,v,a,b,rfl,hj,hz,rfl,rfl,hb⟩
     rw[qA]at hj;exact k _ _ ⟨zs,a,b,rfl,by omega,hz,hb,rfl⟩
   rintro _ _ ⟨zs,a,b,rfl,hl,hz,hb,rfl⟩;simp? only[true_and];refine yH ?_;refine qP (LxP (vH c) i st) (λQ k=> ?_) ?_
   ·simp? only[zjL]
    refine⟨i,_,_,a,b,rfl,y8 hi,hb,rfl,rfl,λr hr a b hb=> ?_⟩;rcases hr with rfl | rfl
    ·exact k _ _ ⟨zs,a,b,rfl,hl,hz,hb,by rw[List.set_set]⟩
    ·exact k _ _ ⟨zs.drop 1,a,b,rfl,by rw[List.length_drop];omega,λz h=>hz z (List.mem_of_mem_drop h),hb,by rw[List.set_set]⟩
   rintro _ _ ⟨zs,a,b,rfl,hl,hz,hb,rfl⟩;simp? only[true_and];refine yH ?_;refine qP (mC 2 i st) (λQ k=> ?_) ?_
   ·simp? only[true_and]
    refine tQ 2 (by decide+kernel) (by decide) (by decide) (y8 hi) hb λx hx a b hb=> ?_;exact zc0 2 (y8 (y8 hi)) hb (by decide) hx (λ_ _=>by rw[List.set_set,List.set_set]) k
   rintro _ _ ⟨bl,a,b,rfl,hbl,hb,rfl⟩;simp? only[true_and];refine yH ?_;refine qP (mC 2 i st) (λQ k=> ?_) ?_
   ·simp? only[true_and]
    refine tQ 2 (by decide+kernel) (by decide) (by decide) (y8 hi) hb λx hx a b hb=> ?_;exact zc0 2 (y8 (y8 hi)) hb (by decide) hx (λ_ _=>by rw[List.set_set,List.set_set]) k
   rintro _ _ ⟨sa,a,b,rfl,hsa,hb,rfl⟩;simp? only[true_and];refine yH ?_;refine qP (mC 2 i st) (λQ k=> ?_) ?_
   ·simp? only[true_and]
    refine tQ 2 (by decide+kernel) (by decide) (by decide) (y8 hi) hb λx hx a b hb=> ?_;exact zc0 2 (y8 (y8 hi)) hb (by decide) hx (λ_ _=>by rw[List.set_set,List.set_set]) k
   rintro _ _ ⟨se,a,b,rfl,hse,hb,rfl⟩
   simp_all? only[true_and]
   have s1:=zc7 hz;have s2:=zle bl (hd::zs);have s3:zs.length * vH c<=3 * vH c:=Nat.mul_le_mul_right _ hl;have s4:bl.length * (zs.length+1)<=2 * 4:=Nat.mul_le_mul hbl (by omega);have s5:(zs.length+1) * bl.length=bl.length * (zs.length+1):=Nat.mul_comm ..;rw[List.map_cons,List.sum_cons,List.length_cons]at s2;refine⟨by rw[List.length_map];omega,hd::zs,rfl,?_,?_⟩
   ·rw[List.map_cons,List.sum_cons,List.length_cons];omega
   simp_all? only[true_and]
   refine⟨by omega,by rw[y0];omega,?_⟩;exact q _ (by rw[y0,y0,hbs];omega) a b hb
theorem zmy (M:Mo K mg){f:Addr}{fd:FuncData}(F:zN K "_law_chain" "_law_chain" i9 f fd):zZ P w K mg base yE 4 f fd ["_law_feed_here"] (yD K (nJ [] 40000)):=by
 obtain⟨mO,mP,xL,wF,wG⟩:=M._law_one;have wD:=oV (P:=P) (w:=w) (base:=base) M xL;obtain⟨zaW,zaX,wP,u5,uA⟩:=M._law_slip;have vZ:=jR (P:=P) (w:=w) (base:=base) M wP;obtain⟨zkm,zkp,nQ,f9,zb0⟩:=M._law_figures;have gF:=zg6 (P:=P) (w:=w) (base:=base) M nQ;refine xU 0 F nG (λxs st Q h=>by obtain⟨i,a,b,rfl,_⟩:=h;rfl) ⟨_,λcdv A outer s H E hr=>have hr2:zF 2 _:=hr.mono (by decide);have hr3:zF 3 _:=hr.mono (by decide);(zH (y6 (i:=1) nG.nd rfl (Or.inl rfl) zB)
   (zH (jX PassesOwn.never rfl (lF (by rfl) M.range (z5 (zW wD hr2 (by rfl) wG xL.kp wF (z5 (qv 0) (z5 (xB (z5 zD (z5 zD (z5 zD (z5 zD (z5 (zW vZ hr2 (by rfl) uA wP.kp u5 (z5 (qv 0) (z5 zD (z5 zD z8)))) (z5 (zW vZ hr2 (by rfl) uA wP.kp u5 (z5 (qv 0) (z5 zD (z5 zD z8)))) z8))))))) z8))) z8)) (vN (i:=2) nG.nd rfl (Or.inl rfl)) (zH (y6 (i:=3) nG.nd rfl (Or.inl rfl) (zW gF hr3 (by rfl) zb0 nQ.kp f9 (z5 (qv 0) (z5 zD z8))))
   (zH (y6 (i:=4) nG.nd rfl (Or.inl rfl) (xB (z5 (zK zY (zK zY (zK zY (zK zY zB (qv 1)) zB) (qv 3)) zB) (z5 (zK zY (zK zY (zK zY (zK zY zB (qv 3)) zB) (qv 1)) zB) z8))))
   (zM (y6 (i:=1) nG.nd rfl (Or.inl rfl) (zW wD hr2 (by rfl) wG xL.kp wF (z5 (qv 0) (z5 (zK zY (qv 4) (xB (z5 (zK zY (zK zY zB (qv 1)) zB) z8))) z8))))))))
   (zM (zX (qv 1))))),λxs st Q h=> ?_⟩
 obtain⟨i,a,b,rfl,hi,hb,q⟩:=h;have hbig:=rB;obtain⟨⟨l1,l2,l3,l4,l5⟩,l6,l7,l8,l9⟩:=q1;obtain⟨⟨m1,m2,m3,m4,m5⟩,m6,m7,m8,m9⟩:=q2
 simp_all? only[true_and]
 refine⟨i,_,_,a,b,rfl,hi,hb,rfl,rfl,λr hr a b hb=> ?_⟩;refine⟨i,_,_,a,b,rfl,y8 hi,hb,rfl,rfl,λr' hr' a b hb=> ?_⟩;have hr: ∃n:Int,r= .int n/\n<=30/\0<=n:=by rcases hr with rfl | rfl <;> exact⟨_,rfl,by decide,by decide⟩
 have hr': ∃n:Int,r'= .int n/\n<=30/\0<=n:=by rcases hr' with rfl | rfl <;> exact⟨_,rfl,by decide,by decide⟩
 obtain⟨n,rfl,hn,hn0⟩:=hr;obtain⟨n',rfl,hn',hn0'⟩:=hr'
 simp_all? only[true_and]
 refine⟨i,_,a,b,rfl,y8 hi,hb,.inl ⟨_,rfl,by simp,by show 6<=1000;decide,rfl,λy hy a b hb=> ?_⟩⟩;have hy: ∃n:Int,y= .int n/\n<=30/\0<=n:=by
  simp only[List.mem_cons,List.not_mem_nil,or_false]at hy;rcases hy with rfl | rfl | rfl | rfl | rfl | rfl <;> exact⟨_,rfl,by omega,by omega⟩
 obtain⟨n,rfl,hn,hn0⟩:=hy
 simp_all? only[true_and]
 refine⟨by omega,?_⟩;refine jA (λj env s=> ∃(x:Str) (v1 v2 v3:Option PV) (a b:Int),env= [some (PV.obj i),some (PV.str x),v1,v2,v3]/\x.length<=1+20 * j/\s=st.set i (xV a b)/\wC a b) ⟨_,none,none,none,a,b,rfl,by decide,rfl,hb⟩ ?_ ?_
 ·rintro j x env s hx ⟨z,v1,v2,v3,a,b,rfl,hz,rfl,hb⟩
  have hj:=(i8 hx).1
  simp_all? only[true_and]
  refine⟨9,by decide,by decide,i,a,b,rfl,y8 hi,hb,λy hy a b hb=> ?_⟩
  simp_all? only[true_and]
  refine⟨by omega,by rw[y0];omega,by rw[y0,y0];omega,by rw[y0,y0,y0];omega,by omega,by rw[y0];omega,by rw[y0,y0];omega,by rw[y0,y0,y0];omega,by omega,by rw[y0];omega,?_⟩;refine⟨by decide,tQ (1+20 * (j+1)) (xF (by rw[y0,y0,y0,y0];omega) (xF (by rw[y0,y0,y0,y0];omega) (xF (by rw[y0,y0];omega) rfl))) (by show 0 < 3;decide) (by show 3<=1000;decide) (y8 hi) hb λw hw a b hb=> ?_⟩;exact⟨w,_,_,_,a,b,rfl,hw,by rw[List.set_set],hb⟩
 ·rintro env s ⟨z,v1,v2,v3,a,b,rfl,hz,rfl,hb⟩
  rw[qA]at hz
  simp_all? only[true_and]
  exact q _ (by omega) a b hb
theorem zm3 (M:Mo K mg){f:Addr}{fd:FuncData}(F:zN K "_law_term_of" "_law_term_of" iL f fd):zZ P w K mg base yE 13 f fd ["_law_feed_here","_law_told"] (yD K (zpD)):=by
 obtain⟨oE,oF,xO,vA,vB⟩:=M._law_next;have v0:=pJ (P:=P) (w:=w) (base:=base) M xO;obtain⟨ztV,zug,pW,mJ,mU⟩:=M._law_any_term;have gE:=zg5 (P:=P) (w:=w) (base:=base) M pW mJ mU 7;obtain⟨ztW,zuh,zcW,zjn,zl7⟩:=M._law_chain;have ziC:=zmy (P:=P) (w:=w) (base:=base) M zcW;refine xU 0 F zpc (λxs st Q h=>by obtain⟨_,i,a,b,rfl,_⟩:=h;rfl) ⟨_,λcdv A outer s H E hr=>have hr1:zF 1 _:=hr.mono (by decide);have hr4:zF 4 _:=hr.mono (by decide);have hr12:zF 12 _:=hr.mono (by decide);(zH (y9 (y7 (xE hr) (zW v0 hr1 (by rfl) vB xO.kp vA (z5 (qv 0) (z5 zD z8))) zD (y4 _)) (zM (zX (zW ziC hr4 (by rfl) zl7 zcW.kp zjn (z5 (qv 0) z8)))) yA)
   (zM (zX (zW gE hr12 (by rfl) mU pW.kp mJ (z5 (qv 0) (z5 (qv 1) (z5 zD (z5 zD z8)))))))),λxs st Q h=> ?_⟩
 obtain⟨told,i,a,b,rfl,hi,hb,q⟩:=h
 simp_all? only[true_and]
 refine⟨i,_,a,b,rfl,hi,hb,by decide,by decide,λd a b h0 h1 hb=> ?_⟩
 simp_all? only[true_and]
 refine xD (λh=> ?_) (λh=> ?_)
 ·refine⟨i,a,b,rfl,y8 hi,hb,λx hx a b hb=> ?_⟩
  simp_all? only[true_and]
  exact q _ hx a b hb
 ·refine⟨told,30,6,by decide,by decide,i,a,b,rfl,y8 hi,hb,λx hx a b hb=> ?_⟩
  simp_all? only[true_and]
  exact q _ (Nat.le_trans hx (zd6 (Nat.le_refl _))) a b hb
theorem nd6:(["_law_word_here","_law_letters","_law_one_here"]:List Str).Nodup:=by decide+kernel
theorem zg8 (M:Mo K mg){f:Addr}{fd:FuncData}(F:zN K "_law_is_plain" "_law_is_plain" lK f fd):zZ P w K mg base yE 1 f fd ["_law_word_here"] (yD K (zhJ)):=by
 refine xU 0 F zh1 (λxs st Q h=>by obtain⟨w,rfl,_⟩:=h;rfl) ⟨_,λcdv A outer s H E hr=>(zH (y6 (i:=1) zh1.nd rfl (Or.inr rfl) zB)
   (zM (zX (zbN (zoj sL sL zD (xI vD (by rfl) M.len PySem.boot_len (z5 (qv 0) z8)) zD) (jW (xI (mX rfl) (by rfl) M.all boot_all (z5 (sP (own:= ["_law_one_here"]) (uW (fsc:=zR lK) (N:= ["_law_word_here","_law_letters"]) (N':= ["_law_word_here","_law_letters"]) rfl rfl (by decide+kernel)) rfl (tT (qv 0)) (λC s H fp pins=>(vN (i:=2) nd6 rfl (Or.inl rfl))) (λC s H fp pins=>tS) (λC s H fp pins=>(vU (sK hr) (qv 2) (qv 1) (by rfl)))) z8))))))),λxs st Q h=> ?_⟩
 obtain⟨w,rfl,hw,q⟩:=h;have hz:=qM hw;have hl:=K9.S_len w
 simp_all? only[zqv]
 refine⟨hz,?_⟩;cases h:decide ((0:Int) < (K9.S w).length)with
 | false=>
  have h:=of_decide_eq_false h;have e:K9.plain w=false:=by unfold K9.plain;rw[decide_eq_false (by omega)];rfl
  rw[e]at q;exact q
 | true=>
  have h:=of_decide_eq_true h;show(if _ then _ else _);refine xD (λh2=>⟨hz,?_⟩) (λh2=> ?_)
  ·have h2:=of_decide_eq_true h2
   refine o8 (jD "abcdefghijklmnopqrstuvwxyz") (λj x e hx he=> ?_) ?_
   ·obtain⟨c,hc,rfl⟩:=rQ hx
    obtain⟨y,rfl⟩:=pB he
    simp_all? only[jE]
    exact CP.yes (e':= [_]) hx rfl rfl
   ·rw[zbi zgd zge]
    refine⟨_,rfl,?_⟩;rw[gY]
    simp_all? only[true_and]
    have e:K9.plain w=w.all K9.letter:=by unfold K9.plain;rw[decide_eq_true (show 1<=w.length by omega),decide_eq_true (show w.length<=8 by omega)];rfl
    rw[e]at q;exact q
  ·have h2:=of_decide_eq_false (Bool.not_eq_true _▸h2)
   have e:K9.plain w=false:=by unfold K9.plain;rw[decide_eq_false (show ¬ w.length<=8 by omega),Bool.and_false];rfl
   rw[e]at q;exact q
theorem nd7:(["_law_word_here","_law_most","_law_one_here"]:List Str).Nodup:=by decide+kernel
theorem zm1 (M:Mo K mg){f:Addr}{fd:FuncData}(F:zN K "_law_is_number" "_law_is_number" lJ f fd):zZ P w K mg base yE 1 f fd ["_law_word_here","_law_most"] (yD K (zp7)):=by
 refine xU 0 F zoZ (λxs st Q h=>by obtain⟨w,rfl,_⟩:=h;rfl) ⟨_,λcdv A outer s H E hr=>(zH (y9 (PW.pt (uK (y7 (xE hr) (qv 0) zB (y4 _)) (uK (y7 rT (xI vD (by rfl) M.len PySem.boot_len (z5 (qv 0) z8)) zD (y4 _)) (tU (y7 (mZ hr) (sP (own:= ["_law_one_here"]) (uW (fsc:=zR lJ) (N:= ["_law_word_here","_law_most"]) (N':= ["_law_word_here","_law_most"]) rfl rfl (by decide+kernel)) rfl (tT (qv 0)) (λC s H fp pins=>(vN (i:=2) nd7 rfl (Or.inl rfl))) (λC s H fp pins=>zoo (y7 (zg3 hr) (qv 2) zB (by rfl))) (λC s H fp pins=>(qv 2))) (xB z8) (y4 _)))))) (zM (zX sN)) yA)
   (zM (zX (zbN (vU (xE hr) (vE oU (by rfl) M.str o3 (z5 (vE zb9 (by rfl) M.int rD (z5 (qv 0) z8)) z8)) (qv 0) (y4 _)) (jW (vU zmp (vE zb9 (by rfl) M.int rD (z5 (qv 0) z8)) (qv 1) (y4 _))))))),λxs st Q h=> ?_⟩
 obtain⟨w,rfl,hw,q⟩:=h;have hz:=qM hw;have hl:=K9.S_len w
 simp_all? only[zl3]
 refine xD (λh=> ?_) (λh=>⟨hz,xD (λh2=> ?_) (λh2=>⟨hz,?_⟩)⟩)
 ·have h:=of_decide_eq_true h
  have e:K9.numJ w=false:=by rw[h];rfl
  rw[e]at q;exact q
 ·have h2:=of_decide_eq_true h2
  have e:K9.numJ w=false:=by unfold K9.numJ;rw[decide_eq_false (show ¬ w.length<=10 by omega),Bool.and_false];rfl
  rw[e]at q;exact q
 ·have h:=of_decide_eq_false (Bool.not_eq_true _▸h)
  have h2:=of_decide_eq_false (Bool.not_eq_true _▸h2);refine o8 (jM "0123456789") (λj x e hx he=> ?_) ?_
  ·obtain⟨c,hc,rfl⟩:=rQ hx
   obtain⟨y,rfl⟩:=pB he
   simp_all? only[zmk,zbd zaY,zaZ]
   cases hd:K9.digit c with
   | true=>
    simp_all? only[true_and]
    exact CP.no (e':= [_]) hx (by rw[zb6,hd];rfl) rfl
   | false=>
    simp_all? only[true_and]
    exact CP.yes (e':= [_]) hx (by rw[zb6,hd];rfl) rfl
  ·rw[zme]
   refine⟨Nat.le_trans (eI (n:=0) (λx=>Nat.le_refl _) _) (by decide),?_⟩;cases hd:w.all K9.digit with
   | false=>
    obtain⟨c,r,e⟩:=zmf hd;rw[e];have e:K9.numJ w=false:=by unfold K9.numJ;rw[hd,Bool.and_false];rfl
    rw[e]at q
    simp_all? only[true_and]
    exact q
   | true=>
    rw[zmg hd];have hi:=K9.int_of hd h (by omega);show(if _ then _ else _);rw[if_neg (by decide)];have hv:=zqL w hd;have hp:10 ^ w.length<=10 ^ 10:=Nat.pow_le_pow_right (by decide) (by omega);refine⟨by omega,_,hi,by omega,xD (λh3=>⟨by omega,_,hi,?_⟩) (λh3=> ?_)⟩
    ·have e:K9.numJ w=decide (((K9.val w:Nat):Int)<=4294967295):=by
      unfold K9.numJ;rw[hd,decide_eq_true h,decide_eq_true (show w.length<=10 by omega),decide_eq_true (beq_iff_eq.mp h3)];show decide _=decide _;exact decide_eq_decide.mpr (by omega)
     rw[e]at q
     simp_all? only[true_and]
     exact q
    ·have e:K9.numJ w=false:=by
      unfold K9.numJ;rw[decide_eq_false (λz=>h3 (beq_iff_eq.mpr z)),Bool.and_false];rfl
     rw[e]at q
     simp_all? only[true_and]
     exact q
theorem zg7 (M:Mo K mg){f:Addr}{fd:FuncData}(F:zN K "_law_is_bare" "_law_is_bare" iD f fd):zZ P w K mg base yE 2 f fd ["_law_word_here","_law_told"] (yD K (zp5)):=by
 obtain⟨zko,zkr,nU,fC,zb2⟩:=M._law_is_plain;have gH:=zg8 (P:=P) (w:=w) (base:=base) M nU;obtain⟨ztZ,zuk,zcZ,zjq,zl_⟩:=M._law_is_number;have ziF:=zm1 (P:=P) (w:=w) (base:=base) M zcZ;refine xU 0 F zoY (λxs st Q h=>by obtain⟨w,told,rfl,_⟩:=h;rfl) ⟨_,λcdv A outer s H E hr=>have hr1:zF 1 _:=hr.mono (by decide);(zH (y9 (PW.pt (uK (y7 (xE hr) (qv 0) zB (y4 _)) (tU (vF (zW ziF hr1 (by rfl) zl_ zcZ.kp zjq (z5 (qv 0) (z5 zD z8))))))) (zM (zX sN)) yA)
   (zM (zX (x6 (x5 hr) (xB (z5 (zW gH hr1 (by rfl) zb2 nU.kp fC (z5 (qv 0) z8)) (z5 (vU (sK hr) (qv 0) (xB (z5 zB (z5 zB (z5 zB z8)))) (by rfl)) z8))) (vE mY (by rfl) M.int rD (z5 (qv 1) z8)) (λ_ _=>rfl))))),λxs st Q h=> ?_⟩
 obtain⟨w,told,rfl,hw,q⟩:=h
 simp_all? only[zl6]
 refine xD (λh=> ?_) (λh=> ?_)
 ·have e:K9.tb told w=true:=by unfold K9.tb;rw[h];rfl
  rw[e]at q;exact q
 have h:decide (w= [126])=false:=Bool.not_eq_true _▸h;refine⟨w,rfl,hw,?_⟩;rw[K9.numJ_eq]
 simp_all? only[true_and]
 refine xD (λh2=> ?_) (λh2=> ?_)
 ·have e:K9.tb told w=true:=by unfold K9.tb K9.bare;rw[h2];simp
  rw[e]at q;exact q
 have h2:K9.isNum w=false:=Bool.not_eq_true _▸h2;refine⟨w,rfl,hw,?_⟩
 simp_all? only[zkO]
 cases told with
 | true=>
  simp_all? only[true_and]
  have e:K9.tb true w=K9.three.contains w:=by unfold K9.tb K9.bare;rw[h,h2];rfl
  rw[e]at q;exact q
 | false=>
  simp_all? only[true_and]
  have e:K9.tb false w=K9.plain w:=by unfold K9.tb K9.bare;rw[h,h2];rfl
  rw[e]at q;exact q
theorem nd8:(["_law_words","_law_told","_law_many","_law_word_here"]:List Str).Nodup:=by decide+kernel
theorem zm0 (M:Mo K mg){f:Addr}{fd:FuncData}(F:zN K "_law_is_inside" "_law_is_inside" nF f fd):zZ P w K mg base yE 3 f fd ["_law_words","_law_told"] (yD K (zp6)):=by
 obtain⟨zko,zkr,nU,fC,zb2⟩:=M._law_is_plain;have gH:=zg8 (P:=P) (w:=w) (base:=base) M nU;obtain⟨zkn,zkq,nR,fB,zb1⟩:=M._law_is_bare;have gG:=zg7 (P:=P) (w:=w) (base:=base) M nR;refine xU 0 F zh0 (λxs st Q h=>by obtain⟨h0,ws,told,rfl,_⟩:=h;rfl) ⟨_,λcdv A outer s H E hr=>have hr1:zF 1 _:=hr.mono (by decide);have hr2:zF 2 _:=hr.mono (by decide);(zH (y6 (i:=2) zh0.nd rfl (Or.inl rfl) (sO PySem.F.plainAttrs_dict PySem.F.slot_dict_get PySem.F.type_dict_get (by decide) (zmn hr) (zol (rZ zB zD (rZ zB zD (rZ zB zD (rZ zB zD (rZ zB zD (rZ zB zD (rZ zB zD (rZ zB zD zop)))))))) rfl rfl (by simp) (by decide)) (z5 (x6 (x5 hr) (qv 0) zD (λ_ _=>rfl)) (z5 zD z8))))
   (zH (y9 (PW.pt (uK (y7 (xE hr) (qv 2) zD (y4 _)) (tU (y7 (mZ hr) (xI vD (by rfl) M.len PySem.boot_len (z5 (qv 0) z8)) (zK zY zD (qv 2)) (y4 _))))) (zM (zX sN)) yA)
   (zH (y9 (y7 (zg3 hr) (x6 (x5 hr) (qv 0) zD (λ_ _=>rfl)) (xB (z5 zB (z5 zB z8))) (by rfl)) (zM (zX (xI (mX rfl) (by rfl) M.all boot_all (z5 (sP (own:= ["_law_word_here"]) (uW (fsc:=zR nF) (N:= ["_law_words","_law_told","_law_many"]) (N':= ["_law_words","_law_told","_law_many"]) rfl rfl (by decide+kernel)) rfl (tT (rY (qv 0) (sS zD) pL)) (λC s H fp pins=>(vN (i:=3) nd8 rfl (Or.inl rfl))) (λC s H fp pins=>tS) (λC s H fp pins=>(zW gG hr2 (by rfl) zb1 nR.kp fB (z5 (qv 3) (z5 (qv 1) z8))))) z8)))) yA)
   (zH (y9 (vF (qv 1)) (zM (zX sN)) yA)
   (zM (zX (xI (mX rfl) (by rfl) M.all boot_all (z5 (sP (own:= ["_law_word_here"]) (uW (fsc:=zR nF) (N:= ["_law_words","_law_told","_law_many"]) (N':= ["_law_words","_law_told","_law_many"]) rfl rfl (by decide+kernel)) rfl (tT (rY (qv 0) (sS zD) pL)) (λC s H fp pins=>(vN (i:=3) nd8 rfl (Or.inl rfl))) (λC s H fp pins=>tS) (λC s H fp pins=>(zW gH hr1 (by rfl) zb2 nU.kp fC (z5 (qv 3) z8)))) z8)))))))),λxs st Q h=> ?_⟩
 obtain⟨h0,ws,told,rfl,hl,hw,q⟩:=h
 simp_all? only[zij,g7]
 refine⟨xR KL,rfl,by decide,rfl,?_⟩;rw[zlL ziP,ziz,zlG]
 simp_all? only[zmj,zjM,List.length_map]
 rw[zkP]at q;refine xD (λh=> ?_) (λh=> ?_)
 ·rw[if_pos (beq_iff_eq.mp h)]at q;exact q
 rw[if_neg (λz=>h (beq_iff_eq.mpr z))]at q;refine xD (λh2=> ?_) (λh2=> ?_)
 ·rw[if_pos (λz=>by rw[z,Int.add_comm,beq_self_eq_true]at h2;cases h2)]at q;exact q
 have h2:(((ws.length:Int)+1)==(1+pE h0))=true:=by
  cases z:(((ws.length:Int)+1)==(1+pE h0))with
  | true=>rfl
  | false=>rw[z]at h2;exact absurd rfl h2
 rw[if_neg (λz=>z (by have:=beq_iff_eq.mp h2;omega))]at q;cases hc: [K9.MANY,K9.LONG].contains h0 with
 | false=>
  rw[hc,if_pos rfl]at q;rw[if_pos (by decide)];refine o8 (bF (K9.tb told)) (λj x e hx he=> ?_) ?_
  ·obtain⟨w,hw',rfl⟩:=rQ hx
   obtain⟨y,rfl⟩:=pB he
   simp_all? only[true_and]
   refine⟨w,told,rfl,hw w (List.mem_cons_of_mem _ (List.mem_of_getElem? hw')),rfl,?_⟩;exact CP.yes (e':= [_]) hx (zdx _ w) rfl
  ·rw[zdy]
   refine⟨_,rfl,?_⟩;rw[zdr]
   simp_all? only[true_and]
   exact q
 | true=>
  rw[hc,if_neg (by decide)]at q;rw[if_neg (by decide)];refine xD (λh3=> ?_) (λh3=> ?_)
  ·rw[if_pos h3]at q;exact q
  rw[if_neg h3]at q;refine o8 (bF K9.plain) (λj x e hx he=> ?_) ?_
  ·obtain⟨w,hw',rfl⟩:=rQ hx
   obtain⟨y,rfl⟩:=pB he
   simp_all? only[true_and]
   refine⟨w,rfl,hw w (List.mem_cons_of_mem _ (List.mem_of_getElem? hw')),rfl,?_⟩;exact CP.yes (e':= [_]) hx (zdx _ w) rfl
  ·rw[zdy]
   refine⟨_,rfl,?_⟩;rw[zdr]
   simp_all? only[true_and]
   exact q
theorem zm6 (M:Mo K mg){f:Addr}{fd:FuncData}(F:zN K "_law_words_of" "_law_words_of" iN f fd):zZ P w K mg base yE 4 f fd ["_law_row","_law_told"] (yD K (zp8)):=by
 obtain⟨ztY,zuj,zcY,zjp,zl9⟩:=M._law_is_inside;have ziE:=zm0 (P:=P) (w:=w) (base:=base) M zcY;refine xU 0 F pR (λxs st Q h=>by obtain⟨x,told,rfl,_⟩:=h;rfl) ⟨_,λcdv A outer s H E hr=>have hr3:zF 3 _:=hr.mono (by decide);(zH (y9 (y7 (sK hr) zB (qv 0) (by rfl)) (zM (zX (xB (z5 zB z8)))) yA)
   (zH (y6 (i:=2) pR.nd rfl (Or.inl rfl) zD)
   (zH (jX PassesOwn.never rfl (tT (qv 0)) (vN (i:=3) pR.nd rfl (Or.inl rfl)) (zH (y6 (i:=2) pR.nd rfl (Or.inl rfl) (zK pH (zK zY (qv 2) (vE mY (by rfl) M.int rD (z5 (vU (xE hr) (qv 3) zB (y4 _)) z8))) (vE mY (by rfl) M.int rD (z5 (vU (xE hr) (qv 3) zB (y4 _)) z8))))
   (zM (y9 (PW.pt (uK (y7 sL (qv 2) zD (y4 _)) (tU (y7 rT (qv 2) zD (y4 _))))) (zM (zX (xB (z5 zB z8)))) yA))))
   (zH (zou PassesOwn.never (y7 (sK hr) zB (qv 0) (by rfl)) (zH (y6 (i:=4) pR.nd rfl (Or.inl rfl) (xI vD (by rfl) M.len PySem.boot_len (z5 (x6 (x5 hr) (sO PySem.F.plainAttrs_str PySem.F.slot_str_rpartition PySem.F.type_str_rpartition (by decide) zms (qv 0) (z5 zB z8)) zD (λ_ _=>rfl)) z8)))
   (zH (y6 (i:=5) pR.nd rfl (Or.inl rfl) (sO PySem.F.plainAttrs_str PySem.F.slot_str_find PySem.F.type_str_find (by decide) zml (qv 0) (z5 zB (z5 (qv 4) z8))))
   (zH (y9 (PW.pt (uK (y7 sL (qv 5) zD (y4 _)) (tU (sU (vF (zW ziE hr3 (by rfl) zl9 zcY.kp zjp (z5 (sO PySem.F.plainAttrs_str PySem.F.slot_str_split PySem.F.type_str_split (by decide) zbA (rY (qv 0) (sS (zK zY (qv 4) zD)) (sS (qv 5))) (z5 zB z8)) (z5 (qv 1) z8)))))))) (zM (zX (xB (z5 zB z8)))) yA)
   (zM (y6 (i:=0) pR.nd rfl (Or.inl rfl) (zK zY (zK zY (rY (qv 0) pL (sS (qv 4))) zB) (rY (qv 0) (sS (zK zY (qv 5) zD)) pL))))))))
   (zM (zX (sO PySem.F.plainAttrs_str PySem.F.slot_str_split PySem.F.type_str_split (by decide) zbA (qv 0) (z5 zB z8)))))))),λxs st Q h=> ?_⟩
 obtain⟨x,told,rfl,hl,q⟩:=h;have hz:(K9.S x).length<=sizeLine:=qM hl;have no: ¬ K9.Good told x->Q (PV.lst [PV.str ""]) st:=λn=>by
  rw[zmd];refine q [[]] (by decide) (λw hw=>by rw[List.mem_singleton.mp hw];decide) ⟨λ⟨w,e,t⟩=> ?_,λg=>absurd g n⟩;cases e;rw[zql]at t;cases t
 refine yH ?_;simp? only[zfI zhZ];by_cases h126:126∈x
 ·rw[decide_eq_true h126]
  simp? only[true_and];exact no λg=>(K9.good_G.mp g).1 h126
 rw[decide_eq_false h126];simp? only[true_and];refine yH ?_;simp? only[true_and];refine yH ?_;simp? only[true_and];refine⟨hz,?_⟩;rw[zcz];refine jA (λj env s=> ∃(d:Int) (v:Option PV),env= [some (sv x),some (PV.bl told),some (PV.int d),v,none,none]/\s=st/\0<=d/\d<=20/\K9.dk 0 x=K9.dk d (x.drop j)) ⟨0,none,rfl,rfl,by decide,by decide,rfl⟩ ?_ ?_
 ·rintro j y env s hy ⟨d,v,rfl,rfl,d0,d1,ed⟩
  obtain⟨c,hc,rfl⟩:=rQ hy;have hx:=List.getElem?_eq_some_iff.mp hc;have e:x.drop j=c::x.drop (j+1):=by rw[List.drop_eq_getElem_cons hx.1,hx.2]
  rw[e,K9.dk_cons]at ed
  simp_all? only[c40,c41,zqw]
  refine xD (λh=> ?_) (λh=> ?_)
  ·have h:=of_decide_eq_true h
   refine no λg=> ?_;have g:=(K9.good_G.mp g).2.1;rw[ed,decide_eq_false (by omega)]at g;cases g
  refine xD (λh2=> ?_) (λh2=> ?_)
  ·have h2:=of_decide_eq_true h2
   refine no λg=> ?_;have g:=(K9.good_G.mp g).2.1;rw[ed,decide_eq_false (show ¬ d+K9.up c<=20 by omega),Bool.and_false]at g;cases g
  have h:=of_decide_eq_false (Bool.not_eq_true _▸h);have h2:=of_decide_eq_false (Bool.not_eq_true _▸h2);rw[decide_eq_true (show 0<=d+K9.up c by omega),decide_eq_true (show d+K9.up c<=20 by omega)]at ed;exact⟨_,_,rfl,by omega,by omega,ed⟩
 rintro env s ⟨d,v,rfl,rfl,d0,d1,ed⟩;rw[List.length_map,List.drop_length]at ed;have good:K9.Good told x↔K9.G told x:=⟨λg=>(K9.good_G.mp g).2.2,λg=>K9.good_G.mpr ⟨h126,ed,g⟩⟩;simp? only[true_and];refine yH ?_;refine⟨λm env s'=> ∃(y:W9) (v2 v3 v4 v5:Option PV),env= [some (sv y),some (PV.bl told),v2,v3,v4,v5]/\s'=s/\y.length<=300000/\(K9.G told y↔K9.G told x)/\y.length=m,⟨_,x,_,_,_,_,rfl,rfl,hl,Iff.rfl,rfl⟩,?_⟩;rintro m env s' ⟨y,v2,v3,v4,v5,rfl,es,hy,hg,rfl⟩;subst es;have hzy:(K9.S y).length<=sizeLine:=qM hy;simp? only[zfI zgj];by_cases h40:40∈y
 ·rw[decide_eq_true h40,if_pos rfl]
  refine⟨_,λ_ _ h=>h,?_⟩;obtain⟨A,B,rfl,hB⟩:=K9.last_dec h40;have hS:(K9.S (A++40::B)).length<=1000000:=by rw[K9.S_len];omega
  have hA:A.length<=300000:=by rw[List.length_append]at hy;omega
  have bad: ¬ K9.G told (A++40::B)->Q (PV.lst [PV.str ""]) s':=λn=>no λg=>n (hg.mpr (good.mp g));refine yH ?_;simp? only[zgj,K9.last_at hB];refine⟨by decide+kernel,hS,qM hA,?_⟩;rw[K9.S_len];refine yH ?_;simp? only[zoN];rcases K9.find_at (A:=A) (B:=B) (c:=40) (c':=41) (by decide) rfl with⟨ef,h41⟩ | ⟨I,C,rfl,hI,ef⟩
  ·rw[ef]
   refine yH ?_;simp? only[true_and];exact bad (K9.G_no hB h41)
  rw[ef];have gi:=K9.G_iff (told:=told) (A:=A) hB hI;have hlen:(A++40::(I++41::C)).length=A.length+1+I.length+1+C.length:=by simp;omega
  have sl:Txt.slice (K9.S (A++40::(I++41::C))) (some ((A.length:Int)+1)) (some ((A.length:Int)+1+(I.length:Int)))=K9.S I:=by
   rw[show((A.length:Int)+1+(I.length:Int))=((A.length+1+I.length:Nat):Int) by omega,show((A.length:Int)+1)=((A.length+1:Nat):Int) by omega,K9.slice_ss _ (by omega) (by omega)]
   congr 1
   rw[show A.length+1+I.length - (A.length+1)=I.length by omega,show A++40::(I++41::C)=(A++ [40])++(I++41::C) by simp,show A.length+1=(A++ [40]).length by simp,List.drop_left,List.take_left]
  have st1:Txt.slice (K9.S (A++40::(I++41::C))) none (some (A.length:Int))=K9.S A:=by
   rw[K9.slice_to _ (by omega),List.take_left]
  have st2:Txt.slice (K9.S (A++40::(I++41::C))) (some ((A.length:Int)+1+(I.length:Int)+1)) none=K9.S C:=by
   rw[show((A.length:Int)+1+(I.length:Int)+1)=((A.length+1+I.length+1:Nat):Int) by omega,K9.slice_from _ (by omega)]
   congr 1
   rw[show A++40::(I++41::C)=(A++40::I++ [41])++C by simp,show A.length+1+I.length+1=(A++40::I++ [41]).length by simp;omega,List.drop_left]
  refine yH ?_;simp? only[true_and];rw[if_neg (by simp only[decide_eq_true_eq];omega)];refine⟨hzy,λ_=> ?_⟩;rw[sl];refine⟨by decide+kernel,by rw[K9.S_len];omega,?_⟩;rw[zc6];cases es:K9.spl I with
  | nil=>exact absurd es (K9.spl_ne I)
  | cons h0 ws=>
   have el:=zc4 I;have em:=zc5 I;rw[es]at el em gi;rw[List.length_cons]at el;refine⟨h0,ws,told,rfl,by omega,λw hw=>by have:=em w hw;omega,?_⟩;cases hin:K9.ins told (h0::ws)with
   | false=>
    simp? only[true_and];exact bad λg=>by have:=(gi.mp g).1;rw[hin]at this;cases this
   | true=>
    simp? only[true_and];refine⟨hzy,λ_=> ?_⟩;rw[st1];have t1:(K9.S A).length+("~" :Str).length<=sizeLine:=by rw[K9.S_len,show("~" :Str).length=1 by decide+kernel];have:=rB;omega
    refine⟨t1,hzy,λ_=> ?_⟩;rw[st2,zhZ,show(⟨#[126]⟩:Str)=K9.S [126]from rfl,K9.S_app,K9.S_app];refine⟨by rw[K9.S_len,K9.S_len,List.length_append,show [126].length=1 from rfl];have:=rB;omega,?_⟩;rw[show A++ [126]++C=A++126::C by simp];refine⟨(A++126::C).length,?_,_,_,_,_,_,rfl,?_,?_,rfl⟩
    ·rw[hlen];simp;omega
    ·simp;omega
    ·rw[<- hg,gi,hin]
     exact⟨λg=>⟨rfl,g⟩,λg=>g.2⟩
 ·rw[decide_eq_false h40,if_neg (by decide)]
  simp_all? only[true_and]
  refine⟨by decide+kernel,by rw[K9.S_len];omega,?_⟩;rw[zc6];have el:=zc4 y;have em:=zc5 y;refine q _ (by omega) (λw hw=>by have:=em w hw;omega) ?_;rw[good,<- hg,K9.G_leaf h40]
theorem zm4 (M:Mo K mg){HE B J:Addr}{fj:FuncData}(N:XE K mg HE B J fj){C Ia:Addr}{fi:FuncData}{Aa:Addr}{fa:FuncData}{Ta:Addr}{ft:FuncData}{Ka:Addr}{fk:FuncData}{Ea:Addr}{fe:FuncData}{Wa:Addr}{fw:FuncData}(U:PX K mg C Ia fi Aa fa Ta ft Ka fk Ea fe Wa fw){f:Addr}{fd:FuncData}(F:zN K "_law_term_right" "_law_term_right" iM f fd):zZ P w K mg base yE 101 f fd ["_law_text","_law_told"] (yD K (zhG)):=by
 obtain⟨zux,zut,zdg,zj0,zlR⟩:=M.read_term;have ziM:=zmD (P:=P) (w:=w) (base:=base) M N U zdg;obtain⟨zuy,zuu,qH,o4,oQ⟩:=M.«show_term»;have kF:=zgC (P:=P) (w:=w) (base:=base) M qH o4 oQ 28;obtain⟨zkn,zkq,nR,fB,zb1⟩:=M._law_is_bare;have gG:=zg7 (P:=P) (w:=w) (base:=base) M nR;obtain⟨zue,zup,zdc,zjt,zlC⟩:=M._law_words_of;have ziI:=zm6 (P:=P) (w:=w) (base:=base) M zdc;refine xU 0 F nH (λxs st Q h=>by obtain⟨x,told,rfl,_⟩:=h;rfl) ⟨_,λcdv A outer s H E hr=>have hr2:zF 2 _:=hr.mono (by decide);have hr4:zF 4 _:=hr.mono (by decide);have hr30:zF 30 _:=hr.mono (by decide);have hr100:zF 100 _:=hr.mono (by decide);(zH (y6 (i:=2) nH.nd rfl (Or.inl rfl) (zW ziI hr4 (by rfl) zlC zdc.kp zjt (z5 (qv 0) (z5 (qv 1) z8)))) (zox (zov (i:=3) nH.nd rfl (Or.inl rfl) (zoq (zor (xE hr) (xI vD (by rfl) M.len PySem.boot_len (z5 (qv 2) z8)) zos (y4 _)) (jW (zW gG hr2 (by rfl) zb1 nR.kp fB (z5 (x6 (x5 hr) (qv 2) zD (λ_ _=>rfl)) (z5 (qv 1) z8)))))) (jY (PS.toP (y6 (i:=4) nH.nd rfl (Or.inl rfl) zbO)) (jY (PS.toP (y6 (i:=5) nH.nd rfl (Or.inl rfl) zbO)) (zow (i:=6) (j:=5) (r:=4) (d:=3) ziM hr100 zlR zdg zj0 (λEE=>z5 (qv 0) (z5 (qv 1) z8)) kF hr30 oQ qH o4 N.nh N.head N.gh rfl rfl rfl nH.nd rfl rfl rfl rfl rfl rfl (by decide) (by decide) (by decide) (zH (y9 (vF (qv 3)) (zM (zX (zbN (vU zmo (qv 4) zbO (y4 _)) (jW (vU (xE hr) (qv 5) (qv 0) (y4 _)))))) yA) (zM zbQ)) (λe dx ws sl=>znU (d:=3) (c:=4) N.top N.nh (List.mem_append_right _ (List.mem_singleton.mpr rfl)) rfl (Or.inl rfl) rfl (Or.inl rfl) (by rfl) M.isinstance (by rfl) M.bool (by rfl) N.gn N.kk N.na zjx)))))),λxs st Q h=> ?_⟩;obtain⟨x,told,rfl,hl,q⟩:=h
 simp_all? only[true_and]
 refine⟨x,told,rfl,hl,λws hwl hwm hiff=> ?_⟩;cases ep:K9.prd told x with
 | some t=>
  obtain⟨w,rfl,ht⟩:=hiff.mpr (K9.good_iff.mpr ⟨t,ep⟩)
  simp_all? only[true_and]
  refine⟨w,told,rfl,hwm w (List.mem_singleton.mpr rfl),?_⟩;rw[ht];refine .inl ⟨x,told,rfl,hl,.inl ⟨t,ep,?_⟩⟩;obtain⟨v,d,rfl⟩:=K9.prd_some ep;refine⟨told,t,rfl,v,by omega,hl,?_⟩
  simp_all? only[beq_self_eq_true]
  exact q
 | none=>
  have ng: ¬ ∃w,ws= [w]/\K9.tb told w=true:=λz=>by
   obtain⟨t,e⟩:=K9.good_iff.mp (hiff.mp z);rw[ep]at e;cases e
  by_cases h1:ws.length=1
  ·obtain⟨w,rfl⟩:=pB h1
   have ht:K9.tb told w=false:=by
    cases z:K9.tb told w with
    | false=>rfl
    | true=>exact absurd ⟨w,rfl,z⟩ ng
   simp_all? only[true_and]
   refine⟨w,told,rfl,hwm w (List.mem_singleton.mpr rfl),?_⟩;rw[ht];refine .inr ⟨rfl,rfl,⟨x,told,rfl,hl,.inr ⟨ep,rfl,rfl⟩⟩,?_⟩
   simp_all? only[true_and]
   exact q
  ·have hb:((ws.length:Int)==1)=false:=beq_eq_false_iff_ne.mpr (by omega)
   simp_all? only[List.length_map,hb]
   refine .inr ⟨rfl,⟨x,told,rfl,hl,.inr ⟨ep,rfl,rfl⟩⟩,?_⟩;exact q
theorem zmB (M:Mo K mg){HE B J:Addr}{fj:FuncData}(N:XE K mg HE B J fj){C Ia:Addr}{fi:FuncData}{Aa:Addr}{fa:FuncData}{Ta:Addr}{ft:FuncData}{Ka:Addr}{fk:FuncData}{Ea:Addr}{fe:FuncData}{Wa:Addr}{fw:FuncData}(U:PX K mg C Ia fi Aa fa Ta ft Ka fk Ea fe Wa fw){f:Addr}{fd:FuncData}(F:zN K "law" "law" zc1 f fd):zZ P w K mg base yE 102 f fd ["_law_script"] (yD K (lS)):=by
 obtain⟨ztX,zui,zcX,zjo,zl8⟩:=M._law_feed;have ziD:=zmz (P:=P) (w:=w) (base:=base) M zcX;obtain⟨oE,oF,xO,vA,vB⟩:=M._law_next;have v0:=pJ (P:=P) (w:=w) (base:=base) M xO;obtain⟨mO,mP,xL,wF,wG⟩:=M._law_one;have wD:=oV (P:=P) (w:=w) (base:=base) M xL;obtain⟨zub,zum,zda,zjr,zlA⟩:=M._law_term_of;have ziG:=zm3 (P:=P) (w:=w) (base:=base) M zda;obtain⟨zuc,zun,gC,zdz,zgl⟩:=M._law_term_right;have zdh:=zm4 (P:=P) (w:=w) (base:=base) M N U gC;refine xU 0 F sW (λxs st Q h=>by obtain⟨ns,rfl,_⟩:=h;rfl) ⟨_,λcdv A outer s H E hr=>have hr1:zF 1 _:=hr.mono (by decide);have hr2:zF 2 _:=hr.mono (by decide);have hr13:zF 13 _:=hr.mono (by decide);have hr101:zF 101 _:=hr.mono (by decide);(zH (jX PassesOwn.never rfl (lF (by rfl) M.range (z5 (xI (zg0 rfl) (by rfl) M.max boot_max (z5 zD (z5 (xI (zg1 rfl) (by rfl) M.min boot_min (z5 zD (z5 (xI vD (by rfl) M.len PySem.boot_len (z5 (qv 0) z8)) z8))) z8))) z8)) (vN (i:=1) sW.nd rfl (Or.inl rfl)) (zH (y6 (i:=2) sW.nd rfl (Or.inl rfl) (zW ziD hr1 (by rfl) zl8 zcX.kp zjo (z5 (qv 0) (z5 (qv 1) z8))))
   (zH (y6 (i:=3) sW.nd rfl (Or.inl rfl) (vU (xE hr) (zW v0 hr1 (by rfl) vB xO.kp vA (z5 (qv 2) (z5 zD z8))) zD (y4 _)))
   (zH (y6 (i:=4) sW.nd rfl (Or.inl rfl) (zW ziG hr13 (by rfl) zlA zda.kp zjr (z5 (qv 2) (z5 (qv 3) z8))))
   (zH (y6 (i:=5) sW.nd rfl (Or.inl rfl) (zW wD hr2 (by rfl) wG xL.kp wF (z5 (qv 2) (z5 (xB (z5 zB (z5 zB (z5 zB (z5 zB (z5 (zK zY (qv 4) zB) (z5 (zK zY zB (qv 4)) (z5 (zK zY (zK zY zB (qv 4)) zB) (z5 (zK zY (qv 4) zB) (z5 (zK zY (qv 4) zB) z8)))))))))) z8))))
   (zH (y6 (i:=6) sW.nd rfl (Or.inl rfl) (zK zY zD (zW v0 hr1 (by rfl) vB xO.kp vA (z5 (qv 2) (z5 zD z8)))))
   (zH (y6 (i:=7) sW.nd rfl (Or.inl rfl) (zK zY (zK zY (zK zg2 zB (qv 6)) zB) (zK zg2 zB (qv 6))))
   (zM (jX PassesOwn.never rfl (tT (sR (z5 (qv 4) (z5 (qv 5) (z5 (qv 4) (z5 (qv 7) z8)))))) (vN (i:=8) sW.nd rfl (Or.inl rfl)) (zM (y9 (PW.pt (uK (sU (vF (zW zdh hr101 (by rfl) zgl gC.kp zdz (z5 (qv 8) (z5 (qv 3) z8))))) (tU (sU (vF (zW zdh hr101 (by rfl) zgl gC.kp zdz (z5 (qv 8) (z5 (zon (qv 3)) z8)))))))) (zM (zX sN)) yA)))))))))))
   (zM (zX sN))),λxs st Q h=> ?_⟩
 obtain⟨ns,rfl,rfl,hl,q⟩:=h;have hbig:=rB;obtain⟨⟨l1,l2,l3,l4,l5⟩,l6,l7,l8,l9⟩:=q1;obtain⟨⟨m1,m2,m3,m4,m5⟩,m6,m7,m8,m9⟩:=q2
 simp_all? only[List.length_map]
 refine⟨⟨by split <;> (try split) <;> omega,by split <;> (try split) <;> omega⟩,?_⟩;refine jA (λj env s=> ∃v1 v2 v3 v4 v5 v6 v7 v8:Option PV,env= [some (PV.lst (ns.map PV.int)),v1,v2,v3,v4,v5,v6,v7,v8]) ⟨none,none,none,none,none,none,none,none,rfl⟩ ?_ ?_
 ·rintro j x env s hx ⟨v1,v2,v3,v4,v5,v6,v7,v8,rfl⟩
  obtain⟨_,rfl⟩:=i8 hx;simp? only[true_and];refine yH ?_;simp? only[true_and];refine⟨ns,_,rfl,hl,by omega,λa b hb=> ?_⟩;refine yH ?_;simp? only[true_and];refine⟨s.length,_,a,b,rfl,kQ,hb,by decide,by decide,λd a b d0 d1 hb=> ?_⟩;simp? only[true_and];generalize (d==0)=told;refine yH ?_;simp? only[true_and];refine⟨told,s.length,a,b,rfl,kQ,hb,λt ht a b hb=> ?_⟩;simp? only[true_and];refine yH ?_;simp? only[true_and];refine⟨by omega,by omega,by omega,by rw[y0];omega,by omega,by omega,?_⟩;refine tQ 40002 (xF (by omega) (xF (by omega) (xF (by omega) (xF (by omega) (xF (by rw[y0];omega) (xF (by rw[y0];omega) (xF (by rw[y0,y0];omega) (xF (by rw[y0];omega) (xF (by rw[y0];omega) rfl))))))))) (by show 0 < 9;decide) (by show 9<=1000;decide) kQ hb λo ho a b hb=> ?_;simp? only[true_and];refine yH ?_;simp? only[true_and];refine⟨s.length,_,a,b,rfl,kQ,hb,by decide,by decide,λd a b d0 d1 hb=> ?_⟩;simp? only[true_and];obtain⟨dl1,dl2⟩:=zjY d0 d1;refine yH ?_;simp? only[true_and];refine⟨⟨⟨by omega,by omega⟩,by decide⟩,by omega,⟨⟨by omega,by omega⟩,by decide⟩,by rw[y0];omega,?_⟩;have hx: ∀y∈ [PV.str t,PV.str o,PV.str t,PV.str (Txt.mul "(+ 1 " (20+d)++ "2" ++Txt.mul ")" (20+d))],∃z:Str,y= .str z/\z.length<=300000:=λy hy=>by
   simp only[List.mem_cons,List.not_mem_nil,or_false]at hy;rcases hy with rfl | rfl | rfl | rfl
   ·exact⟨_,rfl,by omega⟩
   ·exact⟨_,rfl,by omega⟩
   ·exact⟨_,rfl,by omega⟩
   ·exact⟨_,rfl,by rw[y0,y0];omega⟩
  refine jA (λj' env s'=> ∃v1 v2 v4 v5 v6 v7 v8:Option PV,env= [some (PV.lst (ns.map PV.int)),v1,v2,some (PV.bl told),v4,v5,v6,v7,v8]) ⟨_,_,_,_,_,_,_,rfl⟩ ?_ ?_
  ·rintro j' y env s' hy ⟨v1,v2,v4,v5,v6,v7,v8,rfl⟩
   obtain⟨z,rfl,hz⟩:=hx y (List.mem_of_getElem? hy);simp? only[true_and];refine zib hz ?_;simp? only[true_and];refine zib hz ?_;simp? only[true_and];exact⟨_,_,_,_,_,_,_,rfl⟩
  ·rintro env s' ⟨v1,v2,v4,v5,v6,v7,v8,rfl⟩
   exact⟨_,_,_,_,_,_,_,_,rfl⟩
 ·rintro env s ⟨v1,v2,v3,v4,v5,v6,v7,v8,rfl⟩
  simp_all? only[true_and]
  exact q
end
theorem uI {us:List Value}(h:us.length=1): ∃x0,us= [x0]:=by
 rcases us with _ | ⟨x0,_ | ⟨y,us⟩⟩ <;> first | exact⟨x0,rfl⟩ | (simp at h;done)
theorem vG {us:List Value}(h:us.length=2): ∃x0 x1,us= [x0,x1]:=by
 rcases us with _ | ⟨x0,_ | ⟨x1,_ | ⟨y,us⟩⟩⟩ <;> first | exact⟨x0,x1,rfl⟩ | (simp at h;done)
theorem kU {us:List Value}(h:us.length=3): ∃x0 x1 x2,us= [x0,x1,x2]:=by
 rcases us with _ | ⟨x0,_ | ⟨x1,_ | ⟨x2,_ | ⟨y,us⟩⟩⟩⟩ <;> first | exact⟨x0,x1,x2,rfl⟩ | (simp at h;done)
theorem zd4 {us:List Value}(h:us.length=4): ∃x0 x1 x2 x3,us= [x0,x1,x2,x3]:=by
 rcases us with _ | ⟨x0,_ | ⟨x1,_ | ⟨x2,_ | ⟨x3,_ | ⟨y,us⟩⟩⟩⟩⟩ <;> first | exact⟨x0,x1,x2,x3,rfl⟩ | (simp at h;done)
def Dg (K:Frag)(x:Str)(st:Stmt):Prop:= ∃(f:Addr) (od an:Option Addr) (sl:Array (Option Value)) (oc kV dc pm cd ct:Value),nsIn K mainGlobals x=some (some (.ref f))/\K.lookup f=some ⟨oc,od,.func (fnOf x x (rF st) (u6 st) (zR st) .none kV dc pm an cd ct),sl⟩/\codeIn K cd x=true/\keepIn K (.ref f)=true
theorem Dg.go {K:Frag}{h:Heap}{mg:Str->Option Value}{x:Str}{st:Stmt}{ps:List Str}(d:Dg K x st)(X:K.In h)(G:h.Ns mainGlobals mg)(hb: ∀f fd,zN K x x st f fd->zS K fd ps []): ∃f fd,zN K x x st f fd/\zS K fd ps []/\mg x=some (.ref f):=by
 obtain⟨f,_,_,_,_,_,_,_,_,_,a,l,c,k⟩:=d;exact⟨f,_,oG l c k,hb _ _ (oG l c k),mg_of X G a⟩
def Mg (K:Frag)(C:Addr)(x q:Str)(st:Stmt):Prop:= ∃(f:Addr) (od an:Option Addr) (sl:Array (Option Value)) (oc kV dc pm cd ct:Value),findIn K (.ref C) x=some (some (.ref f))/\K.lookup f=some ⟨oc,od,.func (fnOf x q (rF st) (u6 st) (zR st) .none kV dc pm an cd ct),sl⟩/\codeIn K cd q=true/\keepIn K (.ref f)=true/\isFn K (.ref f)=true
theorem Mg.go {K:Frag}{C:Addr}{x q:Str}{st:Stmt}{ps:List Str}(d:Mg K C x q st)(hb: ∀f fd,zN K x q st f fd->zS K fd ps []): ∃f fd,findIn K (.ref C) x=some (some (.ref f))/\isFn K (.ref f)=true/\keepIn K (.ref f)=true/\zN K x q st f fd/\zS K fd ps []:=by
 obtain⟨f,_,_,_,_,_,_,_,_,_,a,l,c,k,n⟩:=d;exact⟨f,_,a,n,k,oG l c k,hb _ _ (oG l c k)⟩
theorem all_mk {l:PySem.W.OpenLaw}{w:World}{K:Frag}{h:Heap}{mg:Str->Option Value}{fa:Addr}(X:K.In h)(G:h.Ns mainGlobals mg)(hfa:mg "law" =some (.ref fa))
  (d1:Dg K "is_word" lR)
  (d2:Dg K "is_number" lQ)
  (d3:Dg K "number_of" iS)
  (d4:Dg K "read_term" iX)
  (d5:Dg K "take_term" lU)
  (d6:Dg K "plain_term" iV)
  (d7:Dg K "take_inside" lT)
  (d8:Dg K "take_terms" pS)
  (d9:Dg K "show_term" nK)
  (d10:Dg K "bracketed" iP)
  (d11:Dg K "_law_feed" iB)
  (d12:Dg K "_law_next" iG)
  (d13:Dg K "_law_one" iH)
  (d14:Dg K "_law_word" lM)
  (d15:Dg K "_law_is_plain" lK)
  (d16:Dg K "_law_is_number" lJ)
  (d17:Dg K "_law_is_bare" iD)
  (d18:Dg K "_law_is_inside" nF)
  (d19:Dg K "_law_words_of" iN)
  (d20:Dg K "_law_slip" iJ)
  (d21:Dg K "_law_name" iF)
  (d22:Dg K "_law_figures" iC)
  (d23:Dg K "_law_any_term" lI)
  (d24:Dg K "_law_chain" i9)
  (d25:Dg K "_law_term_of" iL)
  (d26:Dg K "_law_term_right" iM)
  (dl:Dg K "law" zc1) (zn: ∀x∈(["len","int","range","tuple","isinstance","bool","str","list","min","max","all","abs"]:List Str),nsIn K mainGlobals x=some none)
  {HE NHn:Addr} {hnm hq:Str} {hbs hsub:List Value} {hdt hab:Bool} {hsn:List Str} {hcol:Option Bool} {hdd hod2:Option Addr} {h0 h1 h2 h3 h5:Option Value} {hnw:String} {hsl2:Array (Option Value)} {hoc2:Value} {hes:Array DictEntry} {hep:Nat}
  {C0 J0 N0:Addr} {nm0 q0:Str} {bs0 sub0:List Value} {ab0:Bool} {sn0:List Str} {col0:Option Bool} {dd0 jod0 jan0:Option Addr} {k0_0 k1_0 k2_0 k3_0 k5_0:Option Value} {jsl0:Array (Option Value)} {joc0 jkV0 jdc0 jpm0 jcd0 jct0:Value}
  {tWIDE:Tok}
  {tLONGEST:Tok}
  {tFIGURES_AT_MOST:Tok}
  {tMOST_BRACKETS:Tok}
  {tLETTERS:Tok}
  {tFIGURES:Tok}
  {aOPS:Addr} {mOPS:Nat} {slOPS:Array (Option Value)} {tOPS0 tOPS1 tOPS2 tOPS3 tOPS4:Tok}
  {aTHREE:Addr} {mTHREE:Nat} {slTHREE:Array (Option Value)} {tTHREE0 tTHREE1 tTHREE2:Tok}
  {PC:Addr}
  (aH:nsIn K mainGlobals "HouseError" =some (some (.ref HE))) (hl:K.lookup HE=some (excClassObj hnm hq HE NHn hbs wM hdt hsn hsub hab hcol hdd h0 h1 h2 h3 h5 hnw)) (hl2:K.lookup NHn=some ⟨hoc2,hod2,.dict hes hep,hsl2⟩) (hk:(hes.toList.all λe=>match e.key with | .str _ _=>true | _=>false)=true) (hni:nsFind hes "__init__" =none)
  (hrd:readsIn K HE (.type "type")=true) (hfc:findCls K (.ref HE) (.type "type") "__init__" =some (.val (.builtin "ValueError.__init__"))) (hga:specialIn K (.ref HE) "__getattribute__" =some (some (.builtin "type.__getattribute__")))
  (hdg:specialIn K (.builtin "object.__class__") "__get__" =some (some (.builtin "getset_descriptor.__get__"))) (hds:takesIn K (.builtin "object.__class__")=some true)
  (ca0:nsIn K mainGlobals "BadText" =some (some (.ref C0))) (co0:K.lookup C0=some (excClassObj nm0 q0 C0 N0 bs0 (.ref HE::wM) true sn0 sub0 ab0 col0 dd0 k0_0 k1_0 k2_0 k3_0 k5_0 "ValueError.__new__")) (ck0:keepIn K (.ref C0)=true)
  (cs0:findIn K (.ref C0) "__setattr__" =some (some (.builtin "object.__setattr__"))) (cg0:findIn K (.ref C0) "__getattribute__" =some (some (.builtin "BaseException.__getattribute__"))) (cgg0:findIn K (.ref C0) "__getattr__" =some none) (cc0:findIn K (.ref C0) "__class__" =some (some (.builtin "object.__class__")))
  (ci0:findIn K (.ref C0) "__init__" =some (some (.ref J0))) (cf0:isFn K (.ref J0)=true) (lj0:K.lookup J0=some ⟨joc0,jod0,.func (fnOf "__init__" "BadText.__init__" (rF nE) (u6 nE) (zR nE) .none jkV0 jdc0 jpm0 jan0 jcd0 jct0),jsl0⟩) (cj0:codeIn K jcd0 "BadText.__init__" =true) (kj0:keepIn K (.ref J0)=true)
  (na0:wQ K C0 "at") (kk0:kitOne K (.ref C0) (.ref C0)=some true)
  (zWIDE:nsIn K mainGlobals "WIDE" =some (some (.int 4294967296 tWIDE)))
  (zLONGEST:nsIn K mainGlobals "LONGEST" =some (some (.int 8 tLONGEST)))
  (zFIGURES_AT_MOST:nsIn K mainGlobals "FIGURES_AT_MOST" =some (some (.int 10 tFIGURES_AT_MOST)))
  (zMOST_BRACKETS:nsIn K mainGlobals "MOST_BRACKETS" =some (some (.int 20 tMOST_BRACKETS)))
  (zLETTERS:nsIn K mainGlobals "LETTERS" =some (some (.str "abcdefghijklmnopqrstuvwxyz" tLETTERS)))
  (zFIGURES:nsIn K mainGlobals "FIGURES" =some (some (.str "0123456789" tFIGURES)))
  (zOPS:nsIn K mainGlobals "OPS" =some (some (.ref aOPS))) (yOPS:K.lookup aOPS=some ⟨.type "tuple",none,.seq #[.str "+" tOPS0,.str "-" tOPS1,.str "*" tOPS2,.str "<" tOPS3,.str "=" tOPS4] mOPS,slOPS⟩)
  (zTHREE:nsIn K mainGlobals "THREE" =some (some (.ref aTHREE))) (yTHREE:K.lookup aTHREE=some ⟨.type "tuple",none,.seq #[.str "was" tTHREE0,.str "mine" tTHREE1,.str "yours" tTHREE2] mTHREE,slTHREE⟩)
  (zP:nsIn K mainGlobals "Pieces" =some (some (.ref PC))) (p1:plainGet K PC Str.empty=true) (p2:hasDictIn K PC=true) (p3:plainOver K PC=true) (p4:findIn K (.ref PC) "__setattr__" =some (some (.builtin "object.__setattr__"))) (p5:wQ K PC "pieces") (p6:wQ K PC "place") (p7:makesIn K PC=true) (p8:keepIn K (.ref PC)=true)
  (mI:Mg K PC "__init__" "Pieces.__init__" sPI) (mA:Mg K PC "at_end" "Pieces.at_end" sPA) (mT:Mg K PC "take" "Pieces.take" sPT) (mK:Mg K PC "take_close" "Pieces.take_close" sPK) (mE:Mg K PC "take_end" "Pieces.take_end" sPE) (mW:Mg K PC "take_word" "Pieces.take_word" sPW):
  ∃fd:FuncData,(∀(s:Shared) (v:Value),BindsTo s fd ⟨[v],[]⟩ [("_law_script",v)])/\∀base:Heap,K.In base->base.Ns mainGlobals mg->zZ l.prog w K mg base yE 102 fa fd ["_law_script"] (yD K lS):=by
 have FJ0:=oG (st:=nE) lj0 cj0 kj0;obtain⟨fI,fdI,wI,iI,kI,FI,bI⟩:=mI.go (ps:= ["self","text"]) λ_ _ F=>F.binds λ_ _ _ _ _ _ us hl=>by obtain⟨x0,x1,rfl⟩:=vG hl;rfl
 obtain⟨fA,fdA,wA,iA,kA,FA,bA⟩:=mA.go (ps:= ["self"]) λ_ _ F=>F.binds λ_ _ _ _ _ _ us hl=>by obtain⟨x0,rfl⟩:=uI hl;rfl
 obtain⟨fT,fdT,wT,iT,kT,FT,bT⟩:=mT.go (ps:= ["self"]) λ_ _ F=>F.binds λ_ _ _ _ _ _ us hl=>by obtain⟨x0,rfl⟩:=uI hl;rfl
 obtain⟨fK,fdK,wK,iK,kK,FK,bK⟩:=mK.go (ps:= ["self"]) λ_ _ F=>F.binds λ_ _ _ _ _ _ us hl=>by obtain⟨x0,rfl⟩:=uI hl;rfl
 obtain⟨fE,fdE,wE,iE,kE,FE,bE⟩:=mE.go (ps:= ["self"]) λ_ _ F=>F.binds λ_ _ _ _ _ _ us hl=>by obtain⟨x0,rfl⟩:=uI hl;rfl
 obtain⟨fW,fdW,wW,iW,kW,FW,bW⟩:=mW.go (ps:= ["self"]) λ_ _ F=>F.binds λ_ _ _ _ _ _ us hl=>by obtain⟨x0,rfl⟩:=uI hl;rfl
 have z: ∀x∈(["len","int","range","tuple","isinstance","bool","str","list","min","max","all","abs"]:List Str),mg x=none:=λx m=>PySem.W.mg_none_of X G (zn x m);have M:Mo K mg:=⟨z _ (by simp),z _ (by simp),z _ (by simp),z _ (by simp),z _ (by simp),z _ (by simp),z _ (by simp),z _ (by simp),z _ (by simp),z _ (by simp),z _ (by simp),z _ (by simp),d1.go X G λ_ _ F=>F.binds λ_ _ _ _ _ _ us hl=>by obtain⟨x0,rfl⟩:=uI hl;rfl,d2.go X G λ_ _ F=>F.binds λ_ _ _ _ _ _ us hl=>by obtain⟨x0,x1,rfl⟩:=vG hl;rfl,d3.go X G λ_ _ F=>F.binds λ_ _ _ _ _ _ us hl=>by obtain⟨x0,x1,x2,rfl⟩:=kU hl;rfl,d4.go X G λ_ _ F=>F.binds λ_ _ _ _ _ _ us hl=>by obtain⟨x0,x1,rfl⟩:=vG hl;rfl,d5.go X G λ_ _ F=>F.binds λ_ _ _ _ _ _ us hl=>by obtain⟨x0,x1,x2,rfl⟩:=kU hl;rfl,d6.go X G λ_ _ F=>F.binds λ_ _ _ _ _ _ us hl=>by obtain⟨x0,x1,rfl⟩:=vG hl;rfl,d7.go X G λ_ _ F=>F.binds λ_ _ _ _ _ _ us hl=>by obtain⟨x0,x1,x2,rfl⟩:=kU hl;rfl,d8.go X G λ_ _ F=>F.binds λ_ _ _ _ _ _ us hl=>by obtain⟨x0,x1,x2,x3,rfl⟩:=zd4 hl;rfl,d9.go X G λ_ _ F=>F.binds λ_ _ _ _ _ _ us hl=>by obtain⟨x0,rfl⟩:=uI hl;rfl,d10.go X G λ_ _ F=>F.binds λ_ _ _ _ _ _ us hl=>by obtain⟨x0,rfl⟩:=uI hl;rfl,d11.go X G λ_ _ F=>F.binds λ_ _ _ _ _ _ us hl=>by obtain⟨x0,x1,rfl⟩:=vG hl;rfl,d12.go X G λ_ _ F=>F.binds λ_ _ _ _ _ _ us hl=>by obtain⟨x0,x1,rfl⟩:=vG hl;rfl,d13.go X G λ_ _ F=>F.binds λ_ _ _ _ _ _ us hl=>by obtain⟨x0,x1,rfl⟩:=vG hl;rfl,d14.go X G λ_ _ F=>F.binds λ_ _ _ _ _ _ us hl=>by obtain⟨x0,rfl⟩:=uI hl;rfl,d15.go X G λ_ _ F=>F.binds λ_ _ _ _ _ _ us hl=>by obtain⟨x0,rfl⟩:=uI hl;rfl,d16.go X G λ_ _ F=>F.binds λ_ _ _ _ _ _ us hl=>by obtain⟨x0,x1,rfl⟩:=vG hl;rfl,d17.go X G λ_ _ F=>F.binds λ_ _ _ _ _ _ us hl=>by obtain⟨x0,x1,rfl⟩:=vG hl;rfl,d18.go X G λ_ _ F=>F.binds λ_ _ _ _ _ _ us hl=>by obtain⟨x0,x1,rfl⟩:=vG hl;rfl,d19.go X G λ_ _ F=>F.binds λ_ _ _ _ _ _ us hl=>by obtain⟨x0,x1,rfl⟩:=vG hl;rfl,d20.go X G λ_ _ F=>F.binds λ_ _ _ _ _ _ us hl=>by obtain⟨x0,x1,x2,rfl⟩:=kU hl;rfl,d21.go X G λ_ _ F=>F.binds λ_ _ _ _ _ _ us hl=>by obtain⟨x0,rfl⟩:=uI hl;rfl,d22.go X G λ_ _ F=>F.binds λ_ _ _ _ _ _ us hl=>by obtain⟨x0,x1,rfl⟩:=vG hl;rfl,d23.go X G λ_ _ F=>F.binds λ_ _ _ _ _ _ us hl=>by obtain⟨x0,x1,x2,x3,rfl⟩:=zd4 hl;rfl,d24.go X G λ_ _ F=>F.binds λ_ _ _ _ _ _ us hl=>by obtain⟨x0,rfl⟩:=uI hl;rfl,d25.go X G λ_ _ F=>F.binds λ_ _ _ _ _ _ us hl=>by obtain⟨x0,x1,rfl⟩:=vG hl;rfl,d26.go X G λ_ _ F=>F.binds λ_ _ _ _ _ _ us hl=>by obtain⟨x0,x1,rfl⟩:=vG hl;rfl,⟨_,mg_of X G zWIDE⟩,⟨_,mg_of X G zLONGEST⟩,⟨_,mg_of X G zFIGURES_AT_MOST⟩,⟨_,mg_of X G zMOST_BRACKETS⟩,⟨_,mg_of X G zLETTERS⟩,⟨_,mg_of X G zFIGURES⟩,⟨_,mg_of X G zOPS,_,_,_,yOPS,rfl,rfl,rfl,(by show 5<=sizeLine;decide),.cons ⟨_,rfl⟩ (.cons ⟨_,rfl⟩ (.cons ⟨_,rfl⟩ (.cons ⟨_,rfl⟩ (.cons ⟨_,rfl⟩ (.nil)))))⟩,⟨_,mg_of X G zTHREE,_,_,_,yTHREE,rfl,rfl,rfl,(by show 3<=sizeLine;decide),.cons ⟨_,rfl⟩ (.cons ⟨_,rfl⟩ (.cons ⟨_,rfl⟩ (.nil)))⟩,⟨HE,C0,J0,_,⟨⟨λh' X'=>zqi hl rfl hl2 hk hni X',hrd,hfc,hga,hdg,hds⟩,⟨_,_,_,_,_,_,_,_,_,_,_,_,_,_,_,_,hl⟩,mg_of X G aH,⟨⟨_,_,_,_,_,_,_,_,_,_,_,_,_,_,co0⟩,ck0,cs0,cg0,cgg0,cc0⟩,⟨ci0,cf0⟩,mg_of X G ca0,FJ0,FJ0.binds (ps:= ["self","at"]) λ_ _ _ _ _ _ us hl=>by obtain⟨x0,x1,rfl⟩:=vG hl;rfl,na0,kk0⟩⟩,⟨PC,fI,fdI,fA,fdA,fT,fdT,fK,fdK,fE,fdE,fW,fdW,⟨mg_of X G zP,⟨p1,p2,p3,p4⟩,p5,p6,⟨p7,wI,iI,p8⟩,FI,bI,⟨wA,iA,kA⟩,FA,bA,⟨wT,iT,kT⟩,FT,bT,⟨wK,iK,kK⟩,FK,bK,⟨wE,iE,kE⟩,FE,bE,⟨wW,iW,kW⟩,FW,bW⟩⟩⟩;obtain⟨_,_,_,_,N⟩:=M.XEs;obtain⟨_,_,_,_,_,_,_,_,_,_,_,_,_,U⟩:=M.PXs;obtain⟨f,_,_,_,_,_,_,_,_,_,e,l,c,k⟩:=dl;cases hfa.symm.trans (mg_of X G e);exact⟨_,λs v=> .of_eq rfl,λbase _ _=>zmB M N U (oG l c k)⟩
theorem zlq {K:Frag}{H:Hp}{a:Addr}{ns:List Int}(hl:ns.length<=63)(hS:yS K H a (ns.map V.int)){E:XK} :yD K lS [.ref a] H (λv _=>v= .bl true) E:=by
 refine⟨[],[],[.lst (ns.map PV.int)],λr _=>r= .bl true,⟨by simp,rfl,λi a o h=>by cases h⟩,.cons (.val (.lst (hS.imp (λh=>⟨h,by simp⟩) id) ?_ (zfN ns))) .nil,⟨ns,rfl,rfl,hl,rfl⟩,λA' H' st' r v g s e q=> ?_⟩
 ·rw[List.length_map];exact Nat.le_trans hl (by decide)
 ·subst q;exact fM e
theorem walk {l:PySem.W.OpenLaw}{q:Program}{loose:List Str}{XP:(Str->Option Value)->Heap->Prop}{YP:World->Heap->Prop}{d:DefRec}{K:Params->Frag}(hn:l.most=some 63)(hdf:d.params.defaults= [])
  (hY: ∀(w:World) (h:Heap),YP w h->(K w.params).In h)
  (F: ∀(w:World) (mg:Str->Option Value) (fa:Addr) (h:Heap),(K w.params).In h->h.Ns mainGlobals mg->mg d.name=some (.ref fa)->
   ∃fd:FuncData,(∀(s:Shared) (u:Value),BindsTo s fd ⟨[u],[]⟩ [("_law_script",u)])/\∀base:Heap,(K w.params).In base->base.Ns mainGlobals mg->zZ l.prog w (K w.params) mg base yE 102 fa fd ["_law_script"] (yD (K w.params) lS)):
  PySem.W.WalkO q loose XP YP l.row.toRowW d [] (λf vs=>PySem.call f vs):=
 L2.walk_of (n:=63) (k:=102) (x:= "_law_script") (CX:=λ_=>yE) (sp:=λw=>yD (K w.params) lS) hn (by decide) hdf ⟨rfl,by decide,by decide⟩ hY F (λ_ _ a ns hl _ hS=>zlq hl hS) λ_ _ _ _ _ z=>z
end N09
open PySem PySem.W PyProof.Rows
set_option maxRecDepth 100000 in
set_option maxHeartbeats 0 in
theorem PySem.Challenge.cw_copiedhouse_k09_terms_texts_holds : PySem.Challenge.rw_copiedhouse_k09_terms_texts.Holds := by
 w_on
 refine holds_law Hd.ws λsaid=> ?_;refine holds_open (q:=Hd.q) (loose:= []) (Xt:=Hd.Xt) (XP:=XL Hd.q []) (Yf:=Hook.obs Hd.hk) (Ya:=Hook.val Hd.hk) (YP:=Hook.says Hd.hk) (N:=3830) Hd.left (Hook.of Hd.hk) (Hook.keeps Hd.hk) (λs e=>xl_of s (Bool.and_eq_true_iff.mp e).1) XL.keeps (by rfl) (by rfl) (by rfl) (λs e=>recFacts_of (Bool.and_eq_true_iff.mp e).2) (by rfl) said (by decide+kernel) ⟨rfl,rfl,rfl,rfl,rfl,by decide+kernel⟩ ?hw ?hc
 (case hw=>w_witness2)
 unfold Hd.hk
 k_fill
 refine N09.walk (l:=PySem.Challenge.rw_copiedhouse_k09_terms_texts) rfl rfl (λw h Y=>PySem.W.km_in_of Y) ?F
 case F=>
  intro w mg fa h KX G hmg
  refine' N09.all_mk KX G hmg ?_ ?_ ?_ ?_ ?_ ?_ ?_ ?_ ?_ ?_ ?_ ?_ ?_ ?_ ?_ ?_ ?_ ?_ ?_ ?_ ?_ ?_ ?_ ?_ ?_ ?_ ?_ ?zn_ ?aH_ ?hl_ ?hl2_ ?hk_ ?hni_ ?hrd_ ?hfc_ ?hga_ ?hdg_ ?hds_ ?ca0_ ?co0_ ?ck0_ ?cs0_ ?cg0_ ?cgg0_ ?cc0_ ?ci0_ ?cf0_ ?lj0_ ?cj0_ ?kj0_ ?na0_ ?kk0_ ?zWIDE_ ?zLONGEST_ ?zFIGURES_AT_MOST_ ?zMOST_BRACKETS_ ?zLETTERS_ ?zFIGURES_ ?zOPS_ ?yOPS_ ?zTHREE_ ?yTHREE_ ?zP_ ?p1_ ?p2_ ?p3_ ?p4_ ?p5_ ?p6_ ?p7_ ?p8_ ?_ ?_ ?_ ?_ ?_ ?_
  (case aH_=>k_is)
  (case hl_=>k_is)
  (case hl2_=>k_is)
  (case hk_=>rfl)
  (case hni_=>rfl)
  (case hrd_=>k_is)
  (case hfc_=>k_is)
  (case hga_=>k_is)
  (case hdg_=>k_is)
  (case hds_=>k_is)
  (case ca0_=>k_is)
  (case co0_=>k_is)
  (case ck0_=>k_is)
  (case cs0_=>k_is)
  (case cg0_=>k_is)
  (case cgg0_=>k_is)
  (case cc0_=>k_is)
  (case ci0_=>k_is)
  (case cf0_=>k_is)
  (case lj0_=>k_is)
  (case cj0_=>k_is)
  (case kj0_=>k_is)
  (case na0_=>show findIn _ _ _=some none;k_is)
  (case kk0_=>kernel_rfl)
  (case zWIDE_=>k_is)
  (case zLONGEST_=>k_is)
  (case zFIGURES_AT_MOST_=>k_is)
  (case zMOST_BRACKETS_=>k_is)
  (case zLETTERS_=>k_is)
  (case zFIGURES_=>k_is)
  (case zOPS_=>k_is)
  (case yOPS_=>k_is)
  (case zTHREE_=>k_is)
  (case yTHREE_=>k_is)
  (case zP_=>k_is)
  (case p1_=>kernel_rfl)
  (case p2_=>kernel_rfl)
  (case p3_=>kernel_rfl)
  (case p4_=>k_is)
  (case p5_=>show findIn _ _ _=some none;k_is)
  (case p6_=>show findIn _ _ _=some none;k_is)
  (case p7_=>kernel_rfl)
  (case p8_=>k_is)
  (case zn_=>intro x m;simp only[List.mem_cons,List.not_mem_nil,or_false]at m;rcases m with rfl | rfl | rfl | rfl | rfl | rfl | rfl | rfl | rfl | rfl | rfl | rfl <;> k_is)
  all_goals first | exact⟨_,_,_,_,_,_,_,_,_,_,by k_is,by k_is,by k_is,by k_is⟩ | exact⟨_,_,_,_,_,_,_,_,_,_,by k_is,by k_is,by k_is,by k_is,by k_is⟩
