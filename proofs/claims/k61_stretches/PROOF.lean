import PyProof.Rows.All
import Wide.All
import OpenK.AllK
import Wide.FinOn
import Lean
import PyProof.EqAt
import PyProof.EqKinds
import PyProof.TupleCall
import KE.KSortTup
import KE.KItemsList
import KE.KDictList
import PyProof.AttrMissHeap
import KE.KDictOf
import PyProof.NeKinds
import PyProof.IsiHeapPairs
import PyProof.IsiSeqPairs
import PyProof.SetKind
import PyProof.Rows.SetFrom
import PyProof.DictIter
import PyProof.CollectWalk
import PyProof.DictWalks
import PyProof.FactsAll.subtypes_5
import PyProof.IsiTupleOf
import PyProof.IsiPairs
import PyProof.Draws
import PyProof.EnumMake
import PyProof.WalksMore
import KE.KRevIter
import PyProof.ListRange
import PyProof.StrWalks
import PyProof.DictUpdate
import PyProof.Rows.ZipForRows
import PyProof.Rows.FactsT2
import PySem.Challenge.RW_copiedhouse_k61_stretches
open List renaming length_map->aa,getElem?_eq_some_iff->ad,length_append->af,getElem?_append_right->aj,mem_append_right->al,getElem?_eq_getElem->am,map_append->ao,mem_iff_getElem?->ap,mem_singleton->aq,append_assoc->au,mem_append->av,getElem?_map->aw,getElem?_append_left->ax,mem_append_left->az,map_cons->bb,mem_cons->bd,length_singleton->bi,size_toArray->bo,nodup_append->bp,mem_map_of_mem->br,mem_cons_self->bz,mem_map->ca,take_of_length_le->cc,mem_cons_of_mem->ce,length_take->cf,length_cons->cg,length_set->ci,mem_of_getElem?->cj,filterMap_cons->cn,set_append_right->cq,take_append_of_le_length->cr,find?_cons->cx,map_map->cy,pairwise_iff_getElem->cz,getElem?_inj->da,append_nil->db,getElem?_set_self->dh,nodup_cons->di,mem_range->dk,mem_filterMap->dm,length_replicate->dq,getElem?_take_of_lt->dw,filter_cons->dy,length_range->dz,getElem?_cons_succ->fb,length_pos_iff->fg,not_mem_nil->fh,flatMap_cons->fi,length_drop->fj,take_length->fk,perm_append_comm->fq,any_eq_true->fz,filter_append->gj,getElem?_replicate->gk,eraseIdx_cons_succ->gm,cons_append->gq,range_succ->gv,take_append_drop->gx,lookup_cons->gy,getElem_mem->gz,set_append_left->ie,length_eraseIdx_le->ii,mem_filter->ij,idxOf_lt_length_of_mem->ik,getElem?_range->il,map_congr_left->im,length_reverse->io,map_nil->ir,getElem_cons_drop->iu,any_cons->iw,filterMap_append->ja,append_of_mem->jb,getElem?_cons_zero->jg,reverse_append->jh,mem_flatMap->ji,length_nil->jm,getElem?_eq_none->jp,length_filter_le->jq,set_getElem_self->jt,perm_append_singleton->jv,take_sublist->jy,getElem?_set_ne->jz,getElem?_zip_eq_some->kb,getElem?_mapIdx->kf,mem_of_mem_tail->kg,mem_of_mem_eraseIdx->kj,getElem_of_mem->kl,flatMap_append->km,eraseIdxIfInBounds_toArray->ko,all_cons->kz,map_take->lh,filterMap_map->lj,nil_append->lq,range_succ_eq_map->lr,mem_of_mem_take->mf,getElem_map->mh,set_set->my,find?_eq_none->nc,reverse_cons->ni,ext_getElem?->nq,map_drop->nz,map_reverse->og,map_set->oo,getElem_range->ph,getElem?_take->pi,map_singleton->pk,sum_cons->pr,idxOf_append->qi,pairwise_map->qj,getElem?_eq_none_iff->ql,all_eq_true->qt,flatMap_map->rj,nodup_range->rq,append_cancel_left->sj,of_mem_zip->sk,foldl_cons->sv,drop_of_length_le->ue,length_pos_of_mem->uf,getElem?_eraseIdx->ug,dropLast_eq_take->ur,nodup_nil->uu,eq_nil_or_concat->uv,concat_eq_append->uw,length_dropLast->uz,drop_eq_nil_iff->vc,mem_erase_of_ne->vf,replicate_succ'->vg,replicate_succ->vn,getElem_idxOf->wk,map_replicate->wm,any_eq_false->wo,find?_append->wx,getElem_set->xl,mem_reverse->xm,flatMap_nil->xn,mapIdx_cons->xo,sum_append->xt,length_zip->xu,drop_zero->xw,take_succ->xx
open PySem renaming wpAny_bind->ah,wpAny_pure->ay,wpAny->bf,model->bt,boot_len->bu,sizeLine_eq->cp,wpAny_newObj_type->dg,wpAny_holding->du,mem_of_lookup->fo,wpAny_Call_Name_kw->iz,wpAny_mono->jc,wpAny_typeOf->jd,wpAny_callSpecial?_slot->jf,wpAny_field->jj,wpAny_passesOwn->jk,codeAny_builtin->jo,wpAny_truthy_bool->jw,call_meets->ka,wpAny_call_entry->ki,wpAny_getItem_str_slice->kq,wpAny_standAt->kw,plainId_quiet->ld,wpAny_rule->ma,tupleKind_room_in1->mv,wpAny_comprehension_free->mw,sub_AttributeError->mx,list_append->nj,wpAny_pyIter_list->nk,wpAny_pyIter_enum->np,codeAny_compStart_list->nv,builtinLookup_eq_fast->oh,wpAny_notOrdered_dict->oi,wpAny_execs_nil->oj,post_val_or_str->om,wpAny_pyIter_tuple->pe,evalPart_none->pp,wpAny_letOwnedTupleGo_enum->pq,wpAny_assign_Name->qb,wpAny_sequenceKey->qe,slot_list_getitem->qf,noFill_tuple_add->qo,wpAny_getItem_list_slice->qp,wpAny_isInstance->qu,typeLookup_type->sw,wpAny_specialOf->sy,wpAny_loadPart'->tj,wpAny_pyNext_list_item->tx,wpAny_pyNext_list_end->uh,callType_codes->uk,exec_Assign_Name_used->uo,wpAny_seqItems->uq,wpAny_newFunctionEnv->va,rangeSize_one->vi,seq_tuple_add->vj,wpAny_dictSet_pairs->vm,codeAny_mono->vq,concat_meets->vt,seqIndex_neg->vx,wpAny_Slice->xb,seqIndex_of->xc
open Nat renaming le_refl->ak,lt_of_lt_of_le->bc,ne_of_lt->bj,le_trans->bq,lt_irrefl->ck,sub_self->cv,ne_of_gt->cw,zero_le->eh,lt_trans->fc,le_succ->fw,le_of_lt->iq,lt_of_le_of_lt->lm,zero_add->lw,lt_or_ge->lx,lt_succ_self->me,mul_le_mul_right->mi,not_lt_zero->mo,add_le_add_right->oq,add_assoc->qa,lt_succ_of_lt->qh,le_of_not_lt->qq,succ_ne_self->qw,add_zero->rf,le_add_right->rg,lt_of_le_of_ne->vz,sub_zero->wc,le_total->we,lt_trichotomy->wv,succ_le_succ->xi,min_eq_right->xj,min_eq_left->xq
open PySem.Heap renaming get?_push_of_some->ar,lt_size->ba,get?_push_size->cb,size_push->ft,get?_update_other->gu,get?_update_self->jl
open PySem.F renaming plainAttrs_list->bm,slot_list_append->bv,type_list_append->bw,slot_tuple_iterator_next->ju,slot_list_pop->ly,type_list_pop->lz,args_list_append_2->md,entry_list_append->mj,slot_tuple_getattribute->ml,args_tuple_add_2->mr,slot_list_append->mt,slot_list_getattribute->mz,entry_tuple_add->nh,slot_tuple_add->nu,args_tuple_iterator_next_1->ow,slot_dict_setdefault->ox,entry_tuple_iterator_next->pf,slot_list_remove->rh,slot_list_extend->sa,type_list_extend->sf,called_tuple->um,args_object_init_2->vb,kt_typeCall_dict_1->vd,args_dict_init_2->wa,plain_list_iadd->wp,plain_tuple_new->wq,entry_dict_init->wu
open Option.some renaming inj->bx
open PySem.PassesOwn renaming never->cm
open PyProof.Rows renaming slot_tuple_getitem->df,boot_isinstance->mq,entry_tuple_getitem->ot,assignInOrder_cons->oy,args_tuple_getitem->pc,subscriptTail_builtinR->uc,boot_range->ux,Subscript_->uy,tupleItemsOf_->vk,boot_sorted->xf,tail_any->xg
open Int renaming toNat_natCast->dj,zero_add->gt,emod_lt_of_pos->ng,ofNat_inj->ny,emod_nonneg->or,ediv_one->vw,ofNat_lt->wf,natCast_nonneg->wg,mul_one->wy
open Bool renaming false_ne_true->ef,and_eq_true->fe,false_eq_true->ll,eq_iff_iff->ln,and_eq_true_iff->vh,not_eq_true'->wn,or_eq_true->xp,false_and->xv
open Array renaming length_toList->fm,getElem?_toList->gw,toArray_toList->kc,getElem?_eq_getElem->mm
open List.Perm renaming append_right->ga,append_left->gd,of_eq->mn
open Ne renaming symm->gb
open Option renaming some_ne_none->gc,isSome_map->qg,isSome_iff_exists->qm,getD_some->qr,isSome_some->vy,getD_none->xh
open PySem.Paired renaming length->ib
open PySem.Around renaming under_plainId->ic
open PySem.W.Fast renaming te14364793385576792824->ig
open Sum.inl renaming inj->kh
open PySem.Str renaming length_append->lu
open Int.ofNat renaming inj->nw
open PySem.IsL renaming update->oe
open PySem.Txt renaming slice_le->ol
open PySem.Heap.SameBut renaming update->ou
open PySem.Calls renaming spliced_cons->pb,Name_function_global->po,spliced_nil->qd,callWith_builtin->ud
open PySem.Heap.IsSliceOf renaming new->pd
open Prod.mk renaming injEq->pz
open PySem.SeqAt.RcAt renaming lists_lengths->qy
open PySem.SeqAt.EqAt renaming same->so,int_str->vo,str_int->vp,of_refs->wb
open PySem.Heap.DictOf renaming new->su
open List.cons renaming injEq->tq
open Sum.inr renaming inj->tw
open PySem.W renaming cellsFrom_some->tz
open PySem.Obj renaming data_mapDictKeys->ve,data_mapFields->wj
open PySem.IsRange renaming new->wz
open PySem.W (Frag codeIn fnOf keepIn methodObj mg_of nsIn)
open PyProof.Rows (boot_any boot_isinstance boot_sorted callWith_type1)
set_option Elab.async false
set_option linter.all false
set_option maxRecDepth 100000
namespace L2
open PySem PySem.Spec PyProof.Rows
abbrev z8:=Sum Int Str
def nN:z8->Value->Bool
 | .inl k,v=>Value.isInt k v
 | .inr x,v=>Value.isStrOf x v
def zlV (w:World):z8->Int
 | .inl k=>hashInt k
 | .inr x=>hashStr w x
theorem sH: ∀{k:z8} {v:Value},nN k v=true->(∃i t,k=Sum.inl i/\v=Value.int i t)∨(∃x t,k=Sum.inr x/\v=Value.str x t)
 | .inl i,v,h=>by
  obtain⟨t,e⟩:=Value.isInt_shape (k:=i) (v:=v) h;exact .inl ⟨i,t,rfl,e⟩
 | .inr x,v,h=>by
  obtain⟨t,e⟩:=Value.isStrOf_shape (x:=x) (v:=v) h;exact .inr ⟨x,t,rfl,e⟩
theorem zlW (i:Int)(t:Tok):nN (.inl i) (.int i t)=true:=by simp[nN,Value.isInt]
theorem zlX (x:Str)(t:Tok):nN (.inr x) (.str x t)=true:=by simp[nN,Value.isStrOf]
theorem zma (a b:Int):decide ((Sum.inl a:z8)=Sum.inl b)=(a==b):=by
 by_cases e:a=b
 ·subst e;simp
 ·have h: ¬ (Sum.inl a:z8)=Sum.inl b:=λq=>e (kh q)
  rw[decide_eq_false h];exact(beq_eq_false_iff_ne.mpr e).symm
theorem zmd (a b:Str):decide ((Sum.inr a:z8)=Sum.inr b)=decide (a=b):=by
 by_cases e:a=b
 ·subst e;simp
 ·have h: ¬ (Sum.inr a:z8)=Sum.inr b:=λq=>e (tw q)
  rw[decide_eq_false h,decide_eq_false e]
theorem zmb (a:Int)(b:Str):decide ((Sum.inl a:z8)=Sum.inr b)=false:=decide_eq_false (λq=>nomatch q)
theorem zmc (a:Str)(b:Int):decide ((Sum.inr a:z8)=Sum.inl b)=false:=decide_eq_false (λq=>nomatch q)
def xN (prog:Program)(w:World):PySem.KeyKind prog w z8 where
 is:=nN
 hash:=zlV w
 inj:=λv a b ha hb=>by
  rcases sH ha with⟨i,t,rfl,rfl⟩ | ⟨x,t,rfl,rfl⟩
  ·rcases sH hb with⟨j,u,rfl,e⟩ | ⟨y,u,rfl,e⟩
   ·injection e with e1 _;rw[e1]
   ·exact nomatch e
  ·rcases sH hb with⟨j,u,rfl,e⟩ | ⟨y,u,rfl,e⟩
   ·exact nomatch e
   ·injection e with e1 _;rw[e1]
 byValue:=λk v h=>by
  rcases sH h with⟨i,t,rfl,rfl⟩ | ⟨x,t,rfl,rfl⟩ <;> rfl
 pyHash:=λhv h=>by
  rcases sH hv with⟨i,t,rfl,rfl⟩ | ⟨x,t,rfl,rfl⟩
  ·exact wpAny_pyHash_int h
  ·exact wpAny_pyHash_str h
 eqBool:=λhu hv h=>by
  rcases sH hu with⟨i,t,rfl,rfl⟩ | ⟨x,t,rfl,rfl⟩
  ·rcases sH hv with⟨j,u,rfl,rfl⟩ | ⟨y,u,rfl,rfl⟩
   ·rw[zma]at h;exact wpAny_eqBool_int h
   ·rw[zmb]at h;exact vo i t y u _ _ _ _ h
  ·rcases sH hv with⟨j,u,rfl,rfl⟩ | ⟨y,u,rfl,rfl⟩
   ·rw[zmc]at h;exact vp x t j u _ _ _ _ h
   ·rw[zmd]at h;exact wpAny_eqBool_str h
 «strs»:=λk x t v h=>by
  rcases sH h with⟨i,u,rfl,e⟩ | ⟨y,u,rfl,e⟩
  ·exact nomatch e
  ·injection e with e1 _
   subst e1;cases v <;> rfl
theorem zmB (prog:Program)(w:World)(i:Int)(t:Tok):(xN prog w).is (.inl i) (.int i t)=true:=zlW i t
theorem zmC (prog:Program)(w:World)(x:Str)(t:Tok):(xN prog w).is (.inr x) (.str x t)=true:=zlX x t
inductive V where
 | non | bl (b:Bool) | int (i:Int) | str (x:Str) | byt (b:Array UInt8) | flt (b:UInt64) | ref (a:Addr) | ty (n:String)
 deriving DecidableEq
def zT:V->Value->Prop
 | .non,u=>u=Value.none
 | .bl b,u=>u=Value.bool b
 | .int i,u=> ∃t,u=Value.int i t
 | .str x,u=> ∃t,u=Value.str x t
 | .byt b,u=> ∃t,u=Value.bytes b t
 | .flt b,u=> ∃t,u=Value.float b t
 | .ref a,u=>u=Value.ref a
 | .ty n,u=>u=Value.type n
abbrev zK:List V->List Value->Prop:=Paired zT
theorem zK.length {xs:List V}{us:List Value}(r:zK xs us):xs.length=us.length:=ib r
theorem zK.get: ∀{xs:List V} {us:List Value} {i:Nat} {x:V},zK xs us->xs[i]?=some x->∃u,us[i]?=some u/\zT x u
 | _,_,_,_,.nil,e=>by simp at e
 | _,_,0,_,.cons r _,e=>by simp at e;subst e;exact⟨_,rfl,r⟩
 | _,_,i+1,x,.cons _ t,e=>by
  obtain⟨u,h1,h2⟩:=zK.get (i:=i) (x:=x) t (by simpa using e);exact⟨u,by simpa using h1,h2⟩
theorem zK.set {x:V}{u:Value}(r:zT x u): ∀{xs:List V} {us:List Value} (i:Nat),zK xs us->zK (xs.set i x) (us.set i u)
 | _,_,_,.nil=> .nil
 | _,_,0,.cons _ t=> .cons r t
 | _,_,i+1,.cons q t=> .cons q (zK.set r i t)
theorem zK.append: ∀{xs ys:List V} {us ws:List Value},zK xs us->zK ys ws->zK (xs++ys) (us++ws)
 | _,_,_,_,.nil,s=>s
 | _,_,_,_,.cons r t,s=> .cons r (zK.append t s)
theorem zK.take: ∀{xs:List V} {us:List Value} (n:Nat),zK xs us->zK (xs.take n) (us.take n)
 | _,_,0,_=> .nil
 | _,_,_+1,.nil=> .nil
 | _,_,n+1,.cons r t=> .cons r (zK.take n t)
theorem zK.drop: ∀{xs:List V} {us:List Value} (n:Nat),zK xs us->zK (xs.drop n) (us.drop n)
 | _,_,0,r=>r
 | _,_,_+1,.nil=> .nil
 | _,_,n+1,.cons _ t=>zK.drop n t
def sY:Option V->Option Value->Prop
 | some v,some u=>zT v u
 | none,none=>True
 | _,_=>False
def KV {κ:Type} :List (κ×V)->List (κ×Value)->Prop:=Paired λ(p:κ×V) (q:κ×Value)=>p.1=q.1/\zT p.2 q.2
def kV:z8->V
 | .inl i=> .int i
 | .inr x=> .str x
inductive HO where
 | lst (xs:List V)
 | tup (xs:List V)
 | dK (kvs:List (z8×V)) | dT (kvs:List (List z8×V))
 | set (S:Int->Bool) (n:Nat)
 | ins (C dx:Addr) (fs:List (Str×V))
 | own (x:Addr)
 | xd (fs:List (Str×V))
 | met (f x:Addr)
 | rng (lo hi:Int)
 | frz (o:Obj) (u:HO)
 | tbl (ps:Array Value)
 | ext (φ:Heap->Prop)
abbrev Hp:=Addr->Option HO
def zI (H:Hp)(a:Addr)(o:HO):Hp:=λb=>if b=a then some o else H b
theorem yS {H:Hp}{a:Addr}{o:HO} :zI H a o a=some o:=by unfold zI;rw[if_pos rfl]
theorem yO {H:Hp}{a b:Addr}{o:HO}(h:b≠a):zI H a o b=H b:=by unfold zI;rw[if_neg h]
theorem zmU {H:Hp}{a b:Addr}{o u:HO}(h:H a=some o)(h':H b=some u)(d:o≠u):a≠b:=by
 intro e;subst e;rw[h]at h';exact d (bx h')
theorem sK {H:Hp}{a b:Addr}{o:HO}(h:H a=some o)(h':H b=none):a≠b:=by
 intro e;subst e;rw[h]at h';cases h'
def uY (h:Heap)(a:Addr)(items:Array Value):Prop:= ∃o,h.get? a=some o/\o.cls= .type "tuple" /\∃n,o.data= .seq items n/\o.dict=none
theorem uY.tup {h:Heap}{a:Addr}{items:Array Value}(x:uY h a items):IsTup h a items:=let⟨o,e,c,n,d,_⟩:=x;⟨o,e,c,n,d⟩
theorem uY.lt {h:Heap}{a:Addr}{items:Array Value}(x:uY h a items):a < h.objs.size:=let⟨_,e,_⟩:=x;ba e
theorem uY.new (h:Heap)(items:Array Value):uY (h.push {cls:= .type "tuple",data:= .seq items}) h.objs.size items:=⟨_,cb _ rfl,rfl,_,rfl,rfl⟩
section
variable (P:Program) (w:World)
def wK (H:Hp)(h:Heap)(a:Addr):HO->Prop
 | .lst xs=>xs.length<=sizeLine/\∃(its:List Value) (n:Nat),zK xs its/\h.get? a=some {cls:= .type "list",data:= .seq its.toArray n}
 | .tup xs=>xs.length<=sizeLine/\∃its:List Value,zK xs its/\uY h a its.toArray
 | .dK kvs=>kvs.length<=sizeLine/\(a==sysModules)=false/\∃vs,KV kvs vs/\h.DictOf (xN P w) a vs
 | .dT kvs=>kvs.length<=sizeLine/\(a==sysModules)=false/\∃xs:List (List z8×Addr×Value),
   Paired (λ(p:List z8×V) (q:List z8×Addr×Value)=>p.1=q.1/\H q.2.1=some (.tup (p.1.map kV))/\zT p.2 q.2.2) kvs xs/\
   ∃o es ep,h.get? a=some o/\o.ExactDict/\o.data= .dict es ep/\es.toList=xs.map (entryOfKey (tupleKind (xN P w)))/\(xs.map (·.1)).Nodup
 | .set S n=>h.SetOf (intKind P w) a S n
 | .ins C dx fs=>H dx=some (.own a)/\fs.length<=1000/\dx≠a/\h.get? a=some (PySem.W.instObj C dx)/\
   ∃mA,h.Ns1 dx mA/\(∀f,sY (fs.lookup f) (mA f))/\PySem.Within mA (fs.map (·.1))
 | .own _=> ∃o,h.get? a=some o
 | .xd fs=> ∃mA,h.Ns1 a mA/\∀f,sY (fs.lookup f) (mA f)
 | .rng lo hi=> ∃t u v,h.get? a=some {cls:= .type "range",data:= .fields #[.int lo t,.int hi u,.int 1 v]}
 | .frz o u=>h.get? a=some o/\wK H h a u
 | .tbl ps=>h.get? a=some {cls:= .none,data:= .fields ps}
 | .met f x=>h.get? a=some (methodObj (.ref f) (.ref x))
 | .ext φ=>φ h/\(∃o,h.get? a=some o)/\∀h1 h2:Heap,φ h1->(∀o,h1.get? a=some o->h2.get? a=some o)->φ h2
def xK (H:Hp)(h:Heap):Prop:= ∀a o,H a=some o->wK P w H h a o
end
section
variable {P:Program} {w:World} {H H':Hp} {h h':Heap} {a:Addr} {o:HO}
theorem wK.lt (x:wK P w H h a o):a < h.objs.size:=by
 cases o with
 | lst xs=>obtain⟨_,_,_,_,e⟩:=x;exact ba e
 | tup xs=>obtain⟨_,_,_,p⟩:=x;exact p.lt
 | dK kvs=>obtain⟨_,_,_,_,o,_,_,e,_⟩:=x;exact ba e
 | dT kvs=>obtain⟨_,_,_,_,o,_,_,e,_⟩:=x;exact ba e
 | set S n=>obtain⟨o,_,_,_,e,_⟩:=x;exact ba e
 | ins C dx fs=>obtain⟨_,_,_,e,_⟩:=x;exact ba e
 | own y=>obtain⟨_,e⟩:=x;exact ba e
 | xd fs=>obtain⟨_,⟨_,_,_,e,_⟩,_⟩:=x;exact ba e
 | rng lo hi=>obtain⟨_,_,_,e⟩:=x;exact ba e
 | frz ob u=>obtain⟨e,_⟩:=x;exact ba e
 | tbl ps=>exact ba (show h.get? a=some _ from x)
 | met f y=>exact ba (show h.get? a=some _ from x)
 | ext φ=>obtain⟨_,⟨_,e⟩,_⟩:=x;exact ba e
theorem Paired.mapP {α β:Type}{F G:α->β->Prop} : ∀{l₁:List α} {l₂:List β},Paired F l₁ l₂->(∀a b,F a b->G a b)->Paired G l₁ l₂
 | _,_,.nil,_=> .nil
 | _,_,.cons r t,f=> .cons (f _ _ r) (Paired.mapP t f)
theorem wK.stay (x:wK P w H h a o)(k: ∀b u,(b=a∨H b=some (.own a))->h.get? b=some u->h'.get? b=some u)
  (ho: ∀b,H b=some (.own a)->H' b=some (.own a)) (ht: ∀b xs,H b=some (.tup xs)->H' b=some (.tup xs)):wK P w H' h' a o:=by
 induction o with
 | lst xs=>obtain⟨z,its,n,r,e⟩:=x;exact⟨z,its,n,r,k _ _ (.inl rfl) e⟩
 | tup xs=>obtain⟨z,its,r,ob,e,c⟩:=x;exact⟨z,its,r,ob,k _ _ (.inl rfl) e,c⟩
 | dK kvs=>obtain⟨z,y,vs,r,ob,es,ep,e,c⟩:=x;exact⟨z,y,vs,r,ob,es,ep,k _ _ (.inl rfl) e,c⟩
 | dT kvs=>
  obtain⟨z,y,xs,r,ob,es,ep,e,c⟩:=x;exact⟨z,y,xs,Paired.mapP r λp q z=>⟨z.1,ht _ _ z.2.1,z.2.2⟩,ob,es,ep,k _ _ (.inl rfl) e,c⟩
 | set S n=>obtain⟨ob,es,ep,t,e,c⟩:=x;exact⟨ob,es,ep,t,k _ _ (.inl rfl) e,c⟩
 | ins C dx fs=>
  obtain⟨d,z,ne,e,mA,⟨od,es,ep,e2,c⟩,r⟩:=x;exact⟨ho _ d,z,ne,k _ _ (.inl rfl) e,mA,⟨od,es,ep,k _ _ (.inr d) e2,c⟩,r⟩
 | own y=>obtain⟨ob,e⟩:=x;exact⟨ob,k _ _ (.inl rfl) e⟩
 | xd fs=>obtain⟨mA,⟨od,es,ep,e,c⟩,r⟩:=x;exact⟨mA,⟨od,es,ep,k _ _ (.inl rfl) e,c⟩,r⟩
 | rng lo hi=>obtain⟨t,u,v,e⟩:=x;exact⟨t,u,v,k _ _ (.inl rfl) e⟩
 | frz ob u ih=>obtain⟨e,q⟩:=x;exact⟨k _ _ (.inl rfl) e,ih q⟩
 | tbl ps=>
  have e:h.get? a=some {cls:= .none,data:= .fields ps} :=x;show h'.get? a=some {cls:= .none,data:= .fields ps};exact k a _ (.inl rfl) e
 | met f y=>
  have e:h.get? a=some (methodObj (.ref f) (.ref y)):=x;show h'.get? a=some (methodObj (.ref f) (.ref y));exact k a _ (.inl rfl) e
 | ext φ=>obtain⟨p,⟨o,e⟩,st⟩:=x;exact⟨st _ _ p λo q=>k _ _ (.inl rfl) q,⟨o,k _ _ (.inl rfl) e⟩,st⟩
theorem xK.lt (x:xK P w H h)(e:H a=some o):a < h.objs.size:=(x a o e).lt
theorem xK.fresh (x:xK P w H h)(e:h.objs.size<=a):H a=none:=by
 cases q:H a with
 | none=>rfl
 | some u=>exact absurd (bc (x.lt q) e) (ck _)
theorem xK.kept (x:xK P w H h)(k: ∀b u,h.get? b=some u->h'.get? b=some u):xK P w H h':=λa o e=>
 (x a o e).stay (λb u _ q=>k b u q) (λ_ q=>q) λ_ _ q=>q
theorem xK.laid (x:xK P w H h)(k: ∀b u,h.get? b=some u->h'.get? b=some u)(hp:h.objs.size<=a)(new:wK P w (zI H a o) h' a o):xK P w (zI H a o) h':=λb u e=>by
 have hn:=x.fresh hp;by_cases hb:b=a
 ·subst hb;rw[yS]at e;cases e;exact new
 ·rw[yO hb]at e
  exact(x b u e).stay (λc v _ q=>k c v q) (λc q=>by rw[yO (sK q hn)];exact q) λc xs q=>by rw[yO (sK q hn)];exact q
end
def Rd (H:Hp)(a:Addr)(u:HO):Prop:=H a=some u∨∃o,H a=some (.frz o u)
theorem Rd.ok {P:Program}{w:World}{H:Hp}{h:Heap}{a:Addr}{u:HO}(r:Rd H a u)(x:xK P w H h):wK P w H h a u:=by
 rcases r with r | ⟨o,r⟩
 ·exact x a u r
 ·obtain⟨_,q⟩:=x a _ r
  exact q
def mV:Option HO->Prop
 | some (.lst _)=>True
 | some (.dK _)=>True
 | some (.dT _)=>True
 | some (.set _ _)=>True
 | some (.ins _ _ _)=>True
 | some (.ext _)=>True
 | _=>False
section
variable {P:Program} {w:World} {H:Hp} {h h':Heap} {x e:Addr} {o':HO}
theorem xK.write (ok:xK P w H h)(mu:mV (H x))(he:e=x∨H e=some (.own x))(k: ∀b u,b≠e->h.get? b=some u->h'.get? b=some u)(heo: ∃u,h'.get? e=some u)
  (new:wK P w (zI H x o') h' x o'):xK P w (zI H x o') h':=λb u q=>by
 have nown: ∀c y,H c=some (.own y)->c≠x:=λc y r z=>by subst z;rw[r]at mu;exact mu
 have ntup: ∀c xs,H c=some (.tup xs)->c≠x:=λc xs r z=>by subst z;rw[r]at mu;exact mu
 by_cases hb:b=x
 ·subst hb;rw[yS]at q;cases q;exact new
 ·rw[yO hb]at q
  by_cases hbe:b=e
  ·have q':H b=some (.own x):=by
    rcases he with z | z
    ·exact absurd (hbe.trans z) hb
    ·rw[hbe];exact z
   rw[q]at q';cases q';obtain⟨v,hv⟩:=heo;exact⟨v,by rw[hbe];exact hv⟩
  ·refine(ok b u q).stay (λc v hc r=>k c v ?_ r) (λc r=>by rw[yO (nown c b r)];exact r) λc xs r=>by rw[yO (ntup c xs r)];exact r
   rcases hc with rfl | hc
   ·exact hbe
   ·rintro rfl
    rcases he with z | z
    ·exact nown c b hc z
    ·rw[hc]at z;cases z;exact hb rfl
end
structure Un (fs ex:List Addr)(H H':Hp)(h h':Heap):Prop where
 keep: ∀b o,h.get? b=some o->H b=none->b∉fs->b∉ex->h'.get? b=some o
 slot: ∀b o,h.get? b=some o->H b=none->b∈fs->b∉ex->∃sl,h'.get? b=some {o with slots:=sl}
 free: ∀b o,h.get? b=some o->H b=none->b∉ex->H' b=none
 there: ∀b o,h.get? b=some o->b∉ex->∃o',h'.get? b=some o'
 tups: ∀b xs,H b=some (.tup xs)->H' b=some (.tup xs)
 frzs: ∀b o u,H b=some (.frz o u)->H' b=some (.frz o u)
 tbls: ∀b ps,H b=some (.tbl ps)->∃more,H' b=some (.tbl (ps++more))
section
variable {fs fs' ex ex':List Addr} {H H1 H2:Hp} {h h1 h2 h':Heap} {a x e:Addr} {o:HO}
theorem Un.any (u:Un fs ex H H1 h h1){b:Addr}{ob:Obj}(q:h.get? b=some ob)(n:H b=none)(hx:b∉ex): ∃sl,h1.get? b=some {ob with slots:=sl} :=by
 by_cases hb:b∈fs
 ·exact u.slot b ob q n hb hx
 ·exact⟨ob.slots,u.keep b ob q n hb hx⟩
theorem Un.kept (k: ∀b u,h.get? b=some u->h'.get? b=some u):Un fs ex H H h h':=
 ⟨λb ob q _ _ _=>k b ob q,λb ob q _ _ _=>⟨ob.slots,k b ob q⟩,λ_ _ _ n _=>n,λb ob q _=>⟨ob,k b ob q⟩,λ_ _ q=>q,λ_ _ _ q=>q,λ_ ps q=>⟨#[],by rw[q];simp⟩⟩
theorem Un.refl:Un fs ex H H h h:=Un.kept λ_ _ q=>q
theorem Un.laid (k: ∀b u,h.get? b=some u->h'.get? b=some u)(hp:h.objs.size<=a)(hn:H a=none):Un fs ex H (zI H a o) h h' where
 keep:=λb u q _ _ _=>k b u q
 slot:=λb u q _ _ _=>⟨u.slots,k b u q⟩
 free:=λb u q n _=>by rw[yO (bj (bc (ba q) hp))];exact n
 there:=λb u q _=>⟨u,k b u q⟩
 tups:=λb xs q=>by rw[yO (sK q hn)];exact q
 frzs:=λb u xs q=>by rw[yO (sK q hn)];exact q
 tbls:=λb ps q=>⟨#[],by rw[yO (sK q hn),q];simp⟩
theorem Un.write (mu:mV (H x))(he:e=x∨H e=some (.own x))(k: ∀b u,b≠e->h.get? b=some u->h'.get? b=some u)(heo: ∃u,h'.get? e=some u):Un fs ex H (zI H x o) h h':=by
 have hx: ∀b,H b=none->b≠x:=λb n z=>by subst z;rw[n]at mu;exact mu
 have hb: ∀b,H b=none->b≠e:=λb n z=>by
  subst z;rcases he with r | r
  ·exact hx b n r
  ·rw[n]at r;cases r
 have hm: ∀b u,H b=some u->¬ mV (some u)->b≠x:=λb u q nm z=>by subst z;rw[q]at mu;exact nm mu
 refine⟨λb u q n _ _=>k b u (hb b n) q,λb u q n _ _=>⟨u.slots,k b u (hb b n) q⟩,λb u q n _=>by rw[yO (hx b n)];exact n,λb u q _=> ?_,
  λb xs q=>by rw[yO (hm b _ q λz=>z)];exact q,λb u xs q=>by rw[yO (hm b _ q λz=>z)];exact q,λb ps q=>⟨#[],by rw[yO (hm b _ q λz=>z),q];simp⟩⟩
 by_cases hbe:b=e
 ·subst hbe;exact heo
 ·exact⟨u,k b u hbe q⟩
end
def uM (h:Heap)(H:Hp):List Addr:=(List.range h.objs.size).filter λa=>(H a).isSome
def q9 (h:Heap)(H:Hp):Heap:=PySem.W.hideAll h (uM h H)
theorem zl6 (h:Heap)(H:Hp):(q9 h H).objs.size=h.objs.size:=PySem.W.hideAll_size _ _
theorem zl5 {h:Heap}{H:Hp}{b:Addr}{o:Obj}(e:h.get? b=some o)(n:H b=none):(q9 h H).get? b=some o:=
 PySem.W.hideAll_get _ e λhm=>by
  have q:(H b).isSome=true:=(ij.mp hm).2;rw[n]at q;simp at q
theorem zno {h:Heap}{H:Hp}{b:Addr}{o:Obj}(e:(q9 h H).get? b=some o):h.get? b=some o/\H b=none:=by
 have e':h.get? b=some o:=PySem.W.of_hideAll (uM h H) e;refine⟨e',?_⟩;cases q:H b with
 | none=>rfl
 | some x=>
  have hm:b∈uM h H:=ij.mpr ⟨dk.mpr (ba e'),by simp[q]⟩;have z:(q9 h H).get? b=none:=PySem.W.hideAll_none (uM h H) hm;rw[z]at e;cases e
def zjR (g h:Heap)(L:Addr):List (Addr×Obj):=(List.range h.objs.size).filterMap λa=>if a=L∨(g.get? a).isSome=true then none else(h.get? a).map λo=>(a,o)
def y2 (g h:Heap)(L d:Addr):List (Addr×Obj):=(zjR g h L).filter λp=>decide (p.1≠d)
structure Mod (K:Frag)(mg:Str->Option Value)(base:Heap):Prop where
 kin:K.In base
 glob:base.Ns mainGlobals mg
 blt: ∃mb,base.Ns builtinsNs mb/\∀x:Str,x≠ "__name__" ->mb x=bootBuiltins x
 nolimit:base.NoLimit
structure Cx where
 prog:Program
 w:World
 K:Frag
 mg:Str->Option Value
 base:Heap
 A:Around
 N:List Str
 s₀:Shared
 H₀:Hp
 env:Env
 outer:List Env
 stack:List Env
 ex:List Addr
 fn:Str->Bool
 calm:Bool
 pn:List (Addr×Obj)
 xe:Value->Shared->Prop
def vA (l:List Env):List Addr:=l.filterMap (·.frame)
abbrev Cx.fs (X:Cx):List Addr:=vA X.outer
def dX (sc:Scope)(x:Str):Prop:=sc.names.lookup x=some .local∨sc.names.lookup x=some .cell∨sc.names.lookup x=some .free
def uN (sc:Scope)(x:Str):Prop:=sc.names.lookup x=some .local∨sc.names.lookup x=some .cell
def zjA (env:Env)(h:Heap)(m:Str->Option Value)(x:Str)(u:Value):Prop:=
 (env.kindOf x=some .local/\m x=some u)∨((env.kindOf x=some .cell∨env.kindOf x=some .free)/\∃c,env.cells.lookup x=some c/\h.IsCell c (some u))
structure Cx.Ok (X:Cx):Prop where
 mod:Mod X.K X.mg X.base
 kind:X.env.scope.kind= .function
 glob:X.env.globals=mainGlobals
 blt:X.env.builtins=builtinsNs
 above:X.s₀.heap.objs.size<=X.env.locals
 inj: ∀x y c,X.env.cells.lookup x=some c->X.env.cells.lookup y=some c->x=y
 has: ∀x,(X.env.kindOf x=some .cell∨X.env.kindOf x=some .free)->∃c,X.env.cells.lookup x=some c
 cab: ∀x c,X.fn x=true->X.env.cells.lookup x=some c->X.s₀.heap.objs.size<=c
 hd:X.calm=true->X.A.handled=none
 frames:X.A.frames=some X.stack
 stk:X.stack=X.outer∨(X.stack=X.env::X.outer/\X.env.frame=some X.env.locals)
 exf: ∀b∈X.ex,b≠X.env.locals/\∀x c,X.env.cells.lookup x=some c->c≠b
 bs: ∀b o,X.base.get? b=some o->X.s₀.heap.get? b=some o/\X.H₀ b=none
 bsz:X.base.objs.size<=X.s₀.heap.objs.size
 noex: ∀b o,X.base.get? b=some o->b∉X.ex
 exfs: ∀b∈X.ex,b∉X.fs
 funs:X.s₀.heap.FunFrames X.base X.outer
 frf: ∀b∈X.fs,X.H₀ b=none
structure z6 (X:Cx)(pins:List (Addr×Obj))(σ:List (Option V))(H:Hp)(s:Shared):Prop where
 ok:X.Ok
 os:s.os=X.s₀.os
 bare:AllBare s.gens
 base:Un X.fs X.ex X.H₀ H X.s₀.heap s.heap
 loc: ∃m,s.heap.Ns X.env.locals m/\∀(i:Nat) (x:Str) (v:V),X.N[i]?=some x->σ[i]?=some (some v)->dX X.env.scope x->∃u,zT v u/\zjA X.env s.heap m x u
 cell: ∀x c,X.env.cells.lookup x=some c->∃v,s.heap.IsCell c v
 free:H X.env.locals=none
 freeC: ∀x c,X.env.cells.lookup x=some c->H c=none
 pin: ∀p∈X.pn++pins,s.heap.get? p.1=some p.2/\H p.1=none/\p.1≠X.env.locals/\p.1∉X.fs/\∀v,p.2.data≠ .cell v
 hok:xK X.prog X.w H s.heap
 len:σ.length=X.N.length
section
variable {X:Cx} {pins:List (Addr×Obj)} {σ:List (Option V)} {H H':Hp} {s:Shared} {h':Heap}
theorem Cx.Ok.nofr (ok:X.Ok){b:Addr}{o:Obj}(e:X.base.get? b=some o):b∉X.fs:=λhb=>by
 have:=(ok.funs.mem hb).1;rw[e]at this;cases this
theorem z6.bs (I:z6 X pins σ H s): ∀b o,X.base.get? b=some o->s.heap.get? b=some o/\H b=none:=λb o e=>
 ⟨I.base.keep b o (I.ok.bs b o e).1 (I.ok.bs b o e).2 (I.ok.nofr e) (I.ok.noex b o e),I.base.free b o (I.ok.bs b o e).1 (I.ok.bs b o e).2 (I.ok.noex b o e)⟩
theorem z6.bk (I:z6 X pins σ H s): ∀b o,X.base.get? b=some o->s.heap.get? b=some o:=λb o e=>(I.bs b o e).1
theorem z6.mod (I:z6 X pins σ H s):Mod X.K X.mg X.base:=I.ok.mod
theorem z6.kIn (I:z6 X pins σ H s):X.K.In s.heap:=I.ok.mod.kin.keeps I.bk
theorem z6.lt (I:z6 X pins σ H s):X.env.locals < s.heap.objs.size:=let⟨_,hn,_⟩:=I.loc;hn.lt
theorem z6.sz (I:z6 X pins σ H s):X.s₀.heap.objs.size<=s.heap.objs.size:=bq I.ok.above (iq I.lt)
theorem z6.nofs (I:z6 X pins σ H s){a:Addr}(h:s.heap.objs.size<=a):a∉X.fs:=λhb=>by
 obtain⟨_,o,ho,_⟩:=I.ok.funs.mem hb;exact absurd (bc (ba ho) (bq I.sz h)) (ck _)
theorem z6.cne (I:z6 X pins σ H s): ∀x c,X.env.cells.lookup x=some c->c≠X.env.locals:=λx c e z=>by
 obtain⟨v,o,ho,hd⟩:=I.cell x c e;obtain⟨m,⟨o',es,ep,ho',hd',_⟩,_⟩:=I.loc;rw[z,ho']at ho;cases ho;rw[hd']at hd;cases hd
theorem z6.funs (I:z6 X pins σ H s):s.heap.FunFrames X.base X.outer:=by
 have all: ∀(l:List Env),(∀b∈vA l,b∈X.fs)->X.s₀.heap.FunFrames X.base l->s.heap.FunFrames X.base l:=by
  intro l
  induction l with
  | nil=>intro _ _;trivial
  | cons env r ih=>
   intro hs hl;obtain⟨hk,⟨L,o,hf,hn,ho,hd⟩,hr⟩:=hl;have hL:L∈X.fs:=hs L (by unfold vA;rw[cn,hf];exact bz);obtain⟨sl,e⟩:=I.base.slot L o ho (I.ok.frf L hL) hL λz=>I.ok.exfs L z hL;exact⟨hk,⟨L,_,hf,hn,e,hd⟩,ih (λb hb=>hs b (by unfold vA;rw[cn,hf];exact ce _ hb)) hr⟩
 exact all X.outer (λ_ hb=>hb) I.ok.funs
theorem z6.stack (I:z6 X pins σ H s):s.heap.FunFrames X.base X.stack:=by
 rcases I.ok.stk with e | ⟨e,hf⟩
 ·rw[e];exact I.funs
 ·rw[e]
  obtain⟨m,hn,_⟩:=I.loc;refine .cons (by rw[I.ok.kind];decide) hf hn ?_ I.funs;exact Heap.get?_none_of_le (bq I.ok.bsz I.ok.above)
theorem z6.stkSub (I:z6 X pins σ H s): ∀b∈vA X.stack,b∈X.env.locals::X.fs:=λb hb=>by
 rcases I.ok.stk with e | ⟨e,hf⟩
 ·rw[e]at hb;exact ce _ hb
 ·rw[e]at hb
  unfold vA at hb;rw[cn,hf]at hb;exact hb
theorem z6.stkFree (I:z6 X pins σ H s): ∀b∈vA X.stack,H b=none:=λb hb=>by
 rcases bd.mp (I.stkSub b hb)with e | hb
 ·rw[e];exact I.free
 ·obtain⟨_,o,ho,_⟩:=I.ok.funs.mem hb
  exact I.base.free b o ho (I.ok.frf b hb) λz=>I.ok.exfs b z hb
theorem z6.step {g':Array GenState}{t':Nat}{d':Drawn}{ch:List Addr}(I:z6 X pins σ H s)
  (hch: ∀b∈ch,(b∈X.ex∨X.s₀.heap.objs.size<=b)/\b≠X.env.locals/\(∀x c,X.env.cells.lookup x=some c->c≠b)/\∀p∈X.pn++pins,p.1≠b)
  (keep: ∀b o,b≠X.env.locals->b∉X.fs->b∉ch->s.heap.get? b=some o->H b=none->h'.get? b=some o)
  (slot: ∀b o,b≠X.env.locals->b∈X.fs->b∉ch->s.heap.get? b=some o->H b=none->∃sl,h'.get? b=some {o with slots:=sl}) (free: ∀b o,b∉ch->s.heap.get? b=some o->H b=none->H' b=none)
  (there: ∀b o,b∉ch->s.heap.get? b=some o->∃o',h'.get? b=some o')
  (tups: ∀b xs,H b=some (.tup xs)->H' b=some (.tup xs)) (frzs: ∀b o u,H b=some (.frz o u)->H' b=some (.frz o u)) (tbls: ∀b ps,H b=some (.tbl ps)->∃more,H' b=some (.tbl (ps++more)))
  (ns: ∀m,s.heap.Ns X.env.locals m->h'.Ns X.env.locals m) (hok:xK X.prog X.w H' h') (hg:AllBare g'):
  z6 X pins σ H' {s with heap:=h',gens:=g',drawn:=d',toks:=t'} :=by
 have neL: ∀b o,X.s₀.heap.get? b=some o->b≠X.env.locals:=λb o e=>bj (bc (ba e) I.ok.above);have neC: ∀b o,X.s₀.heap.get? b=some o->b∉X.ex->b∉ch:=λb o e hx hb=>by
  rcases(hch b hb).1 with z | z
  ·exact hx z
  ·exact absurd (bc (ba e) z) (ck _)
 have cellK: ∀x c,X.env.cells.lookup x=some c->∀v,s.heap.IsCell c v->h'.IsCell c v:=λx c e v ⟨o,ho,hd⟩=>by
  have nch:c∉ch:=λz=>(hch c z).2.2.1 x c e rfl;by_cases hc:c∈X.fs
  ·obtain⟨sl,q⟩:=slot c o (I.cne x c e) hc nch ho (I.freeC x c e)
   exact⟨_,q,hd⟩
  ·exact⟨o,keep c o (I.cne x c e) hc nch ho (I.freeC x c e),hd⟩
 refine⟨I.ok,I.os,hg,⟨λb o e n hb hx=> ?_,λb o e n hb hx=> ?_,λb o e n hx=> ?_,λb o e hx=> ?_,λb xs e=>tups b xs (I.base.tups b xs e),λb o xs e=>frzs b o xs (I.base.frzs b o xs e),λb ps e=> ?_⟩,?_,λx c e=> ?_,?_,λx c e=> ?_,λp hp=> ?_,hok,I.len⟩
 ·exact keep b o (neL b o e) hb (neC b o e hx) (I.base.keep b o e n hb hx) (I.base.free b o e n hx)
 ·obtain⟨sl,e1⟩:=I.base.slot b o e n hb hx
  obtain⟨sl',e2⟩:=slot b _ (neL b o e) hb (neC b o e hx) e1 (I.base.free b o e n hx);exact⟨sl',e2⟩
 ·obtain⟨o',e1⟩:=I.base.there b o e hx
  exact free b o' (neC b o e hx) e1 (I.base.free b o e n hx)
 ·obtain⟨o',e1⟩:=I.base.there b o e hx
  exact there b o' (neC b o e hx) e1
 ·obtain⟨m1,e1⟩:=I.base.tbls b ps e
  obtain⟨m2,e2⟩:=tbls b _ e1;exact⟨m1++m2,by rw[e2,Array.append_assoc]⟩
 ·obtain⟨m,hn,hl⟩:=I.loc
  refine⟨m,ns m hn,λi x v e1 e2 e3=> ?_⟩;obtain⟨u,r,l⟩:=hl i x v e1 e2 e3;refine⟨u,r,?_⟩;rcases l with l | ⟨k,c,e,z⟩
  ·exact .inl l
  ·exact .inr ⟨k,c,e,cellK x c e _ z⟩
 ·obtain⟨v,z⟩:=I.cell x c e
  exact⟨v,cellK x c e v z⟩
 ·obtain⟨m,⟨o,_,_,ho,_⟩,_⟩:=I.loc
  exact free _ o (λz=>(hch _ z).2.1 rfl) ho I.free
 ·obtain⟨v,o,ho,hd⟩:=I.cell x c e
  exact free c o (λz=>(hch c z).2.2.1 x c e rfl) ho (I.freeC x c e)
 ·obtain⟨e,n,ne,nf,d⟩:=I.pin p hp
  have nch:p.1∉ch:=λz=>(hch p.1 z).2.2.2 p hp rfl;exact⟨keep p.1 p.2 ne nf nch e n,free p.1 p.2 nch e n,ne,nf,d⟩
theorem z6.un {t':Nat}(I:z6 X pins σ H s)(u:Un X.fs [] H H' s.heap h')(hok:xK X.prog X.w H' h'):z6 X pins σ H' {s with heap:=h',toks:=t'} :=by
 obtain⟨m,⟨o,es,ep,ho,r⟩,_⟩:=id I.loc;obtain⟨sl,hL⟩:=u.any ho I.free (by simp);exact I.step (g':=s.gens) (d':=s.drawn) (ch:= []) (λ_ z=>nomatch z) (λb o _ hb _ e n=>u.keep b o e n hb (by simp)) (λb o _ hb _ e n=>u.slot b o e n hb (by simp)) (λb o _ e n=>u.free b o e n (by simp)) (λb o _ e=>u.there b o e (by simp)) u.tups u.frzs u.tbls (λm' hm=>by
  obtain⟨o',es',ep',ho',r'⟩:=hm;rw[ho]at ho';cases ho';exact⟨_,es',ep',hL,r'⟩) hok I.bare
theorem z6.call {g':Array GenState}{t':Nat}{d':Drawn}{ch:List Addr}(I:z6 X pins σ H s)(u:Un (vA X.stack) ch H H' s.heap h')(hok:xK X.prog X.w H' h')(hg:AllBare g')
  (hch: ∀b∈ch,(b∈X.ex∨X.s₀.heap.objs.size<=b)/\b≠X.env.locals/\(∀x c,X.env.cells.lookup x=some c->c≠b)/\∀p∈X.pn++pins,p.1≠b):
  z6 X pins σ H' {s with heap:=h',gens:=g',drawn:=d',toks:=t'} :=by
 obtain⟨m,⟨o,es,ep,ho,r⟩,_⟩:=id I.loc;obtain⟨sl,hL⟩:=u.any ho I.free λz=>(hch _ z).2.1 rfl;exact I.step (ch:=ch) hch (λb o hL hb hc e n=>u.keep b o e n (λz=>(bd.mp (I.stkSub b z)).elim hL hb) hc) (λb o _ _ hc e n=>u.any e n hc) (λb o hc e n=>u.free b o e n hc) (λb o hc e=>u.there b o e hc) u.tups u.frzs u.tbls (λm' hm=>by
  obtain⟨o',es',ep',ho',r'⟩:=hm;rw[ho]at ho';cases ho';exact⟨_,es',ep',hL,r'⟩) hok hg
theorem z6.turned {t':Nat}{it:Addr}(I:z6 X pins σ H s)(k: ∀b o,b≠it->s.heap.get? b=some o->h'.get? b=some o)(hn:H it=none)(hL:it≠X.env.locals)
  (h1:it∈X.ex∨X.s₀.heap.objs.size<=it) (h2: ∀x c,X.env.cells.lookup x=some c->c≠it) (h3: ∀p∈X.pn++pins,p.1≠it):z6 X pins σ H {s with heap:=h',toks:=t'} :=by
 have nit: ∀b u,H b=some u->b≠it:=λb u e z=>by rw[z,hn]at e;cases e
 refine I.step (g':=s.gens) (d':=s.drawn) (ch:= [it]) (λb hb=> ?_) (λb o _ _ hc e _=>k b o (λz=>hc (by simp[z])) e) (λb o _ _ hc e _=>⟨o.slots,k b o (λz=>hc (by simp[z])) e⟩) (λ_ _ _ _ n=>n)
  (λb o hc e=>⟨o,k b o (λz=>hc (by simp[z])) e⟩) (λ_ _ e=>e) (λ_ _ _ e=>e) (λb ps e=>⟨#[],by rw[e];simp⟩) (λm hm=> ?_) (λb u e=> ?_) I.bare
 ·have e:b=it:=by simpa using hb
  subst e;exact⟨h1,hL,h2,h3⟩
 ·obtain⟨o,es,ep,ho,r⟩:=hm
  exact⟨o,es,ep,k _ o (gb hL) ho,r⟩
 ·refine(I.hok b u e).stay (λc v hc q=>k c v ?_ q) (λ_ q=>q) λ_ _ q=>q
  rcases hc with z | z
  ·rw[z];exact nit b u e
  ·exact nit c _ z
theorem z6.tok (I:z6 X pins σ H s)(t:Nat):z6 X pins σ H {s with toks:=t} :=I.un (h':=s.heap) (t':=t) Un.refl I.hok
theorem z6.kept {t':Nat}(I:z6 X pins σ H s)(k: ∀b u,s.heap.get? b=some u->h'.get? b=some u):z6 X pins σ H {s with heap:=h',toks:=t'} :=I.un (Un.kept k) (I.hok.kept k)
theorem z6.laid {a:Addr}{o:HO}{t':Nat}(I:z6 X pins σ H s)(k: ∀b u,s.heap.get? b=some u->h'.get? b=some u)(hp:s.heap.objs.size<=a)(new:wK X.prog X.w (zI H a o) h' a o):
  z6 X pins σ (zI H a o) {s with heap:=h',toks:=t'} :=I.un (Un.laid k hp (I.hok.fresh hp)) (I.hok.laid k hp new)
theorem z6.write {x e:Addr}{o:HO}{t':Nat}(I:z6 X pins σ H s)(mu:mV (H x))(he:e=x∨H e=some (.own x))(k: ∀b u,b≠e->s.heap.get? b=some u->h'.get? b=some u)(heo: ∃u,h'.get? e=some u)
  (new:wK X.prog X.w (zI H x o) h' x o):z6 X pins σ (zI H x o) {s with heap:=h',toks:=t'} :=I.un (Un.write mu he k heo) (I.hok.write mu he k heo new)
theorem z6.pins_of {pins':List (Addr×Obj)}(I:z6 X pins σ H s)(h: ∀p∈pins',s.heap.get? p.1=some p.2/\H p.1=none/\p.1≠X.env.locals/\p.1∉X.fs/\∀v,p.2.data≠ .cell v):z6 X pins' σ H s:=
 ⟨I.ok,I.os,I.bare,I.base,I.loc,I.cell,I.free,I.freeC,λp hp=>(av.mp hp).elim (λz=>I.pin p (az _ z)) (h p),I.hok,I.len⟩
theorem zgP {N:List Str}(hN:N.Nodup){i j:Nat}{x:Str}(a:N[i]?=some x)(b:N[j]?=some x):i=j:=by
 obtain⟨h1,e1⟩:=ad.mp a;obtain⟨h2,e2⟩:=ad.mp b;exact(List.getElem_inj hN).mp (e1.trans e2.symm)
theorem zdg {M:Model}{A:Around}{E:Value->Shared->Prop}{i:Nat}{x:Str}{v:V}{u:Value}{Q:Unit->Shared->Prop}(I:z6 X pins σ H s)(hN:X.N.Nodup)(hi:X.N[i]?=some x)(hx:uN X.env.scope x)(r:zT v u)
  (h: ∀s',z6 X pins (σ.set i (some v)) H s'->(∃a,Heap.SameBut a s.heap s'.heap/\(a=X.env.locals∨X.env.cells.lookup x=some a))->Q () s') (hf:X.fn x=true∨X.env.scope.names.lookup x=some .local:=by first | exact .inl rfl | exact .inr rfl | assumption):bf M A (storeName X.env x u) Q E s:=by
 obtain⟨m,hn,hl⟩:=id I.loc;have hcls:(X.env.scope.kind== .class||(X.env.scope.kind== .module&&X.env.locals !=X.env.globals))=false:=by rw[I.ok.kind];rfl
 have hiσ:i < σ.length:=by rw[I.len];exact(ad.mp hi).1
 have cne:=I.cne;have tracked: ∀{a:Addr} {h':Heap},(∃o,s.heap.get? a=some o/\H a=none)->Heap.SameBut a s.heap h'->xK X.prog X.w H h':=λ{a h'} ha hs b ob e=>by
  obtain⟨_,_,hfree⟩:=ha;refine(I.hok b ob e).stay (λc w' hc q=>(hs.2 c ?_).trans q) (λ_ q=>q) λ_ _ q=>q;rintro rfl;rcases hc with rfl | hc
  ·rw[hfree]at e;cases e
  ·rw[hfree]at hc;cases hc
 rcases hx with hk | hk
 ·refine wpAny_storeName_local hk hn (λh' hn' hs=> ?_) hcls
  obtain⟨oL,_,_,hoL,_⟩:=id hn;refine h _ ⟨I.ok,I.os,I.bare,⟨λb o e n hb hx=> ?_,λb o e n hb hx=> ?_,I.base.free,λb o e hx=> ?_,I.base.tups,I.base.frzs,I.base.tbls⟩,⟨_,hn',λj y v' e1 e2 e3=> ?_⟩,λy c e=> ?_,I.free,I.freeC,λp hp=> ?_,tracked ⟨oL,hoL,I.free⟩ hs,by simpa using I.len⟩ ⟨_,hs,.inl rfl⟩
  ·exact(hs.2 b (bj (bc (ba e) I.ok.above))).trans (I.base.keep b o e n hb hx)
  ·obtain⟨sl,e1⟩:=I.base.slot b o e n hb hx
   exact⟨sl,(hs.2 b (bj (bc (ba e) I.ok.above))).trans e1⟩
  ·obtain⟨o',e1⟩:=I.base.there b o e hx
   exact⟨o',(hs.2 b (bj (bc (ba e) I.ok.above))).trans e1⟩
  ·by_cases hj:j=i
   ·subst hj
    rw[hi]at e1;cases e1;rw[dh hiσ]at e2;cases e2;exact⟨u,r,.inl ⟨hk,by simp⟩⟩
   ·rw[jz (gb hj)]at e2
    obtain⟨u',r',q⟩:=hl j y v' e1 e2 e3;refine⟨u',r',?_⟩;rcases q with⟨k,e⟩ | ⟨k,c,e,z⟩
    ·refine .inl ⟨k,?_⟩
     have:y≠x:=λe=>hj (zgP hN e1 (e▸hi));simp[this,e]
    ·exact .inr ⟨k,c,e,z.sameBut hs (cne y c e)⟩
  ·obtain⟨w',z⟩:=I.cell y c e
   exact⟨w',z.sameBut hs (cne y c e)⟩
  ·obtain⟨e,n,ne,nf,d⟩:=I.pin p hp
   exact⟨(hs.2 p.1 ne).trans e,n,ne,nf,d⟩
 ·have hfn:X.fn x=true:=by
   rcases hf with z | z
   ·exact z
   ·rw[z]at hk;cases hk
  obtain⟨c,hc⟩:=I.ok.has x (.inl hk);obtain⟨w',z⟩:=I.cell x c hc;refine wpAny_storeName_cell I.ok.kind hk hc z (λh' hc' hs=> ?_);obtain⟨oc,hoc,hocd⟩:=id z;refine h {s with heap:=h'} ⟨I.ok,I.os,I.bare,⟨λb o e n hb hx=> ?_,λb o e n hb hx=> ?_,I.base.free,λb o e hx=> ?_,I.base.tups,I.base.frzs,I.base.tbls⟩,⟨m,hn.sameBut hs (gb (cne x c hc)),λj y v' e1 e2 e3=> ?_⟩,λy c' e=> ?_,I.free,I.freeC,λp hp=> ?_,tracked ⟨oc,hoc,I.freeC x c hc⟩ hs,by simpa using I.len⟩ ⟨c,hs,.inr hc⟩
  ·exact(hs.2 b (bj (bc (ba e) (I.ok.cab x c hfn hc)))).trans (I.base.keep b o e n hb hx)
  ·obtain⟨sl,e1⟩:=I.base.slot b o e n hb hx
   exact⟨sl,(hs.2 b (bj (bc (ba e) (I.ok.cab x c hfn hc)))).trans e1⟩
  ·obtain⟨o',e1⟩:=I.base.there b o e hx
   exact⟨o',(hs.2 b (bj (bc (ba e) (I.ok.cab x c hfn hc)))).trans e1⟩
  ·by_cases hj:j=i
   ·subst hj
    rw[hi]at e1;cases e1;rw[dh hiσ]at e2;cases e2;exact⟨u,r,.inr ⟨.inl hk,c,hc,hc'⟩⟩
   ·rw[jz (gb hj)]at e2
    obtain⟨u',r',q⟩:=hl j y v' e1 e2 e3;refine⟨u',r',?_⟩;rcases q with q | ⟨k,c',e,z'⟩
    ·exact .inl q
    ·refine .inr ⟨k,c',e,z'.sameBut hs ?_⟩
     rintro rfl;exact hj (zgP hN e1 (I.ok.inj _ _ _ e hc▸hi))
  ·by_cases hcc:c'=c
   ·subst hcc;exact⟨_,hc'⟩
   ·obtain⟨w2,z2⟩:=I.cell y c' e
    exact⟨w2,z2.sameBut hs hcc⟩
  ·obtain⟨e,n,ne,nf,d⟩:=I.pin p hp
   refine⟨(hs.2 p.1 ?_).trans e,n,ne,nf,d⟩;intro q;rw[q,hoc]at e;have q':oc=p.2:=bx e;exact d w' (by rw[<- q'];exact hocd)
theorem fP {M:Model}{A:Around}{E:Value->Shared->Prop}{i:Nat}{x:Str}{v:V}{u:Value}{Q:Unit->Shared->Prop}(I:z6 X pins σ H s)(hN:X.N.Nodup)(hi:X.N[i]?=some x)(hx:uN X.env.scope x)(r:zT v u)
  (h: ∀s',z6 X pins (σ.set i (some v)) H s'->Q () s') (hf:X.fn x=true∨X.env.scope.names.lookup x=some .local:=by first | exact .inl rfl | exact .inr rfl | assumption):bf M A (storeName X.env x u) Q E s:=
 zdg I hN hi hx r (λs' I' _=>h s' I') hf
theorem z6.call' {s':Shared}{ch:List Addr}(I:z6 X pins σ H s)(ho:s'.os=s.os)(u:Un (vA X.stack) ch H H' s.heap s'.heap)(hok:xK X.prog X.w H' s'.heap)(hg:AllBare s'.gens)
  (hch: ∀b∈ch,(b∈X.ex∨X.s₀.heap.objs.size<=b)/\b≠X.env.locals/\(∀x c,X.env.cells.lookup x=some c->c≠b)/\∀p∈X.pn++pins,p.1≠b):z6 X pins σ H' s':=by
 obtain⟨h',g',d',t',o'⟩:=s';have e:o'=s.os:=ho;subst e;exact I.call (g':=g') (t':=t') (d':=d') u hok hg hch
end
abbrev XK:=Value->Option Addr->Hp->Prop
abbrev St:=List (Option V)
abbrev VK:=V->Hp->Prop
abbrev TE:=St->Hp->VK->Prop
abbrev TT:=St->Hp->(Bool->Hp->Prop)->Prop
abbrev TA:=St->Hp->(List V->Hp->Prop)->Prop
structure sX where
 nx:St->Hp->Prop
 rt:VK
 bk:St->Hp->Prop:=λ_ _=>False
 ct:St->Hp->Prop:=λ_ _=>False
abbrev TS:=sX->St->Hp->Prop
def EP (X:Cx)(pins:List (Addr×Obj))(σ:St)(Q:VK)(u:Value)(s':Shared):Prop:= ∃v H',z6 X pins σ H' s'/\zT v u/\Q v H'
def TP (X:Cx)(pins:List (Addr×Obj))(σ:St)(Q:Bool->Hp->Prop)(b:Bool)(s':Shared):Prop:= ∃H',z6 X pins σ H' s'/\Q b H'
def AP (X:Cx)(pins:List (Addr×Obj))(σ:St)(Q:List V->Hp->Prop)(us:List Value)(s':Shared):Prop:= ∃vs H',z6 X pins σ H' s'/\zK vs us/\Q vs H'
def SP (X:Cx)(pins:List (Addr×Obj))(D:sX)(f:Flow)(s':Shared):Prop:=
 match f with
 | .next=> ∃σ' H',z6 X pins σ' H' s'/\D.nx σ' H'
 | .brk=> ∃σ' H',z6 X pins σ' H' s'/\D.bk σ' H'
 | .cont=> ∃σ' H',z6 X pins σ' H' s'/\D.ct σ' H'
 | .ret u=> ∃v σ' H',z6 X pins σ' H' s'/\zT v u/\D.rt v H'
structure PE (X:Cx)(e:Expr)(t:TE):Prop where
 run:
  ∀(pins:List (Addr×Obj)) (s:Shared) (σ:St) (H:Hp) (Q:VK),z6 X pins σ H s->t σ H Q->bf (bt X.prog X.w) X.A (eval e X.env) (EP X pins σ Q) X.xe s
instance {X:Cx} {e:Expr} {t:TE} :CoeFun (PE X e t) λ_=>
 ∀(pins:List (Addr×Obj)) (s:Shared) (σ:St) (H:Hp) (Q:VK),z6 X pins σ H s->t σ H Q->bf (bt X.prog X.w) X.A (eval e X.env) (EP X pins σ Q) X.xe s
  :=⟨PE.run⟩
structure PT (X:Cx)(e:Expr)(t:TT):Prop where
 run:
  ∀(pins:List (Addr×Obj)) (s:Shared) (σ:St) (H:Hp) (Q:Bool->Hp->Prop),z6 X pins σ H s->t σ H Q->bf (bt X.prog X.w) X.A (isTrue e X.env (eval e X.env)) (TP X pins σ Q) X.xe s
instance {X:Cx} {e:Expr} {t:TT} :CoeFun (PT X e t) λ_=>
 ∀(pins:List (Addr×Obj)) (s:Shared) (σ:St) (H:Hp) (Q:Bool->Hp->Prop),z6 X pins σ H s->t σ H Q->bf (bt X.prog X.w) X.A (isTrue e X.env (eval e X.env)) (TP X pins σ Q) X.xe s
  :=⟨PT.run⟩
structure PW (X:Cx)(e:Expr)(t:TT):Prop where
 run:
  ∀(whole:Sem Value) (pins:List (Addr×Obj)) (s:Shared) (σ:St) (H:Hp) (Q:Bool->Hp->Prop),z6 X pins σ H s->t σ H Q->bf (bt X.prog X.w) X.A (isTrue e X.env whole) (TP X pins σ Q) X.xe s
instance {X:Cx} {e:Expr} {t:TT} :CoeFun (PW X e t) λ_=>
 ∀(whole:Sem Value) (pins:List (Addr×Obj)) (s:Shared) (σ:St) (H:Hp) (Q:Bool->Hp->Prop),z6 X pins σ H s->t σ H Q->bf (bt X.prog X.w) X.A (isTrue e X.env whole) (TP X pins σ Q) X.xe s
  :=⟨PW.run⟩
theorem PW.pt {X:Cx}{e:Expr}{t:TT}(h:PW X e t):PT X e t:=⟨h.run _⟩
structure PA (X:Cx)(es:List Expr)(t:TA):Prop where
 run:
  ∀(pos:Pos) (pins:List (Addr×Obj)) (s:Shared) (σ:St) (H:Hp) (Q:List V->Hp->Prop),z6 X pins σ H s->t σ H Q->bf (bt X.prog X.w) X.A (spliced (backTo pos (starEach es X.env))) (AP X pins σ Q) X.xe s
instance {X:Cx} {es:List Expr} {t:TA} :CoeFun (PA X es t) λ_=>
 ∀(pos:Pos) (pins:List (Addr×Obj)) (s:Shared) (σ:St) (H:Hp) (Q:List V->Hp->Prop),z6 X pins σ H s->t σ H Q->bf (bt X.prog X.w) X.A (spliced (backTo pos (starEach es X.env))) (AP X pins σ Q) X.xe s
  :=⟨PA.run⟩
structure PS (X:Cx)(st:Stmt)(t:TS):Prop where
 run:
  ∀(pins:List (Addr×Obj)) (s:Shared) (σ:St) (H:Hp) (D:sX),z6 X pins σ H s->t D σ H->bf (bt X.prog X.w) X.A (exec st X.env) (SP X pins D) X.xe s
instance {X:Cx} {st:Stmt} {t:TS} :CoeFun (PS X st t) λ_=>
 ∀(pins:List (Addr×Obj)) (s:Shared) (σ:St) (H:Hp) (D:sX),z6 X pins σ H s->t D σ H->bf (bt X.prog X.w) X.A (exec st X.env) (SP X pins D) X.xe s
  :=⟨PS.run⟩
structure xB (X:Cx)(st:List Stmt)(t:TS):Prop where
 run:
  ∀(pins:List (Addr×Obj)) (s:Shared) (σ:St) (H:Hp) (D:sX),z6 X pins σ H s->t D σ H->bf (bt X.prog X.w) X.A (execs st X.env) (SP X pins D) X.xe s
instance {X:Cx} {st:List Stmt} {t:TS} :CoeFun (xB X st t) λ_=>
 ∀(pins:List (Addr×Obj)) (s:Shared) (σ:St) (H:Hp) (D:sX),z6 X pins σ H s->t D σ H->bf (bt X.prog X.w) X.A (execs st X.env) (SP X pins D) X.xe s
  :=⟨xB.run⟩
theorem zR {α:Type}{t:Sem α}{Q Q':α->Shared->Prop}{M:Model}{A:Around}{E:Value->Shared->Prop}{s:Shared}(h:bf M A t Q E s)(hQ: ∀a s,Q a s->Q' a s):bf M A t Q' E s:=jc h hQ λ_ _ x=>x
section
variable {X:Cx}
def fR (i:Nat):TE:=λσ H Q=> ∃v,σ[i]?=some (some v)/\Q v H
def tC (v:V):TE:=λ_ H Q=>Q v H
theorem zcq {i:Nat}{x:Str}{pos:Pos}(hN:X.N[i]?=some x)(hv:dX X.env.scope x)(hd:(x==("__debug__" :Str))=false:=by decide)(hcd:(x==("__classdict__" :Str))=false:=by decide):PE X (.Name x pos) (fR i):=by
 (first | refine⟨?_⟩ | skip)
 intro pins s σ H Q I h;obtain⟨v,e,h⟩:=h;obtain⟨m,hn,hl⟩:=I.loc;obtain⟨u,r,l⟩:=hl i x v hN e hv;have fin:EP X pins σ Q u s:=⟨v,H,I,r,h⟩;rcases l with⟨hk,hm⟩ | ⟨hk,c,hc,hcell⟩
 ·exact wpAny_Name (wpAny_loadName_local I.ok.kind hk hn hm fin) hd
 ·rcases hk with hk | hk
  ·exact wpAny_Name (wpAny_loadName_cell I.ok.kind hk hc hcell fin) hd
  ·exact wpAny_Name (wpAny_loadName_free I.ok.kind hk hc hcell fin hcd) hd
theorem zon {i j pos} :PE X (.Constant (.int i) j pos) (tC (.int i)):=⟨λ_ _ _ H _ I h=>wpAny_Constant_int ⟨.int i,H,I.tok _,⟨_,rfl⟩,h⟩⟩
theorem zod {b j pos} :PE X (.Constant (.bool b) j pos) (tC (.bl b)):=⟨λ_ _ _ H _ I h=>Constant_bool ⟨.bl b,H,I,rfl,h⟩⟩
theorem zor {j pos} :PE X (.Constant .none j pos) (tC .non):=⟨λ_ _ _ H _ I h=>Constant_none ⟨.non,H,I,rfl,h⟩⟩
theorem zcp {x j pos} :PE X (.Constant (.str x) j pos) (tC (.str x)):=⟨λ_ _ _ H _ I h=>Calls.Constant_str ⟨.str x,H,I.tok _,⟨_,rfl⟩,h⟩⟩
def Gl (X:Cx)(x:Str):Prop:=X.env.kindOf x=some .globalImplicit
theorem zmk {E:Value->Shared->Prop}{pins:List (Addr×Obj)}{s:Shared}{σ:St}{H:Hp}{x:Str}{u:Value}{pos:Pos}{Q:Value->Shared->Prop}(I:z6 X pins σ H s)(hg:Gl X x)(hm:X.mg x=some u)(h:Q u s)
  (hd:(x==("__debug__" :Str))=false:=by decide):bf (bt X.prog X.w) X.A (eval (.Name x pos) X.env) Q E s:=
 po I.ok.kind hg (Calls.loadGlobal_global (by rw[I.ok.glob];exact I.mod.glob.keeps I.bk) hm h) hd
theorem tY {E:Value->Shared->Prop}{pins:List (Addr×Obj)}{s:Shared}{σ:St}{H:Hp}{x:Str}{u:Value}{pos:Pos}{Q:Value->Shared->Prop}(I:z6 X pins σ H s)(hg:Gl X x)(hm:X.mg x=none)(hv:bootBuiltins x=some u)(h:Q u s)
  (hn:x≠ "__name__" :=by decide) (hd:(x==("__debug__" :Str))=false:=by decide):bf (bt X.prog X.w) X.A (eval (.Name x pos) X.env) Q E s:=by
 obtain⟨mb,h1,h2⟩:=I.mod.blt;exact po I.ok.kind hg (Calls.loadGlobal_builtin (by rw[I.ok.glob];exact I.mod.glob.keeps I.bk) hm (by rw[I.ok.blt];exact h1.keeps I.bk) ((h2 x hn).trans hv) h) hd
theorem zoe {x:Str}{v:V}{u:Value}{pos:Pos}(hg:Gl X x)(hm:X.mg x=none)(hv:bootBuiltins x=some u)(r:zT v u)(hn:x≠ "__name__" :=by decide)(hd:(x==("__debug__" :Str))=false:=by decide):PE X (.Name x pos) (tC v):=
 ⟨λ_ _ _ H _ I h=>tY I hg hm hv ⟨v,H,I,r,h⟩ hn hd⟩
variable {a b:Expr} {ta tb:TE} {pos:Pos}
structure PC (X:Cx)(op:CmpOp)(a b:Expr)(t:TE):Prop where
 run:
  ∀(pins:List (Addr×Obj)) (s:Shared) (σ:St) (H:Hp) (Q:VK),z6 X pins σ H s->t σ H Q->
   bf (bt X.prog X.w) X.A (eval a X.env) (λv s₁=>bf (bt X.prog X.w) X.A (eval b X.env) (λu s₂=>bf (bt X.prog X.w) X.A (compareOp op v u) (EP X pins σ Q) X.xe s₂) X.xe s₁) X.xe s
instance {X:Cx} {op:CmpOp} {a b:Expr} {t:TE} :CoeFun (PC X op a b t) λ_=>
 ∀(pins:List (Addr×Obj)) (s:Shared) (σ:St) (H:Hp) (Q:VK),z6 X pins σ H s->t σ H Q->
  bf (bt X.prog X.w) X.A (eval a X.env) (λv s₁=>bf (bt X.prog X.w) X.A (eval b X.env) (λu s₂=>bf (bt X.prog X.w) X.A (compareOp op v u) (EP X pins σ Q) X.xe s₂) X.xe s₁) X.xe s
  :=⟨PC.run⟩
variable {tA tB':TT} {y2:List Expr}
def ziq (t u:TT):TT:=λσ H Q=>t σ H λc H1=>if c=true then u σ H1 Q else Q false H1
def tOr (t u:TT):TT:=λσ H Q=>t σ H λc H1=>if c=true then Q true H1 else u σ H1 Q
def zqH (t:TT):TT:=λσ H Q=>t σ H λc H1=>Q (!c) H1
theorem zpd (ha:PT X a tA):PW X (.BoolOp .And [a] pos) tA:=by
 (first | refine⟨?_⟩ | skip)
 intro wh pins s σ H Q I h;refine isTrue_and (zR (ha pins s σ H Q I h) λc s1 e=> ?_);cases c with
 | true=>exact isTrue_and_nil e
 | false=>exact e
theorem zpf (ha:PT X a tA):PW X (.BoolOp .Or [a] pos) tA:=by
 (first | refine⟨?_⟩ | skip)
 intro wh pins s σ H Q I h;refine isTrue_or (zR (ha pins s σ H Q I h) λc s1 e=> ?_);cases c with
 | false=>exact isTrue_or_nil e
 | true=>exact e
theorem zpc (ha:PT X a tA)(hb:PW X (.BoolOp .And (b::y2) pos) tB'):PW X (.BoolOp .And (a::b::y2) pos) (ziq tA tB'):=by
 (first | refine⟨?_⟩ | skip)
 intro wh pins s σ H Q I h;refine isTrue_and (zR (ha pins s σ H _ I h) λc s1 ⟨H1,I1,q1⟩=> ?_);cases c with
 | true=>exact hb wh pins s1 σ H1 Q I1 q1
 | false=>exact⟨H1,I1,q1⟩
theorem zpe (ha:PT X a tA)(hb:PW X (.BoolOp .Or (b::y2) pos) tB'):PW X (.BoolOp .Or (a::b::y2) pos) (tOr tA tB'):=by
 (first | refine⟨?_⟩ | skip)
 intro wh pins s σ H Q I h;refine isTrue_or (zR (ha pins s σ H _ I h) λc s1 ⟨H1,I1,q1⟩=> ?_);cases c with
 | true=>exact⟨H1,I1,q1⟩
 | false=>exact hb wh pins s1 σ H1 Q I1 q1
theorem zpa (ha:PT X a tA):PT X (.UnaryOp .Not a pos) (zqH tA):=by
 (first | refine⟨?_⟩ | skip)
 intro pins s σ H Q I h;exact isTrue_not (ha pins s σ H (λc H1=>Q (!c) H1) I h)
def zq4 (ta tb:TE):TE:=λσ H Q=>ta σ H λx H1=> ∃c,x= .bl c/\if c=true then tb σ H1 Q else Q (.bl false) H1
def zqI (ta:TE):TE:=λσ H Q=>ta σ H λx H1=> ∃c,x= .bl c/\Q (.bl (!c)) H1
theorem zot {op}{t:TE}(h:PE X a t):PE X (.BoolOp op [a] pos) t:=⟨λpins s σ H Q I hw=>BoolOp_one (h pins s σ H Q I hw)⟩
theorem zoc (ha:PE X a ta)(hb:PE X (.BoolOp .And (b::y2) pos) tb):PE X (.BoolOp .And (a::b::y2) pos) (zq4 ta tb):=by
 (first | refine⟨?_⟩ | skip)
 intro pins s σ H Q I h;refine BoolOp_and (zR (ha pins s σ H _ I h) λv s1 ⟨x,H1,I1,r1,q1⟩=> ?_);obtain⟨c,rfl,q1⟩:=q1;cases r1;refine jw ?_;cases c with
 | true=>exact hb pins s1 σ H1 Q I1 q1
 | false=>exact⟨.bl false,H1,I1,rfl,q1⟩
theorem zos (ha:PE X a ta):PE X (.UnaryOp .Not a pos) (zqI ta):=by
 (first | refine⟨?_⟩ | skip)
 intro pins s σ H Q I h;refine UnaryOp_ (zR (ha pins s σ H _ I h) λv s1 ⟨x,H1,I1,r1,q1⟩=> ?_);obtain⟨c,rfl,q1⟩:=q1;cases r1;exact not_of (jw ⟨.bl (!c),H1,I1,rfl,q1⟩)
end
def yE (K:Frag)(H:Hp)(a:Addr)(xs:List V):Prop:=
 Rd H a (.lst xs)∨
  ∃(o:Obj) (its:Array Value) (n:Nat),K.lookup a=some o/\o.cls= .type "list" /\o.dict=none/\o.data= .seq its n/\its.size<=sizeLine/\zK xs its.toList/\o.slots= #[]
def x5 (K:Frag)(H:Hp)(a:Addr)(xs:List V):Prop:=
 Rd H a (.tup xs)∨
  ∃(o:Obj) (its:Array Value) (n:Nat),K.lookup a=some o/\o.cls= .type "tuple" /\o.dict=none/\o.data= .seq its n/\its.size<=sizeLine/\zK xs its.toList
def zjL:Value->Option V
 | .none=>some .non
 | .bool b=>some (.bl b)
 | .int i _=>some (.int i)
 | .str x _=>some (.str x)
 | .bytes b _=>some (.byt b)
 | .float b _=>some (.flt b)
 | .ref a=>some (.ref a)
 | .type n=>some (.ty n)
 | _=>none
theorem zT.abs {x:V}{u:Value}(r:zT x u):zjL u=some x:=by
 cases x with
 | non=>cases r;rfl
 | bl _=>cases r;rfl
 | int _=>obtain⟨t,rfl⟩:=r;rfl
 | str _=>obtain⟨t,rfl⟩:=r;rfl
 | byt _=>obtain⟨t,rfl⟩:=r;rfl
 | flt _=>obtain⟨t,rfl⟩:=r;rfl
 | ref _=>cases r;rfl
 | ty _=>cases r;rfl
theorem zT.inj {x y:V}{u:Value}(r:zT x u)(q:zT y u):x=y:=bx (r.abs.symm.trans q.abs)
theorem zK.inj: ∀{xs ys:List V} {us:List Value},zK xs us->zK ys us->xs=ys
 | _,_,_,.nil,.nil=>rfl
 | _,_,_,.cons r t,.cons r' t'=>by rw[r.inj r',zK.inj t t']
section
variable {X:Cx} {pins:List (Addr×Obj)} {σ:St} {H:Hp} {s:Shared} {a:Addr} {xs ys:List V}
theorem yE.of {K:Frag}(h:H a=some (.lst xs)):yE K H a xs:= .inl (.inl h)
theorem z6.list (I:z6 X pins σ H s)(h:yE X.K H a xs): ∃its:List Value,zK xs its/\PlainL s.heap a its.toArray/\xs.length<=sizeLine:=by
 rcases h with h | ⟨o,its,n,hk,hc,hd,hs,hz,r,_⟩
 ·obtain⟨z,its,n,r,e⟩:=h.ok I.hok
  exact⟨its,r,⟨_,n,e,rfl,rfl,rfl⟩,z⟩
 ·refine⟨its.toList,r,⟨o,n,I.kIn a o hk,hc,hd,by simpa using hs⟩,?_⟩
  have e:=r.length;simp only[fm]at e;omega
theorem z6.tuple (I:z6 X pins σ H s)(h:x5 X.K H a xs): ∃its:List Value,zK xs its/\IsTup s.heap a its.toArray/\xs.length<=sizeLine:=by
 rcases h with h | ⟨o,its,n,hk,hc,_,hs,hz,r⟩
 ·obtain⟨z,its,r,p⟩:=h.ok I.hok
  exact⟨its,r,p.tup,z⟩
 ·refine⟨its.toList,r,⟨o,I.kIn a o hk,hc,n,by simpa using hs⟩,?_⟩
  have e:=r.length;simp only[fm]at e;omega
theorem z6.listX (I:z6 X pins σ H s)(h:yE X.K H a xs): ∃(its:List Value) (n:Nat),zK xs its/\s.heap.get? a=some {cls:= .type "list",data:= .seq its.toArray n} /\xs.length<=sizeLine:=by
 rcases h with h | ⟨o,its,n,hk,hc,hd,hs,hz,r,hsl⟩
 ·obtain⟨z,its,n,r,e⟩:=h.ok I.hok
  exact⟨its,n,r,e,z⟩
 ·obtain⟨cls,dict,data,slots⟩:=o
  dsimp only at hc hd hs hsl;subst hc hd hs hsl;refine⟨its.toList,n,r,by simpa using I.kIn a _ hk,?_⟩;have e:=r.length;simp only[fm]at e;omega
theorem z6.tupleD (I:z6 X pins σ H s)(h:x5 X.K H a xs): ∃its:List Value,zK xs its/\uY s.heap a its.toArray/\xs.length<=sizeLine:=by
 rcases h with h | ⟨o,its,n,hk,hc,hd,hs,hz,r⟩
 ·obtain⟨z,its,r,p⟩:=h.ok I.hok
  exact⟨its,r,p,z⟩
 ·refine⟨its.toList,r,⟨o,I.kIn a o hk,hc,n,by simpa using hs,hd⟩,?_⟩
  have e:=r.length;simp only[fm]at e;omega
theorem z6.list_inj (I:z6 X pins σ H s)(h:yE X.K H a xs)(h':yE X.K H a ys):xs=ys:=by
 obtain⟨its,r,⟨o,n,e,_,_,d⟩,_⟩:=I.list h;obtain⟨its',r',⟨o',n',e',_,_,d'⟩,_⟩:=I.list h';rw[e]at e';cases e';rw[d]at d';injection d' with d1 _
 have:its=its':=by simpa using congrArg Array.toList d1
 subst this;exact r.inj r'
theorem z6.tuple_inj (I:z6 X pins σ H s)(h:x5 X.K H a xs)(h':x5 X.K H a ys):xs=ys:=by
 obtain⟨its,r,⟨o,e,_,n,d⟩,_⟩:=I.tuple h;obtain⟨its',r',⟨o',e',_,n',d'⟩,_⟩:=I.tuple h';rw[e]at e';cases e';rw[d]at d';injection d' with d1 _
 have:its=its':=by simpa using congrArg Array.toList d1
 subst this;exact r.inj r'
end
abbrev Cx.wish (X:Cx)(E:Value->Shared->Prop):Cx:= {X with xe:=E}
abbrev Cx.nox (X:Cx):Cx:=X.wish λ_ _=>False
theorem Cx.Ok.wish {X:Cx}(ok:X.Ok)(E:Value->Shared->Prop):(X.wish E).Ok:=
 ⟨ok.mod,ok.kind,ok.glob,ok.blt,ok.above,ok.inj,ok.has,ok.cab,ok.hd,ok.frames,ok.stk,ok.exf,ok.bs,ok.bsz,ok.noex,ok.exfs,ok.funs,ok.frf⟩
theorem Cx.Ok.unwish {X:Cx}{E:Value->Shared->Prop}(ok:(X.wish E).Ok):X.Ok:=
 ⟨ok.mod,ok.kind,ok.glob,ok.blt,ok.above,ok.inj,ok.has,ok.cab,ok.hd,ok.frames,ok.stk,ok.exf,ok.bs,ok.bsz,ok.noex,ok.exfs,ok.funs,ok.frf⟩
section
variable {X:Cx} {pins:List (Addr×Obj)} {σ:St} {H:Hp} {s:Shared} {E:Value->Shared->Prop}
theorem z6.wish (I:z6 X pins σ H s)(E:Value->Shared->Prop):z6 (X.wish E) pins σ H s:=⟨I.ok.wish E,I.os,I.bare,I.base,I.loc,I.cell,I.free,I.freeC,I.pin,I.hok,I.len⟩
theorem z6.unwish (I:z6 (X.wish E) pins σ H s):z6 X pins σ H s:=⟨I.ok.unwish,I.os,I.bare,I.base,I.loc,I.cell,I.free,I.freeC,I.pin,I.hok,I.len⟩
theorem SP.unwish {D:sX}{f:Flow}{s':Shared}(h:SP (X.wish E) pins D f s'):SP X pins D f s':=by
 cases f with
 | next=>obtain⟨σ',H',I,q⟩:=h;exact⟨σ',H',I.unwish,q⟩
 | brk=>obtain⟨σ',H',I,q⟩:=h;exact⟨σ',H',I.unwish,q⟩
 | cont=>obtain⟨σ',H',I,q⟩:=h;exact⟨σ',H',I.unwish,q⟩
 | ret u=>obtain⟨v,σ',H',I,r,q⟩:=h;exact⟨v,σ',H',I.unwish,r,q⟩
theorem xB.nox {st:List Stmt}{t:TS}(h:xB X.nox st t):xB X st t:=⟨λpins s σ H D I hw=>
 jc (h pins s σ H D (I.wish _) hw) (λ_ _ q=>q.unwish) λ_ _ z=>False.elim z⟩
end
section
variable {X:Cx} {st:Stmt} {y2:List Stmt} {t u:TS} {e:Expr} {te:TE} {pos:Pos}
def zqF:TS:=λD σ H=>D.nx σ H
def zqO (t u:TS):TS:=λD σ H=>t {D with nx:=u D} σ H
theorem zoX:xB X [] zqF:=⟨λ_ _ σ H _ I h=>oj ⟨σ,H,I,h⟩⟩
theorem oE (h1:PS X st t)(h2:xB X y2 u):xB X (st::y2) (zqO t u):=by
 (first | refine⟨?_⟩ | skip)
 intro pins s σ H D I h;refine wpAny_execs_cons (zR (h1 pins s σ H {D with nx:=u D} I h) λf s1 q=> ?_);cases f with
 | next=>
  obtain⟨σ',H',I',q⟩:=q;exact h2 pins s1 σ' H' D I' q
 | ret v=>exact q
 | brk=>exact q
 | cont=>exact q
theorem zoY (h1:PS X st t):xB X [st] t:=by
 (first | refine⟨?_⟩ | skip)
 intro pins s σ H D I h;refine wpAny_execs_cons (zR (h1 pins s σ H D I h) λf s1 q=> ?_);cases f with
 | next=>exact oj q
 | ret v=>exact q
 | brk=>exact q
 | cont=>exact q
def zq8:TS:=λD σ H=>D.ct σ H
theorem zoP:PS X (.Continue pos) zq8:=⟨λ_ _ σ H _ I h=>wpAny_Continue ⟨σ,H,I,h⟩⟩
theorem z6.quiet {pins:List (Addr×Obj)}{σ:St}{H:Hp}{s:Shared}(I:z6 X pins σ H s):interactive X.env=false:=by simp[interactive,I.ok.kind]
def zq_ (te:TE):TS:=λD σ H=>te σ H λ_ H1=>D.nx σ H1
theorem zoQ (he:PE X e te)(hs:swapsWith e none pos.line X.env=pure false:=by rfl):PS X (.Expr e pos) (zq_ te):=by
 (first | refine⟨?_⟩ | skip)
 intro pins s σ H D I h;exact wpAny_Expr_any (zR (he pins s σ H _ I h) λv s1 ⟨x,H1,I1,r1,q1⟩=>⟨σ,H1,I1,q1⟩) I.quiet hs
def zqL (te:TE):TS:=λD σ H=>te σ H D.rt
theorem zoU (he:PE X e te):PS X (.Return (some e) pos) (zqL te):=by
 (first | refine⟨?_⟩ | skip)
 intro pins s σ H D I h;exact wpAny_Return_some (zR (he pins s σ H _ I h) λv s1 ⟨x,H1,I1,r1,q1⟩=>⟨x,σ,H1,I1,r1,q1⟩)
def zqB (c:TT)(t u:TS):TS:=λD σ H=>c σ H λb H1=>if b=true then t D σ H1 else u D σ H1
theorem zoS {c:Expr}{a b:List Stmt}{tc:TT}(hc:PT X c tc)(ha:xB X a t)(hb:xB X b u):PS X (.If c a b pos) (zqB tc t u):=by
 (first | refine⟨?_⟩ | skip)
 intro pins s σ H D I h;refine wpAny_If (zR (hc pins s σ H _ I h) λd s1 ⟨H1,I1,q1⟩=> ?_);cases d with
 | true=>exact ha pins s1 σ H1 D I1 q1
 | false=>exact hb pins s1 σ H1 D I1 q1
end
abbrev TG:=V->St->Hp->(St->Hp->Prop)->Prop
abbrev uP:=List V->St->Hp->(St->Hp->Prop)->Prop
structure PG (X:Cx)(target:Expr)(t:TG):Prop where
 run:
  ∀(pins:List (Addr×Obj)) (s:Shared) (σ:St) (H:Hp) (v:V) (u:Value) (Q:St->Hp->Prop),z6 X pins σ H s->zT v u->t v σ H Q->
   bf (bt X.prog X.w) X.A (assign target X.env u) (λ_ s'=> ∃σ' H',z6 X pins σ' H' s'/\Q σ' H') X.xe s
instance {X:Cx} {target:Expr} {t:TG} :CoeFun (PG X target t) λ_=>
 ∀(pins:List (Addr×Obj)) (s:Shared) (σ:St) (H:Hp) (v:V) (u:Value) (Q:St->Hp->Prop),z6 X pins σ H s->zT v u->t v σ H Q->
  bf (bt X.prog X.w) X.A (assign target X.env u) (λ_ s'=> ∃σ' H',z6 X pins σ' H' s'/\Q σ' H') X.xe s
  :=⟨PG.run⟩
structure uD (X:Cx)(ts:List Expr)(t:uP):Prop where
 run:
  ∀(pins:List (Addr×Obj)) (s:Shared) (σ:St) (H:Hp) (vs:List V) (us:List Value) (Q:St->Hp->Prop),z6 X pins σ H s->zK vs us->t vs σ H Q->
   bf (bt X.prog X.w) X.A (assignInOrder ((assignEach ts X.env).map (·.2)) us) (λ_ s'=> ∃σ' H',z6 X pins σ' H' s'/\Q σ' H') X.xe s
instance {X:Cx} {ts:List Expr} {t:uP} :CoeFun (uD X ts t) λ_=>
 ∀(pins:List (Addr×Obj)) (s:Shared) (σ:St) (H:Hp) (vs:List V) (us:List Value) (Q:St->Hp->Prop),z6 X pins σ H s->zK vs us->t vs σ H Q->
  bf (bt X.prog X.w) X.A (assignInOrder ((assignEach ts X.env).map (·.2)) us) (λ_ s'=> ∃σ' H',z6 X pins σ' H' s'/\Q σ' H') X.xe s
  :=⟨uD.run⟩
abbrev dS:=V->V->V->Hp->(Hp->Prop)->Prop
def jV (X:Cx)(t:dS):Prop:=
 ∀(pins:List (Addr×Obj)) (s:Shared) (σ:St) (H:Hp) (o i v:V) (ov iv u:Value) (Q:Hp->Prop),z6 X pins σ H s->zT o ov->zT i iv->zT v u->t o i v H Q->
  bf (bt X.prog X.w) X.A (setItem ov iv u) (λ_ s'=> ∃H',z6 X pins σ H' s'/\Q H') X.xe s
section
variable {X:Cx} {pos:Pos}
def lO (i:Nat):TG:=λv σ H Q=>Q (σ.set i (some v)) H
theorem zo3 {i:Nat}{x:Str}(hN:X.N.Nodup)(hi:X.N[i]?=some x)(hx:uN X.env.scope x)(hf:X.fn x=true∨X.env.scope.names.lookup x=some .local:=by first | exact .inl rfl | exact .inr rfl | assumption):PG X (.Name x pos) (lO i):=by
 (first | refine⟨?_⟩ | skip)
 intro pins s σ H v u Q I r h;exact qb (fP I hN hi hx r (λs' I'=>⟨_,H,I',h⟩) hf)
def zgd:uP:=λvs σ H Q=>vs= []/\Q σ H
def zb9 (t:TG)(u:uP):uP:=λvs σ H Q=> ∃v r,vs=v::r/\t v σ H λσ' H'=>u r σ' H' Q
theorem zhy:uD X [] zgd:=by
 (first | refine⟨?_⟩ | skip)
 intro pins s σ H vs us Q I r h;obtain⟨e,h⟩:=h;subst e;cases r;exact assignInOrder_nil ⟨σ,H,I,h⟩
theorem zct {e:Expr}{es:List Expr}{t:TG}{u:uP}(h1:PG X e t)(h2:uD X es u)
  (hs:(assignEach (e::es) X.env).map (·.2)=assign e X.env::(assignEach es X.env).map (·.2):=by rfl):uD X (e::es) (zb9 t u):=by
 (first | refine⟨?_⟩ | skip)
 intro pins s σ H vs us Q I r h;obtain⟨v,vr,e1,h⟩:=h;subst e1;cases r with
 | cons r rr=>
  rw[hs];refine oy (zR (h1 pins s σ H _ _ _ I r h) λ_ s1 ⟨σ1,H1,I1,q1⟩=> ?_);exact h2 pins s1 σ1 H1 _ _ Q I1 rr q1
def zge (K:Frag)(n:Nat)(t:uP):TG:=λv σ H Q=> ∃a xs,v= .ref a/\x5 K H a xs/\xs.length=n/\t xs σ H Q
theorem zhx {es:List Expr}{k:Nat}{t:uP}{n:Nat}(hc:X.calm=true)(h:uD X es t)
  (hn:(assignEach es X.env).length=n:=by rfl) (hst:(assignEach es X.env).findIdx? (·.1)=none:=by rfl):PG X (.Tuple es k pos) (zge X.K n t):=by
 (first | refine⟨?_⟩ | skip)
 intro pins s σ H v u Q I r hw;obtain⟨a,xs,e1,hq,hl,hw⟩:=hw;subst e1;cases r;obtain⟨its,rv,ht,hz⟩:=I.tuple hq;refine assign_Tuple_tuple (I.ok.hd hc) ht (by simp[hn,<- hl,rv.length]) hst λh' hx=> ?_;have I1:z6 X pins σ H {s with heap:=h'} :=I.kept (t':=s.toks) λb o e=>hx b o (bj (ba e)) e;exact h pins _ σ H xs _ Q I1 (by simpa using rv) hw
def zb_ (to ti:TE)(t:dS):TG:=λv σ H Q=>to σ H λo H1=>ti σ H1 λi H2=>t o i v H2 λH3=>Q σ H3
theorem zcr {o i:Expr}{to ti:TE}{t:dS}(ho:PE X o to)(hi:PE X i ti)(hs:jV X t)
  (ha: ∀v,assign (.Subscript o i pos) X.env v=(do
   let ov <- holding [v] (eval o X.env)
   let iv <- holding [v,ov] (eval i X.env)
   standAt pos
   holding [v,ov,iv] (setItem ov iv v)
   release [v,ov,iv] []):=by intro _;rfl):PG X (.Subscript o i pos) (zb_ to ti t):=by
 (first | refine⟨?_⟩ | skip)
 intro pins s σ H v u Q I r h;rw[ha];refine ah (du (zR (ho pins s σ H _ I h) λov s1 ⟨x,H1,I1,r1,q1⟩=> ?_));refine ah (du (zR (hi pins s1 σ H1 _ I1 q1) λiv s2 ⟨y,H2,I2,r2,q2⟩=> ?_));refine ah (kw (ah (du (zR (hs pins s2 σ H2 x y v ov iv u _ I2 r1 r2 r q2) λ_ s3 ⟨H3,I3,q3⟩=> ?_))));exact wpAny_release ⟨σ,H3,I3,q3⟩
def mI (te:TE)(g:TG):TS:=λD σ H=>te σ H λx H1=>g x σ H1 D.nx
theorem zh2 {tg e:Expr}{te:TE}{g:TG}(he:PE X e te)(hg:PG X tg g)(hs:swapsWithSole [tg] e pos.line X.env=pure false:=by rfl)(hw:swappedStores [tg] e X.env=pure none:=by rfl)
  (h1:(assignEach [tg] X.env).map (·.2)= [assign tg X.env]:=by rfl):PS X (.Assign [tg] e pos) (mI te g):=by
 (first | refine⟨?_⟩ | skip)
 intro pins s σ H D I h;refine wpAny_Assign_stores (zR (he pins s σ H _ I h) λv s1 ⟨x,H1,I1,r1,q1⟩=> ?_) hs hw;rw[h1];exact zR (hg pins s1 σ H1 x v _ I1 r1 q1) λ_ s2 q=>q
theorem zh3 {i:Nat}{x:Str}{e:Expr}{te:TE}{pos':Pos}(hN:X.N.Nodup)(hi:X.N[i]?=some x)(hx:uN X.env.scope x)(he:PE X e te)(hs:swapsWith e (some (.Name x pos')) pos.line X.env=pure false:=by rfl)(hf:X.fn x=true∨X.env.scope.names.lookup x=some .local:=by first | exact .inl rfl | exact .inr rfl | assumption):
  PS X (.Assign [.Name x pos'] e pos) (mI te (lO i)):=by
 (first | refine⟨?_⟩ | skip)
 intro pins s σ H D I h;refine wpAny_Assign_Name (zR (he pins s σ H _ I h) λv s1 ⟨y,H1,I1,r1,q1⟩=> ?_) hs;exact fP I1 hN hi hx r1 (λs2 I2=>⟨_,H1,I2,q1⟩) hf
def zqJ (i j:Nat)(ta:TA):TS:=λD σ H=>ta σ H λvs H1=> ∃v w,vs= [v,w]/\D.nx ((σ.set i (some v)).set j (some w)) H1
theorem zoT {i j:Nat}{x y:Str}{a b:Expr}{ta:TA}{px py pt:Pos}{kt k2 pt2}(hc:X.calm=true)(hN:X.N.Nodup)(hi:X.N[i]?=some x)(hj:X.N[j]?=some y)(hij:i≠j)
  (hx:X.env.scope.names.lookup x=some .local) (hy:X.env.scope.names.lookup y=some .local) (ha:PA X [a,b] ta)
  (hw:swappedStores [.Tuple [.Name x px,.Name y py] kt pt] (.Tuple [a,b] k2 pt2) X.env=pure (some [x,y]))
  (hs:swapsWithSole [.Tuple [.Name x px,.Name y py] kt pt] (.Tuple [a,b] k2 pt2) pos.line X.env=pure false:=by rfl):
  PS X (.Assign [.Tuple [.Name x px,.Name y py] kt pt] (.Tuple [a,b] k2 pt2) pos) (zqJ i j ta):=by
 (first | refine⟨?_⟩ | skip)
 intro pins s σ H D I h;rw[exec_Assign_arm];refine ah (kw ?_);rw[hs];refine ah (ay ?_);rw[if_neg (by decide)];refine ah (Tuple_ (zR (ha _ pins s σ H _ I h) λus s1 ⟨vs,H1,I1,r1,q1⟩=> ?_));obtain⟨v,w,e1,q1⟩:=q1;subst e1;obtain⟨u1,u2,rfl,rv,rw'⟩: ∃u1 u2,us= [u1,u2]/\zT v u1/\zT w u2:=by
  cases r1 with
  | cons p q=>
   cases q with
   | cons p' q'=>
    cases q';exact⟨_,_,rfl,p,p'⟩
 refine dg ?_ (by show 2<=sizeLine;decide);have I2:z6 X pins σ H1 {s1 with heap:=s1.heap.push {cls:= .type "tuple",data:= .seq [u1,u2].toArray}} :=I1.kept (t':=s1.toks) λb o e=>ar _ e;rw[hw];refine ah (ay ?_);show bf (bt X.prog X.w) X.A (do rule "assign.swapped-stores";let items <- unpackItems (.ref s1.heap.objs.size) 2 none;assignInOrder [λv=>bindName X.env y v,λv=>bindName X.env x v] items.reverse;pure Flow.next) _ _ _;refine ah (ma (ah (unpackItems_tuple (items:= #[u1,u2]) (I.ok.hd hc) (IsTup.new s1.heap _) λh' hx'=> ?_)));have I3:=I2.kept (h':=h') (t':=s1.toks) λb o e=>hx' b o (bj (ba e)) e;show bf _ _ (assignInOrder [λv=>bindName X.env y v,λv=>bindName X.env x v] [u2,u1] >>= λ_=>pure Flow.next) _ _ _;refine ah (oy (wpAny_bindName (fP I3 hN hj (.inl hy) rw' (λs2 I4=> ?_) (.inr hy))));refine oy (wpAny_bindName (fP I4 hN hi (.inl hx) rv (λs3 I5=>assignInOrder_nil (ay ?_)) (.inr hx)));rw[List.set_comm _ _ (gb hij)]at I5;exact⟨_,H1,I5,q1⟩
end
section
variable {X:Cx} {pos:Pos}
def zqQ (c:TT)(tb:TS):TS:=λD σ H=> ∃W:Nat->St->Hp->Prop,(∃m,W m σ H)/\∀m σ H,W m σ H->
 c σ H λb H1=>if b=true then ∃N:St->Hp->Prop,(∀σ' H',N σ' H'->∃m',m' < m/\W m' σ' H')/\tb {D with nx:=N,ct:=N,bk:=D.nx} σ H1 else D.nx σ H1
theorem zoW {c:Expr}{body:List Stmt}{tc:TT}{tb:TS}(hp:PassesOwn (bt X.prog X.w) X.A X.env X.xe)(hc:PT X c tc)(hb:xB X body tb):PS X (.While c body [] pos) (zqQ tc tb):=by
 (first | refine⟨?_⟩ | skip)
 intro pins s σ H D I h;obtain⟨W,⟨m0,w0⟩,turn⟩:=h;refine wpAny_While (codeAny_whileLoop (λn s'=> ∃σ' H',z6 X pins σ' H' s'/\W n σ' H') ?_ m0 ⟨σ,H,I,w0⟩);rintro n s1 ⟨σ1,H1,I1,w1⟩;refine jk hp (zR (hc pins s1 σ1 H1 _ I1 (turn n σ1 H1 w1)) λb s2 ⟨H2,I2,q2⟩=> ?_);cases b with
 | true=>
  obtain⟨N,hN,q2⟩:=q2;rw[if_pos rfl];refine jk hp (zR (hb pins s2 σ1 H2 _ I2 q2) λf s3 q3=> ?_);cases f with
  | next=>
   obtain⟨σ3,H3,I3,n3⟩:=q3;obtain⟨m',hm,w3⟩:=hN σ3 H3 n3;exact⟨m',hm,σ3,H3,I3,w3⟩
  | cont=>
   obtain⟨σ3,H3,I3,n3⟩:=q3;obtain⟨m',hm,w3⟩:=hN σ3 H3 n3;exact⟨m',hm,σ3,H3,I3,w3⟩
  | brk=>exact q3
  | ret v=>exact q3
 | false=>
  rw[if_neg ef];exact oj ⟨σ1,H2,I2,q2⟩
end
structure It where
 go:Nat->Hp->Prop
 yld:Nat->Hp->V->Hp->Prop
 stop:Nat->Hp->Prop
def uX (X:Cx)(pins:List (Addr×Obj))(H:Hp)(b:Addr):Prop:=
 H b=none/\b≠X.env.locals/\b∉X.fs/\(b∈X.ex∨X.s₀.heap.objs.size<=b)/\(∀x c,X.env.cells.lookup x=some c->c≠b)/\∀p∈X.pn++pins,p.1≠b
theorem z6.fpOk {X:Cx}{pins:List (Addr×Obj)}{σ:St}{H H':Hp}{s:Shared}{b:Addr}(I:z6 X pins σ H s)(hb:s.heap.objs.size<=b)(hn:H' b=none):uX X pins H' b:=by
 refine⟨hn,cw (bc I.lt hb),I.nofs hb,.inr (bq I.sz hb),λx c e z=> ?_,λp hp z=> ?_⟩
 ·obtain⟨v,q⟩:=I.cell x c e
  exact absurd (bc q.lt (by rw[z];exact hb)) (ck _)
 ·exact absurd (bc (ba (I.pin p hp).1) (by rw[z];exact hb)) (ck _)
structure rV (P:Program)(w:World)(K:Frag)(tg:Expr)(J:It)(fp:List Addr)(it:Addr)(tn:Nat->Heap->Prop):Prop where
 mem:it∈fp
 obj: ∀i h,tn i h->∀b∈fp,∃o,h.get? b=some o/\∀v,o.data≠ .cell v
 keep: ∀i h h',tn i h->(∀b∈fp,∀o,h.get? b=some o->h'.get? b=some o)->tn i h'
 item: ∀(X:Cx),X.prog=P->X.w=w->X.K=K->X.calm=true->∀(i:Nat) (pins:List (Addr×Obj)) (s:Shared) (σ:St) (H:Hp) (E:Value->Shared->Prop),z6 X pins σ H s->(∀b∈fp,uX X pins H b)->tn i s.heap->J.go i H->
  bf (bt P w) X.A (pyNext (.ref it)) (λr s1=> ∃u,r=some u/\
   bf (bt P w) X.A (letOwnedTupleGo tg (.ref it) u) (λ_ s2=> ∃x H',z6 X pins σ H' s2/\zT x u/\J.yld i H x H'/\tn (i+1) s2.heap/\∀b∈fp,H' b=none) E s1) E s
 done: ∀(X:Cx),X.prog=P->X.w=w->X.K=K->X.calm=true->∀(i:Nat) (pins:List (Addr×Obj)) (s:Shared) (σ:St) (H:Hp) (E:Value->Shared->Prop),z6 X pins σ H s->(∀b∈fp,uX X pins H b)->tn i s.heap->J.stop i H->
  bf (bt P w) X.A (pyNext (.ref it)) (λr s1=>r=none/\z6 X pins σ H s1) E s
 self: ∀(A:Around) (i:Nat) (s:Shared) (Q:Value->Shared->Prop) (E:Value->Shared->Prop),tn i s.heap->Q (.ref it) s->bf (bt P w) A (pyIter (.ref it)) Q E s
abbrev TI:=St->Hp->(It->Hp->Prop)->Prop
def jU (X:Cx)(pins:List (Addr×Obj))(σ:St)(tg:Expr)(R:It->Hp->Prop)(itv:Value)(s2:Shared):Prop:=
 ∃(it:Addr) (fp:List Addr) (tn:Nat->Heap->Prop) (J:It) (H':Hp),itv= .ref it/\z6 X pins σ H' s2/\rV X.prog X.w X.K tg J fp it tn/\tn 0 s2.heap/\(∀b∈fp,uX X pins H' b)/\R J H'
structure PI (X:Cx)(tg iter:Expr)(wi:TI):Prop where
 run:
  ∀(pins:List (Addr×Obj)) (s:Shared) (σ:St) (H:Hp) (R:It->Hp->Prop),z6 X pins σ H s->wi σ H R->
   bf (bt X.prog X.w) X.A (eval iter X.env) (λv s1=>bf (bt X.prog X.w) X.A (pyIter v) (jU X pins σ tg R) X.xe s1) X.xe s
instance {X:Cx} {tg iter:Expr} {wi:TI} :CoeFun (PI X tg iter wi) λ_=>
 ∀(pins:List (Addr×Obj)) (s:Shared) (σ:St) (H:Hp) (R:It->Hp->Prop),z6 X pins σ H s->wi σ H R->
  bf (bt X.prog X.w) X.A (eval iter X.env) (λv s1=>bf (bt X.prog X.w) X.A (pyIter v) (jU X pins σ tg R) X.xe s1) X.xe s
  :=⟨PI.run⟩
theorem iV {M:Model}{A:Around}{E:Value->Shared->Prop}{s:Shared}{tg:Expr}{it:Addr}{u:Value}{o:Obj}{n:String}{vs:Array Value}{Q:Unit->Shared->Prop}(ho:s.heap.get? it=some o)(hc:o.cls= .type n)(hd:o.data= .fields vs)
  (hn: ["enumerate","zip","dict_itemiterator","dict_reverseitemiterator","odict_iterator","itertools.zip_longest","itertools.pairwise"].contains n=false) (hQ:Q () s):bf M A (letOwnedTupleGo tg (.ref it) u) Q E s:=by
 unfold letOwnedTupleGo;cases tg <;> first
  | exact ay hQ
  | (cases u <;> first
    | exact ay hQ
    | (refine ah (wpAny_load ho ?_)
       rw[hc,hd];show bf M A (if(["enumerate","zip","dict_itemiterator","dict_reverseitemiterator","odict_iterator","itertools.zip_longest","itertools.pairwise"].contains n&&vs[0]?==some (rawInt _))=true then _ else _) Q E s;rw[if_neg (by intro h;rw[hn,xv]at h;cases h)];exact ay hQ))
def jQ (K:Frag)(a:Addr):It:=
 ⟨λi H=> ∃xs x,yE K H a xs/\xs[i]?=some x,λi H x H'=>H'=H/\∀xs,yE K H a xs->xs[i]?=some x,λi H=> ∃xs,yE K H a xs/\xs.length<=i⟩
def dE (K:Frag)(a:Addr):It:=
 ⟨λi H=> ∃xs x,x5 K H a xs/\xs[i]?=some x,λi H x H'=>H'=H/\∀xs,x5 K H a xs->xs[i]?=some x,λi H=> ∃xs,x5 K H a xs/\xs.length<=i⟩
def mT (lo:Int)(n:Nat):It:=⟨λi _=>i < n,λi H x H'=>H'=H/\x= .int (lo+i),λi _=>n<=i⟩
theorem zrc {P:Program}{w:World}{K:Frag}{tg:Expr}(a it:Addr):rV P w K tg (jQ K a) [it] it (λi h=>h.IsListIter it a i) where
 mem:=by simp
 obj:=λi h st b hb=>by
  have e:b=it:=by simpa using hb
  subst e;obtain⟨o,e,c,d⟩:=st;exact⟨o,e,λv z=>by rw[d]at z;cases z⟩
 keep:=λi h h' st k=>st.at λo e=>k it (by simp) o e
 item:=by
  intro X hP hw hK hc i pins s σ H E I hf st hg;subst hP hw hK;obtain⟨xs,x,hq,hx⟩:=hg;obtain⟨its,rv,p,hz⟩:=I.list hq;obtain⟨u,hu,ru⟩:=rv.get hx;obtain⟨f0,f1,f2,f3,f4,f5⟩:=hf it (by simp);refine tx st p.isList (x:=u) (by simpa using hu) λh' st' sb=> ?_;have I1:z6 X pins σ H {s with heap:=h'} :=I.turned (t':=s.toks) (λb o hb e=>(sb.2 b hb).trans e) f0 f1 f3 f4 f5;obtain⟨o,e,c,d⟩:=id st';exact⟨u,rfl,iV (s:= {s with heap:=h'}) e c d (by decide) ⟨x,H,I1,ru,⟨rfl,λys hy=>by rw[I.list_inj hy hq];exact hx⟩,st',λb hb=>(hf b hb).1⟩⟩
 done:=by
  intro X hP hw hK hc i pins s σ H E I hf st hg;subst hP hw hK;obtain⟨xs,hq,hx⟩:=hg;obtain⟨its,rv,p,hz⟩:=I.list hq;obtain⟨f0,f1,f2,f3,f4,f5⟩:=hf it (by simp);have hl:=rv.length;exact uh (I.ok.hd hc) st p.isList (by simp;omega) λh' eb=>⟨rfl,I.turned (t':=s.toks) (λb o hb e=>eb b o hb e) f0 f1 f3 f4 f5⟩
 self:=λ_ _ _ _ _ st h=>wpAny_pyIter_listiter st h
theorem zre {P:Program}{w:World}{K:Frag}{tg:Expr}(a it:Addr):rV P w K tg (dE K a) [it] it (λi h=>h.IsTupleIter it a i) where
 mem:=by simp
 obj:=λi h st b hb=>by
  have e:b=it:=by simpa using hb
  subst e;obtain⟨o,e,c,d⟩:=st;exact⟨o,e,λv z=>by rw[d]at z;cases z⟩
 keep:=λi h h' st k=>st.at λo e=>k it (by simp) o e
 item:=by
  intro X hP hw hK hc i pins s σ H E I hf st hg;subst hP hw hK;obtain⟨xs,x,hq,hx⟩:=hg;obtain⟨its,rv,p,hz⟩:=I.tuple hq;obtain⟨u,hu,ru⟩:=rv.get hx;obtain⟨f0,f1,f2,f3,f4,f5⟩:=hf it (by simp);refine wpAny_pyNext_tuple_item st (show s.heap.IsTuple a its.toArray from p) (x:=u) (by simpa using hu) λh' st' sb=> ?_;have I1:z6 X pins σ H {s with heap:=h'} :=I.turned (t':=s.toks) (λb o hb e=>(sb.2 b hb).trans e) f0 f1 f3 f4 f5;obtain⟨o,e,c,d⟩:=id st';exact⟨u,rfl,iV (s:= {s with heap:=h'}) e c d (by decide) ⟨x,H,I1,ru,⟨rfl,λys hy=>by rw[I.tuple_inj hy hq];exact hx⟩,st',λb hb=>(hf b hb).1⟩⟩
 done:=by
  intro X hP hw hK hc i pins s σ H E I hf st hg;subst hP hw hK;obtain⟨xs,hq,hx⟩:=hg;obtain⟨its,rv,p,hz⟩:=I.tuple hq;obtain⟨f0,f1,f2,f3,f4,f5⟩:=hf it (by simp);have hl:=rv.length;exact wpAny_pyNext_tuple_end (I.ok.hd hc) st (show s.heap.IsTuple a its.toArray from p) (by simp;omega) λh' eb=>⟨rfl,I.turned (t':=s.toks) (λb o hb e=>eb b o hb e) f0 f1 f3 f4 f5⟩
 self:=λ_ _ _ _ _ st h=>wpAny_pyIter_tupleiter st h
theorem zrd {P:Program}{w:World}{K:Frag}{tg:Expr}(it:Addr)(lo:Int)(n:Nat):rV P w K tg (mT lo n) [it] it (λi h=>IsRangeIter h it (lo+(i:Nat) * 1) ((n:Int) - (i:Nat)) 1) where
 mem:=by simp
 obj:=λi h st b hb=>by
  have e:b=it:=by simpa using hb
  subst e;exact⟨_,st,λv z=>by
   have z':Data.fields _=Data.cell v:=z;cases z'⟩
 keep:=λi h h' st k=>k it (by simp) _ st
 item:=by
  intro X hP hw hK hc i pins s σ H E I hf st hg;subst hP hw hK;obtain⟨f0,f1,f2,f3,f4,f5⟩:=hf it (by simp);have W:=Walks.range (prog:=X.prog) (w:=X.w) (I.ok.hd hc) it lo 1 n;refine W.item i s _ _ hg st λv h' tk hv st' kk=> ?_;obtain⟨t,rfl⟩:=hv;have I1:z6 X pins σ H {s with heap:=h',toks:=tk} :=I.turned (λb o hb e=>kk b o (by simpa using hb) e) f0 f1 f3 f4 f5;refine⟨_,rfl,iV (s:= {s with heap:=h',toks:=tk}) (n:= "range_iterator") st' rfl rfl (by decide) ⟨.int (lo+i),H,I1,⟨t,?_⟩,⟨rfl,rfl⟩,st',λb hb=>(hf b hb).1⟩⟩;rw[wy]
 done:=by
  intro X hP hw hK hc i pins s σ H E I hf st hg;subst hP hw hK;obtain⟨f0,f1,f2,f3,f4,f5⟩:=hf it (by simp);exact wpAny_pyNext_range_end (I.ok.hd hc) st (by have:n<=i:=hg;omega) λh' eb=>⟨rfl,I.turned (t':=s.toks) (λb o hb e=>eb b o hb e) f0 f1 f3 f4 f5⟩
 self:=λ_ _ _ _ _ st h=>wpAny_pyIter_rangeiter st h
section
variable {X:Cx} {tg:Expr}
theorem zhJ {pins:List (Addr×Obj)}{σ:St}{H:Hp}{s:Shared}{R:It->Hp->Prop}{E:Value->Shared->Prop}{lo hi:Int}{t u v:Tok}{tk:Nat}(I:z6 X pins σ H s)(h1: -(2 ^ 62)<=lo)(h2:lo < 2 ^ 62)(h3: -(2 ^ 62)<=hi)(h4:hi < 2 ^ 62)
  (q:R (mT lo (hi - lo).toNat) H):bf (bt X.prog X.w) X.A (pyIter (.ref s.heap.objs.size)) (jU X pins σ tg R) E {s with heap:=s.heap.push {cls:= .type "range",data:= .fields #[.int lo t,.int hi u,.int 1 v]},toks:=tk} :=by
 refine wpAny_pyIter_range (wz ..) (small_one h1 h2 h3 h4) ?_;have I1:z6 X pins σ H {s with heap:=s.heap.push {cls:= .type "range",data:= .fields #[.int lo t,.int hi u,.int 1 v]},toks:=tk} :=I.kept λb o e=>ar _ e;refine⟨(s.heap.push {cls:= .type "range",data:= .fields #[.int lo t,.int hi u,.int 1 v]}).objs.size,[(s.heap.push {cls:= .type "range",data:= .fields #[.int lo t,.int hi u,.int 1 v]}).objs.size],_,_,H,rfl,
  I1.kept (t':=tk) λb o e=>ar _ e,zrd _ lo (hi - lo).toNat,?_,λb hb=> ?_,q⟩
 ·have e1:lo+((0:Nat):Int) * 1=lo:=by simp
  have e2:(((hi - lo).toNat:Nat):Int) - ((0:Nat):Int)=Builtin.Range.rangeSize lo hi 1:=by rw[vi];split <;> omega
  show IsRangeIter _ _ (lo+((0:Nat):Int) * 1) ((((hi - lo).toNat:Nat):Int) - ((0:Nat):Int)) 1;rw[e1,e2];exact cb _ rfl
 ·have e:b=(s.heap.push {cls:= .type "range",data:= .fields #[.int lo t,.int hi u,.int 1 v]}).objs.size:=by simpa using hb
  subst e;exact I1.fpOk (ak _) (I1.hok.fresh (ak _))
def zlC (ta:TA):TI:=λσ H R=>ta σ H λvs H1=> ∃j:Int,vs= [.int j]/\ -(2 ^ 62)<=j/\j < 2 ^ 62/\R (mT 0 j.toNat) H1
def zlD (ta:TA):TI:=λσ H R=>ta σ H λvs H1=> ∃i j:Int,vs= [.int i,.int j]/\(-(2 ^ 62)<=i/\i < 2 ^ 62/\ -(2 ^ 62)<=j/\j < 2 ^ 62)/\R (mT i (j - i).toNat) H1
theorem zoB {a:Expr}{ta:TA}{p pos:Pos}(hg:Gl X "range")(hm:X.mg "range" =none)(ha:PA X [a] ta)(hs:starEach [a] X.env= [(false,eval a X.env)]:=by rfl):PI X tg (.Call (.Name "range" p) [a] [] pos) (zlC ta):=by
 (first | refine⟨?_⟩ | skip)
 intro pins s σ H R I h;refine Call_ (tY I hg hm ux (callWith_type1 (zR (ha pos pins s σ H _ I h) λus s1 ⟨vs,H1,I1,r1,q1⟩=> ?_) hs rfl));obtain⟨j,e,q1,q2,q⟩:=q1;subst e;cases r1 with
 | cons r rr=>
  cases rr;obtain⟨t,rfl⟩:=r;exact call_range_1 (zhJ I1 (by omega) (by omega) q1 q2 (by simpa using q))
theorem zoC {a b:Expr}{ta:TA}{p pos:Pos}(hg:Gl X "range")(hm:X.mg "range" =none)(ha:PA X [a,b] ta)(hs:starEach [a,b] X.env= [(false,eval a X.env),(false,eval b X.env)]:=by rfl)(hs2:starEach [b] X.env= [(false,eval b X.env)]:=by rfl):
  PI X tg (.Call (.Name "range" p) [a,b] [] pos) (zlD ta):=by
 (first | refine⟨?_⟩ | skip)
 intro pins s σ H R I h;refine Call_ (tY I hg hm ux (callWith_type1 (zR (ha pos pins s σ H _ I h) λus s1 ⟨vs,H1,I1,r1,q1⟩=> ?_) (by rw[hs,hs2]) (by rw[hs2];rfl)));obtain⟨i,j,e,⟨q1,q2,q3,q4⟩,q⟩:=q1;subst e;cases r1 with
 | cons r rr=>
  cases rr with
  | cons r' rr=>
   cases rr;obtain⟨t,rfl⟩:=r;obtain⟨t',rfl⟩:=r';exact call_range_2 (zhJ I1 q1 q2 q3 q4 q)
def zqA (wi:TI)(g:TG)(tb:TS):TS:=λD σ H=>wi σ H λJ H1=> ∃W:Nat->Nat->St->Hp->Prop,(∃m,W 0 m σ H1)/\∀i m σ H,W i m σ H->
 (J.stop i H/\D.nx σ H)∨(J.go i H/\∃N:St->Hp->Prop,(∀σ' H',N σ' H'->∃m',m' < m/\W (i+1) m' σ' H')/\∀x H',J.yld i H x H'->g x σ H' λσ2 H2=>tb {D with nx:=N,ct:=N,bk:=D.nx} σ2 H2)
def tI (fp:List Addr)(h:Heap):List (Addr×Obj):=fp.filterMap λb=>(h.get? b).map λo=>(b,o)
theorem qY {fp:List Addr}{h:Heap}{b:Addr}{o:Obj}(hb:b∈fp)(e:h.get? b=some o):(b,o)∈tI fp h:=dm.mpr ⟨b,hb,by rw[e];rfl⟩
theorem gD {fp:List Addr}{h:Heap}{p:Addr×Obj}(hp:p∈tI fp h):p.1∈fp/\h.get? p.1=some p.2:=by
 obtain⟨b,hb,e⟩:=dm.mp hp;cases q:h.get? b with
 | none=>rw[q]at e;cases e
 | some o=>
  rw[q]at e;have e':(b,o)=p:=bx e;subst e';exact⟨hb,q⟩
theorem z6.pinned {pins:List (Addr×Obj)}{σ:St}{H:Hp}{s:Shared}{fp:List Addr}(I:z6 X pins σ H s)(hf: ∀b∈fp,uX X pins H b)(ho: ∀b∈fp,∃o,s.heap.get? b=some o/\∀v,o.data≠ .cell v):z6 X (pins++tI fp s.heap) σ H s:=
 I.pins_of λp hp=>(av.mp hp).elim (λz=>I.pin p (al _ z)) λz=>by
  obtain⟨hb,e⟩:=gD z;obtain⟨f0,f1,f2,_⟩:=hf p.1 hb;obtain⟨o,e',d⟩:=ho p.1 hb;rw[e]at e';cases e';exact⟨e,f0,f1,f2,d⟩
theorem z6.unpinned {pins pl:List (Addr×Obj)}{σ:St}{H:Hp}{s:Shared}(I:z6 X (pins++pl) σ H s):z6 X pins σ H s:=I.pins_of λp hp=>I.pin p (al _ (az _ hp))
theorem zoR {iter:Expr}{body:List Stmt}{wi:TI}{g:TG}{tb:TS}{pos:Pos}(hp:PassesOwn (bt X.prog X.w) X.A X.env X.xe)(hc:X.calm=true)(hi:PI X tg iter wi)(hg:PG X tg g)(hb:xB X body tb)
  (hs: ∀x,foldedSetIterable iter X.env x=pure x:=by intro _;rfl):PS X (.For tg iter body [] pos) (zqA wi g tb):=by
 (first | refine⟨?_⟩ | skip)
 intro pins s σ H D I h;refine wpAny_For (zR (hi pins s σ H _ I h) λv s1 h1=>zR h1 λitv s2 h2=> ?_) hs;obtain⟨it,fp,tn,J,H2,e,I2,T,st2,f2,W,⟨m0,w0⟩,turn⟩:=h2;subst e;have stat: ∀{H':Hp},(∀b∈fp,H' b=none)->∀b∈fp,uX X pins H' b:=λhn b hb=>⟨hn b hb,(f2 b hb).2⟩;refine codeAny_forLoop_any (λn s'=> ∃i σ' H',z6 X pins σ' H' s'/\tn i s'.heap/\(∀b∈fp,H' b=none)/\W i n σ' H') ?_ m0 ⟨0,σ,H2,I2,st2,λb hb=>(f2 b hb).1,w0⟩;rintro n s3 ⟨i,σ3,H3,I3,st3,fr3,w3⟩;rcases turn i n σ3 H3 w3 with⟨stop,qn⟩ | ⟨go,N,hN,step⟩
 ·refine jk hp (zR (T.done X rfl rfl rfl hc i pins s3 σ3 H3 X.xe I3 (stat fr3) st3 stop) λr s4 ⟨hr,I4⟩=> ?_)
  subst hr;exact oj ⟨σ3,H3,I4,qn⟩
 ·refine jk hp (zR (T.item X rfl rfl rfl hc i pins s3 σ3 H3 X.xe I3 (stat fr3) st3 go) λr s4 ⟨u,hr,h4⟩=> ?_)
  subst hr;refine jk hp (zR h4 λ_ s5 ⟨x,H5,I5,r5,y5,st5,fr5⟩=> ?_);have I5':=I5.pinned (stat fr5) (T.obj _ _ st5);refine jk hp (zR (hg _ s5 σ3 H5 x u _ I5' r5 (step x H5 y5)) λ_ s6 ⟨σ6,H6,I6,q6⟩=> ?_);refine jk hp (zR (hb _ s6 σ6 H6 _ I6 q6) λf s7 q7=> ?_);have again: ∀{σ7:St} {H7:Hp},z6 X (pins++tI fp s5.heap) σ7 H7 s7->N σ7 H7->∃m,m < n/\∃i σ' H',z6 X pins σ' H' s7/\tn i s7.heap/\(∀b∈fp,H' b=none)/\W i m σ' H':=λ{σ7 H7} I7 n7=>by
   obtain⟨m',hm,w7⟩:=hN σ7 H7 n7;refine⟨m',hm,i+1,σ7,H7,I7.unpinned,T.keep _ _ _ st5 λb hb o e=>(I7.pin (b,o) (al _ (al _ (qY hb e)))).1,λb hb=> ?_,w7⟩;obtain⟨o,e,d⟩:=T.obj _ _ st5 b hb;exact(I7.pin (b,o) (al _ (al _ (qY hb e)))).2.1
  cases f with
  | next=>obtain⟨σ7,H7,I7,n7⟩:=q7;exact again I7 n7
  | cont=>obtain⟨σ7,H7,I7,n7⟩:=q7;exact again I7 n7
  | brk=>obtain⟨σ7,H7,I7,q7⟩:=q7;exact⟨σ7,H7,I7.unpinned,q7⟩
  | ret v=>obtain⟨x7,σ7,H7,I7,r7,q7⟩:=q7;exact⟨x7,σ7,H7,I7.unpinned,r7,q7⟩
end
abbrev R2:=V->V->Hp->VK->Prop
def yI (X:Cx)(f:Value->Value->Sem Value)(r:R2):Prop:=
 ∀(pins:List (Addr×Obj)) (s:Shared) (σ:St) (H:Hp) (x y:V) (v u:Value) (Q:VK),z6 X pins σ H s->zT x v->zT y u->r x y H Q->
  bf (bt X.prog X.w) X.A (f v u) (EP X pins σ Q) X.xe s
def mY (X:Cx)(f:Value->Sem Value)(r:V->Hp->VK->Prop):Prop:=
 ∀(pins:List (Addr×Obj)) (s:Shared) (σ:St) (H:Hp) (x:V) (v:Value) (Q:VK),z6 X pins σ H s->zT x v->r x H Q->
  bf (bt X.prog X.w) X.A (f v) (EP X pins σ Q) X.xe s
def xO (X:Cx)(f:Value)(r:List V->Hp->VK->Prop):Prop:=
 ∀(pins:List (Addr×Obj)) (s:Shared) (σ:St) (H:Hp) (xs:List V) (us:List Value) (Q:VK),z6 X pins σ H s->zK xs us->r xs H Q->
  bf (bt X.prog X.w) X.A (call f us) (EP X pins σ Q) X.xe s
def zjK (X:Cx)(r:V->Hp->(Bool->Hp->Prop)->Prop):Prop:=
 ∀(pins:List (Addr×Obj)) (s:Shared) (σ:St) (H:Hp) (x:V) (v:Value) (Q:Bool->Hp->Prop),z6 X pins σ H s->zT x v->r x H Q->
  bf (bt X.prog X.w) X.A (truthy v) (TP X pins σ Q) X.xe s
def j7 (r:R2)(ta tb:TE):TE:=λσ H Q=>ta σ H λx H1=>tb σ H1 λy H2=>r x y H2 Q
def tUn (r:V->Hp->VK->Prop)(ta:TE):TE:=λσ H Q=>ta σ H λx H1=>r x H1 Q
def rI (C:Int->Int->Prop)(g:Int->Int->V):R2:=λx y H Q=> ∃i j,x= .int i/\y= .int j/\C i j/\Q (g i j) H
def pF (g:Int->Int->V):R2:=λx y H Q=> ∃i j,x= .int i/\y= .int j/\Q (g i j) H
def rU (g:Int->V):V->Hp->VK->Prop:=λx H Q=> ∃i,x= .int i/\Q (g i) H
section
variable {X:Cx} {a b c:Expr} {ta tb tc:TE} {pos:Pos}
theorem cA (ha:PE X a ta)(hb:PE X b tb){pins:List (Addr×Obj)}{s:Shared}{σ:St}{H:Hp}{R:V->V->Hp->Prop}(I:z6 X pins σ H s)
  (h:ta σ H λx H1=>tb σ H1 λy H2=>R x y H2) {Q:Value->Shared->Prop} {f:Value->Value->Sem Value}
  (hf: ∀v u s2 x y H2,z6 X pins σ H2 s2->zT x v->zT y u->R x y H2->bf (bt X.prog X.w) X.A (f v u) Q X.xe s2):
  bf (bt X.prog X.w) X.A (eval a X.env) (λv s₁=>bf (bt X.prog X.w) X.A (eval b X.env) (λu s₂=>bf (bt X.prog X.w) X.A (f v u) Q X.xe s₂) X.xe s₁) X.xe s:=by
 refine zR (ha pins s σ H _ I h) λv s1 ⟨x,H1,I1,r1,q1⟩=> ?_;refine zR (hb pins s1 σ H1 _ I1 q1) λu s2 ⟨y,H2,I2,r2,q2⟩=> ?_;exact hf v u s2 x y H2 I2 r1 r2 q2
theorem zou {op:Operator}{r:R2}(ho:yI X (binaryOp op) r)(ha:PE X a ta)(hb:PE X b tb):PE X (.BinOp a op b pos) (j7 r ta tb):=by
 (first | refine⟨?_⟩ | skip)
 intro pins s σ H Q I h;exact wpAny_BinOp (cA ha hb I h λv u s2 x y H2 I2 rx ry q=>ho pins s2 σ H2 x y v u Q I2 rx ry q)
theorem zoy {op:UnaryOp}{r:V->Hp->VK->Prop}(ho:mY X (unaryOp op) r)(ha:PE X a ta):PE X (.UnaryOp op a pos) (tUn r ta):=by
 (first | refine⟨?_⟩ | skip)
 intro pins s σ H Q I h;exact UnaryOp_ (zR (ha pins s σ H _ I h) λv s1 ⟨x,H1,I1,r1,q1⟩=>ho pins s1 σ H1 x v Q I1 r1 q1)
theorem gF {f:Value->Value->Sem Value}{C:Int->Int->Prop}{g:Int->Int->Int}
  (rule: ∀(i j:Int) (t u:Tok) (s:Shared) (Q:Value->Shared->Prop) (E:Value->Shared->Prop),C i j->Q (.int (g i j) s.toks) {s with toks:=s.toks+1} ->bf (bt X.prog X.w) X.A (f (.int i t) (.int j u)) Q E s):
  yI X f (rI C λi j=> .int (g i j)):=by
 (first | refine⟨?_⟩ | skip)
 intro pins s σ H x y v u Q I rx ry h;obtain⟨i,j,rfl,rfl,hc,q⟩:=h;obtain⟨t,rfl⟩:=rx;obtain⟨t',rfl⟩:=ry;exact rule i j t t' s _ _ hc ⟨.int (g i j),H,I.tok _,⟨_,rfl⟩,q⟩
theorem zhf {f:Value->Value->Sem Value}{g:Int->Int->Int}
  (rule: ∀(i j:Int) (t u:Tok) (s:Shared) (Q:Value->Shared->Prop) (E:Value->Shared->Prop),Q (.int (g i j) s.toks) {s with toks:=s.toks+1} ->bf (bt X.prog X.w) X.A (f (.int i t) (.int j u)) Q E s):
  yI X f (pF λi j=> .int (g i j)):=by
 (first | refine⟨?_⟩ | skip)
 intro pins s σ H x y v u Q I rx ry h;obtain⟨i,j,rfl,rfl,q⟩:=h;obtain⟨t,rfl⟩:=rx;obtain⟨t',rfl⟩:=ry;exact rule i j t t' s _ _ ⟨.int (g i j),H,I.tok _,⟨_,rfl⟩,q⟩
theorem zcl {f:Value->Value->Sem Value}{g:Int->Int->Bool}
  (rule: ∀(i j:Int) (t u:Tok) (s:Shared) (Q:Value->Shared->Prop) (E:Value->Shared->Prop),Q (.bool (g i j)) s->bf (bt X.prog X.w) X.A (f (.int i t) (.int j u)) Q E s):
  yI X f (pF λi j=> .bl (g i j)):=by
 (first | refine⟨?_⟩ | skip)
 intro pins s σ H x y v u Q I rx ry h;obtain⟨i,j,rfl,rfl,q⟩:=h;obtain⟨t,rfl⟩:=rx;obtain⟨t',rfl⟩:=ry;exact rule i j t t' s _ _ ⟨.bl (g i j),H,I,rfl,q⟩
def jD (i j:Int):Prop:=0<=j/\j<=1000000/\i.natAbs < 2 ^ 64
def eE (i j:Int):Prop:=(-(2 ^ 64) < i/\i < 2 ^ 64)∨(-(2 ^ 64) < j/\j < 2 ^ 64)
theorem eE.ok {i j:Int}(h:eE i j):IntMulOk i j:=by
 rcases h with⟨h1,h2⟩ | ⟨h1,h2⟩
 ·exact .of_left (intBits_le_64 h1 h2)
 ·exact .of_right (intBits_le_64 h1 h2)
theorem znF:yI X (binaryOp .Add) (pF λi j=> .int (i+j)):=zhf λ_ _ _ _ _ _ _ q=>add_int q
theorem znV:yI X (binaryOp .Sub) (pF λi j=> .int (i - j)):=zhf λ_ _ _ _ _ _ _ q=>sub_int q
theorem znR:yI X (binaryOp .Mult) (rI eE λi j=> .int (i * j)):=gF λ_ _ _ _ _ _ _ hc q=>mul_int q hc.ok
theorem znQ:yI X (binaryOp .Mod) (rI (λ_ j=>0 < j) λi j=> .int (i % j)):=gF λi j _ _ _ _ _ hc q=>by
 have h1:(0:Int) < j:=hc;exact mod_int' (by omega) (by rw[Int.fmod_eq_emod_of_nonneg i (by omega)];exact q)
theorem znU:yI X (binaryOp .Pow) (rI jD λi j=> .int (i ^ j.toNat)):=gF λ_ _ _ _ _ _ _ hc q=>pow_int_small hc.1 hc.2.1 hc.2.2 q
theorem unI {f:Value->Sem Value}{g:Int->Int}
  (rule: ∀(i:Int) (t:Tok) (s:Shared) (Q:Value->Shared->Prop) (E:Value->Shared->Prop),Q (.int (g i) s.toks) {s with toks:=s.toks+1} ->bf (bt X.prog X.w) X.A (f (.int i t)) Q E s):
  mY X f (rU λi=> .int (g i)):=by
 (first | refine⟨?_⟩ | skip)
 intro pins s σ H x v Q I rx h;obtain⟨i,rfl,q⟩:=h;obtain⟨t,rfl⟩:=rx;exact rule i t s _ _ ⟨.int (g i),H,I.tok _,⟨_,rfl⟩,q⟩
theorem zri:mY X (unaryOp .USub) (rU λi=> .int (-i)):=unI λ_ _ _ _ _ q=>neg_int q
end
section
variable {X:Cx} {a b c:Expr} {ta tb tc:TE} {pos:Pos}
theorem zfZ {pins:List (Addr×Obj)}{σ:St}{H:Hp}{s:Shared}{Q:VK}{k k':Bool}(I:z6 X pins σ H s)(q:Q (.bl k) H)(e:k=k'):EP X pins σ Q (.bool k') s:=by
 subst e;exact⟨.bl k,H,I,rfl,q⟩
theorem znP:yI X (compareOp .Lt) (pF λi j=> .bl (decide (i < j))):=zcl λ_ _ _ _ _ _ _ q=>lt_int q
theorem znL:yI X (compareOp .Gt) (pF λi j=> .bl (decide (j < i))):=zcl λ_ _ _ _ _ _ _ q=>gt_int q
theorem znK:yI X (compareOp .GtE) (pF λi j=> .bl (decide (j<=i))):=zcl λ_ _ _ _ _ _ _ q=>ge_int q
theorem znN:yI X (compareOp .In) (λx y H Q=> ∃i j,x= .str i/\y= .str j/\Q (.bl (!(Builtin.Str.occurrences j i 0 j.length 1).isEmpty)) H):=by
 (first | refine⟨?_⟩ | skip)
 intro pins s σ H x y v u Q I rx ry h;obtain⟨i,j,rfl,rfl,q⟩:=h;obtain⟨t,rfl⟩:=rx;obtain⟨t',rfl⟩:=ry;exact in_str (zfZ I q rfl)
theorem znO:yI X (compareOp .Is) (λx y H Q=>y= .non/\Q (.bl (decide (x= .non))) H):=by
 (first | refine⟨?_⟩ | skip)
 intro pins s σ H x y v u Q I rx ry h;obtain⟨rfl,q⟩:=h;cases ry;refine is_none_gen (zfZ I q ?_);cases x <;> first
  | (cases rx;rfl)
  | (obtain⟨t,rfl⟩:=rx;rfl)
theorem sM (b:Expr){op:CmpOp}(h:op≠ .In:=by decide)(h2:op≠ .NotIn:=by decide):behindInMarks op b=false:=by
 have e1:(op==CmpOp.In)=false:=by cases op <;> first | rfl | exact absurd rfl h
 have e2:(op==CmpOp.NotIn)=false:=by cases op <;> first | rfl | exact absurd rfl h2
 cases b <;> simp[behindInMarks,e1,e2]
theorem zok {op:CmpOp}{r:R2}(ho:yI X (compareOp op) r)(ha:PE X a ta)(hb:PE X b tb)(hm:behindInMarks op b=false):PE X (.Compare a [op] [b] pos) (j7 r ta tb):=by
 (first | refine⟨?_⟩ | skip)
 intro pins s σ H Q I h;exact wpAny_Compare1 (cA ha hb I h λv u s2 x y H2 I2 rx ry q=>ho pins s2 σ H2 x y v u Q I2 rx ry q) hm
def ziv (t:TE):TT:=λσ H Q=>t σ H λx H'=> ∃k,x= .bl k/\Q k H'
theorem zoZ {op:CmpOp}{r:R2}(ho:yI X (compareOp op) r)(ha:PE X a ta)(hb:PE X b tb)(hm:behindInMarks op b=false):PT X (.Compare a [op] [b] pos) (ziv (j7 r ta tb)):=by
 (first | refine⟨?_⟩ | skip)
 intro pins s σ H Q I h;refine wpAny_isTrue_Compare1 (zR (ha pins s σ H _ I h) λv s1 ⟨x,H1,I1,r1,q1⟩=>zR (hb pins s1 σ H1 _ I1 q1) λu s2 ⟨y,H2,I2,r2,q2⟩=>
  zR (ho pins s2 σ H2 x y v u _ I2 r1 r2 q2) λc s3 ⟨z,H3,I3,r3,k,e,q3⟩=> ?_) hm
 subst e;cases r3;exact jw ⟨H3,I3,q3⟩
def dW (K:Frag)(x:V)(H:Hp)(k:Bool):Prop:=
 match x with
 | .non=>k=false
 | .bl b=>k=b
 | .int i=>k=(i !=0)
 | .str y=>y.length<=sizeLine/\k=((y.length:Int) !=0)
 | .byt y=>y.size<=sizeLine/\k=((y.size:Int) !=0)
 | .ref p=>(∃xs,yE K H p xs/\k= !xs.isEmpty)∨(∃xs,x5 K H p xs/\k= !xs.isEmpty)∨∃kvs,H p=some (.dK kvs)/\k= !kvs.isEmpty
 | _=>False
theorem zlJ {κ:Type}{kvs:List (κ×V)}{vs:List (κ×Value)}(r:KV kvs vs):(!vs.isEmpty)= !kvs.isEmpty:=by
 cases r <;> rfl
theorem zgu {xs:List V}{its:List Value}(r:zK xs its):(!its.toArray.isEmpty)= !xs.isEmpty:=by
 cases r <;> simp
theorem nP:(sizeLine:Nat) < 2 ^ 63:=by rw[cp];decide
theorem zqY:zjK X (λx H Q=> ∃k,dW X.K x H k/\Q k H):=by
 (first | refine⟨?_⟩ | skip)
 intro pins s σ H x v Q I rx h;obtain⟨k,e,q⟩:=h;have hl:=nP;have hs:sizeLine=16777216:=cp;cases x with
 | non=>
  cases rx;have e':k=false:=e;subst e';exact truthy_none ⟨H,I,q⟩
 | bl b=>
  cases rx;have e':k=b:=e;subst e';exact jw ⟨H,I,q⟩
 | int i=>
  obtain⟨t,rfl⟩:=rx;have e':k=(i !=0):=e;subst e';exact PySem.P.truthy_int ⟨H,I,q⟩
 | str y=>
  obtain⟨t,rfl⟩:=rx;obtain⟨hy,e'⟩:y.length<=sizeLine/\k=((y.length:Int) !=0):=e;subst e';exact PySem.P.truthy_str (by omega) ⟨H,I.tok _,q⟩
 | byt y=>
  obtain⟨t,rfl⟩:=rx;obtain⟨hy,e'⟩:y.size<=sizeLine/\k=((y.size:Int) !=0):=e;subst e';exact PySem.W.truthy_bytes (by omega) ⟨H,I.tok _,q⟩
 | ref p=>
  cases rx;have e':(∃xs,yE X.K H p xs/\k= !xs.isEmpty)∨(∃xs,x5 X.K H p xs/\k= !xs.isEmpty)∨∃kvs,H p=some (.dK kvs)/\k= !kvs.isEmpty:=e;rcases e' with⟨xs,hx,e'⟩ | ⟨xs,hx,e'⟩ | ⟨kvs,hx,e'⟩
  ·subst e'
   obtain⟨its,r,pl,hz⟩:=I.list hx;have hlen:=r.length;exact wpAny_truthy_list pl.isList (by simp only[bo];omega) ⟨H,I.tok _,by rw[zgu r];exact q⟩
  ·subst e'
   obtain⟨its,r,pl,hz⟩:=I.tuple hx;have hlen:=r.length;exact truthy_tuple pl (by simp only[bo];omega) ⟨H,I.tok _,by rw[zgu r];exact q⟩
  ·subst e'
   obtain⟨hz,hS,vs,r,m⟩:kvs.length<=sizeLine/\(p==sysModules)=false/\∃vs,KV kvs vs/\s.heap.DictOf (xN X.prog X.w) p vs:=I.hok p _ hx;have hlen:kvs.length=vs.length:=ib r;exact wpAny_truthy_dict hS m (by omega) ⟨H,I.tok _,by rw[zlJ r];exact q⟩
 | _=>exact(show False from e).elim
theorem zpb (ha:PE X a ta)(he: ∀whole,isTrue a X.env whole=(do let v <- whole;standAt a.pos;holding [v] (truthy v))):
  PT X a (λσ H Q=>ta σ H λx H'=> ∃k,dW X.K x H' k/\Q k H'):=by
 (first | refine⟨?_⟩ | skip)
 intro pins s σ H Q I h;exact isTrue_plain (zR (ha pins s σ H _ I h) λv s1 ⟨x,H1,I1,r1,q1⟩=>zqY pins s1 σ H1 x v Q I1 r1 q1) (he _)
theorem znG:yI X (binaryOp .Add) (λx y H Q=> ∃i j,x= .str i/\y= .str j/\i.length+j.length<=sizeLine/\Q (.str (i++j)) H):=by
 (first | refine⟨?_⟩ | skip)
 intro pins s σ H x y v u Q I rx ry h;obtain⟨i,j,rfl,rfl,hz,q⟩:=h;obtain⟨t,rfl⟩:=rx;obtain⟨t',rfl⟩:=ry;exact add_str (λt' tk=>⟨.str (i++j),H,I.tok _,⟨_,rfl⟩,q⟩) hz
theorem uC {x:V}{us:List Value}(r:zK [x] us): ∃u,us= [u]/\zT x u:=by
 cases r with
 | cons r1 r2=>cases r2;exact⟨_,rfl,r1⟩
theorem zr2 {x y:V}{us:List Value}(r:zK [x,y] us): ∃u w',us= [u,w']/\zT x u/\zT y w':=by
 cases r with
 | cons r1 r2=>
  cases r2 with
  | cons r3 r4=>cases r4;exact⟨_,_,rfl,r1,r3⟩
theorem ze2:xO X (.type "int") (λxs H Q=>(∃i,xs= [.int i]/\Q (.int i) H)∨∃k,xs= [.bl k]/\Q (.int (if k then 1 else 0)) H):=by
 (first | refine⟨?_⟩ | skip)
 intro pins s σ H xs us Q I r h;rcases h with⟨i,rfl,q⟩ | ⟨k,rfl,q⟩
 ·obtain⟨u,rfl,t,rfl⟩:=uC r
  exact call_int_int ⟨.int i,H,I,⟨_,rfl⟩,q⟩
 ·obtain⟨u,rfl,r1⟩:=uC r
  cases r1;exact call_int_bool ⟨.int (if k then 1 else 0),H,I.tok _,⟨_,rfl⟩,q⟩
def zj_ (K:Frag)(x:V)(H:Hp)(n:Nat):Prop:=
 match x with
 | .str y=>y.length<=sizeLine/\n=y.length
 | .byt y=>y.size<=sizeLine/\n=y.size
 | .ref p=>(∃xs,yE K H p xs/\n=xs.length)∨∃xs,x5 K H p xs/\n=xs.length
 | _=>False
theorem iD:xO X (.builtin "len") (λxs H Q=> ∃x n,xs= [x]/\zj_ X.K x H n/\Q (.int n) H):=by
 (first | refine⟨?_⟩ | skip)
 intro pins s σ H xs us Q I r h;obtain⟨x,n,rfl,e,q⟩:=h;obtain⟨u,rfl,rx⟩:=uC r;have hl:=nP;have hs:sizeLine=16777216:=cp;cases x with
 | str y=>
  obtain⟨t,rfl⟩:=rx;obtain⟨hy,e'⟩:y.length<=sizeLine/\n=y.length:=e;subst e';exact len_str (by omega) ⟨.int _,H,I.tok _,⟨_,rfl⟩,q⟩
 | byt y=>
  obtain⟨t,rfl⟩:=rx;obtain⟨hy,e'⟩:y.size<=sizeLine/\n=y.size:=e;subst e';exact PySem.W.len_bytes (by omega) ⟨.int _,H,I.tok _,⟨_,rfl⟩,q⟩
 | ref p=>
  cases rx;have e':(∃xs,yE X.K H p xs/\n=xs.length)∨∃xs,x5 X.K H p xs/\n=xs.length:=e;rcases e' with⟨xs,hx,e'⟩ | ⟨xs,hx,e'⟩
  ·subst e'
   obtain⟨its,r',pl,hz⟩:=I.list hx;have hlen:=r'.length;exact Calls.call_len_list pl.isList (by simp only[bo];omega) ⟨.int xs.length,H,I.tok _,⟨_,by simp only[bo];rw[hlen]⟩,q⟩
  ·subst e'
   obtain⟨its,r',pl,hz⟩:=I.tuple hx;have hlen:=r'.length;exact len_tuple pl (by simp only[bo];omega) ⟨.int xs.length,H,I.tok _,⟨_,by simp only[bo];rw[hlen]⟩,q⟩
 | _=>exact(show False from e).elim
end
theorem sY.some_of {v:V}{o:Option Value}(r:sY (some v) o): ∃u,o=some u/\zT v u:=by
 cases o with
 | none=>exact(show False from r).elim
 | some u=>exact⟨u,rfl,r⟩
structure zU (k:Nat)(A:Around):Prop where
 hd:A.handled=none
 dp:A.depth+3 * k+5 < recursionLimit
 un:A.units+16 * k+200 < cLine
theorem zU.mono {j k:Nat}{A:Around}(r:zU k A)(h:j<=k):zU j A:=⟨r.hd,by have:=r.dp;omega,by have:=r.un;omega⟩
theorem zU.deeper {k:Nat}{A:Around}(r:zU (k+1) A)(env:Env):zU k (A.deeper env):=
 ⟨r.hd,by have:=r.dp;show A.depth+1+3 * k+5 < _;omega,by have:=r.un;show A.units+3+16 * k+200 < _;omega⟩
theorem zU.depth {k:Nat}{A:Around}(r:zU k A):A.depth < recursionLimit:=by have:=r.dp;omega
theorem zU.units {k:Nat}{A:Around}(r:zU k A):A.units+64 < cLine:=by have:=r.un;omega
def zis:TA:=λ_ H Q=>Q [] H
def zdj (ta:TE)(tr:TA):TA:=λσ H Q=>ta σ H λx H1=>tr σ H1 λxs H2=>Q (x::xs) H2
section
variable {X:Cx} {e:Expr} {es:List Expr} {te:TE} {t:TA} {pos:Pos}
theorem zhn:PA X [] zis:=⟨λ_ _ _ _ H Q I h=>qd ⟨[],H,I,.nil,h⟩⟩
theorem zcm (ha:PE X e te)(hr:PA X es t)(hs:starEach (e::es) X.env=(false,eval e X.env)::starEach es X.env:=by rfl):PA X (e::es) (zdj te t):=by
 (first | refine⟨?_⟩ | skip)
 intro pos pins s σ H Q I h;rw[hs];show bf _ _ (spliced ((false,eval e X.env)::backTo pos (starEach es X.env))) _ _ s;refine pb (zR (ha pins s σ H _ I h) λu s1 ⟨x,H1,I1,r1,q1⟩=> ?_);exact zR (hr pos pins s1 σ H1 _ I1 q1) λus s2 ⟨xs,H2,I2,r2,q2⟩=>⟨x::xs,H2,I2,.cons r1 r2,q2⟩
def ziw (t:TA):TE:=λσ H Q=>t σ H λxs H1=>xs.length<=sizeLine/\∀p,H1 p=none->Q (.ref p) (zI H1 p (.tup xs))
def zqC (t:TA):TE:=λσ H Q=>t σ H λxs H1=>xs.length<=sizeLine/\∀p,H1 p=none->Q (.ref p) (zI H1 p (.lst xs))
theorem zhv {x1}(h:PA X es t):PE X (.Tuple es x1 pos) (ziw t):=by
 (first | refine⟨?_⟩ | skip)
 intro pins s σ H Q I hq;refine wpAny_Tuple_spliced (zR (h pos pins s σ H _ I hq) λus s1 ⟨xs,H1,I1,r,z,q⟩=>⟨by rw[<- r.length];exact z,?_⟩);have hf:H1 s1.heap.objs.size=none:=I1.hok.fresh (ak _);refine⟨.ref s1.heap.objs.size,zI H1 s1.heap.objs.size (.tup xs),I1.laid (t':=s1.toks) (λb u e=>ar _ e) (ak _) ?_,rfl,q _ hf⟩;exact⟨z,us,r,⟨_,cb _ rfl,rfl,_,rfl,rfl⟩⟩
theorem zhu (h:PA X es t):PE X (.List es pos) (zqC t):=by
 (first | refine⟨?_⟩ | skip)
 intro pins s σ H Q I hq;refine wpAny_List_spliced (zR (h pos pins s σ H _ I hq) λus s1 ⟨xs,H1,I1,r,z,q⟩=>⟨by rw[<- r.length];exact z,?_⟩);have hf:H1 s1.heap.objs.size=none:=I1.hok.fresh (ak _);refine⟨.ref s1.heap.objs.size,zI H1 s1.heap.objs.size (.lst xs),I1.laid (t':=s1.toks) (λb u e=>ar _ e) (ak _) ?_,rfl,q _ hf⟩;exact⟨z,us,0,r,cb _ rfl⟩
end
abbrev Sp:=List V->Hp->VK->XK->Prop
abbrev sV:=List Env->Hp->Shared->XK->Value->Shared->Prop
structure jF (P:Program)(w:World)(K:Frag)(mg:Str->Option Value)(base:Heap)(A:Around)(outer:List Env)(s:Shared)(H:Hp):Prop where
 frames:A.frames=some outer
 mod:Mod K mg base
 bs: ∀b o,base.get? b=some o->s.heap.get? b=some o/\H b=none
 bsz:base.objs.size<=s.heap.objs.size
 funs:s.heap.FunFrames base outer
 frf: ∀b∈vA outer,H b=none
 hok:xK P w H s.heap
 bare:AllBare s.gens
def CE (outer:List Env)(P:Program)(w:World)(H:Hp)(s:Shared)(Q:VK)(u:Value)(s':Shared):Prop:=
 ∃v H',s'.os=s.os/\AllBare s'.gens/\Un (vA outer) [] H H' s.heap s'.heap/\xK P w H' s'.heap/\zT v u/\Q v H'
def CR (CX:sV)(outer:List Env)(P:Program)(w:World)(H:Hp)(s:Shared)(Q:VK)(E:XK)(r:Result)(s':Shared):Prop:=
 match r with
 | .ok (.ret u)=>CE outer P w H s Q u s'
 | .ok _=>False
 | .error e=>CX outer H s E e s'
structure yG (P:Program)(w:World)(K:Frag)(mg:Str->Option Value)(base:Heap)(CX:sV)(k:Nat)(f:Addr)(fd:FuncData)(ps:List Str)(sp:Sp):Prop where
 len: ∀vs H Q E,sp vs H Q E->vs.length=ps.length
 run: ∀(A:Around) (outer:List Env) (s:Shared) (H:Hp) (args:Args) (us:List Value) (vs:List V) (Q:VK) (E:XK),zU k A->jF P w K mg base A outer s H->BindsTo s fd args (ps.zip us)->zK vs us->sp vs H Q E->
  codeAny (bt P w) A (.call (.ref f) args) (CR CX outer P w H s Q E) s
section
variable {X:Cx} {pins:List (Addr×Obj)} {σ:St} {H:Hp} {s s':Shared}
theorem z6.env0 (I:z6 X pins σ H s):jF X.prog X.w X.K X.mg X.base X.A X.stack s H:=
 ⟨I.ok.frames,I.ok.mod,I.bs,bq I.ok.bsz I.sz,I.stack,I.stkFree,I.hok,I.bare⟩
theorem z6.after {Q:VK}{u:Value}(I:z6 X pins σ H s)(h:CE X.stack X.prog X.w H s Q u s'):EP X pins σ Q u s':=by
 obtain⟨v,H',os,bare,un,hok,r,q⟩:=h;obtain⟨hh,g,d,t,os'⟩:=s';obtain rfl:os'=s.os:=os;exact⟨v,H',I.call (h':=hh) (g':=g) (d':=d) (t':=t) (ch:= []) un hok bare (λb z=>absurd z (by simp)),r,q⟩
end
def zq7 (sp:Sp)(dvs:List V)(E:XK)(t:TA):TE:=λσ H Q=>t σ H λvs H1=>sp (vs++dvs) H1 Q E
def tP (K:Frag)(fd:FuncData)(ps:List Str)(ds:List Value):Prop:=
 ∀(s:Shared) (us:List Value),K.In s.heap->(us++ds).length=ps.length->BindsTo s fd ⟨us,[]⟩ (ps.zip (us++ds))
theorem tP.all {K:Frag}{fd:FuncData}{ps:List Str}(h: ∀us:List Value,us.length=ps.length->bindArgs fd ⟨us,[]⟩=pure (ps.zip us)):tP K fd ps []:=λs us _ hl=>by
 rw[db]at hl⊢
 exact .of_eq (h us hl)
def dL (CX:sV)(X:Cx)(E:XK):Prop:= ∀(pins:List (Addr×Obj)) (σ:St) (H:Hp) (s:Shared) (e:Value) (s':Shared),z6 X pins σ H s->CX X.stack H s E e s'->X.xe e s'
section
variable {X:Cx} {CX:sV} {k:Nat} {f C:Addr} {fd:FuncData} {ps:List Str} {sp:Sp} {dvs:List V} {ds:List Value} {E:XK} {x m:Str} {p pos apos:Pos} {e o:Expr} {es:List Expr} {ta:TE} {t:TA}
theorem zpG {pins:List (Addr×Obj)}{σ:St}{H:Hp}{s:Shared}{Q:VK}{us:List Value}{vs:List V}(F:yG X.prog X.w X.K X.mg X.base CX k f fd ps sp)(hr:zU k X.A)(hb:tP X.K fd ps ds)(hd:zK dvs ds)(hx:dL CX X E)
  (I:z6 X pins σ H s) (r:zK vs us) (h:sp (vs++dvs) H Q E):bf (bt X.prog X.w) X.A (call (.ref f) us) (EP X pins σ Q) X.xe s:=by
 have r2:zK (vs++dvs) (us++ds):=r.append hd;have hl:(us++ds).length=ps.length:=by rw[<- r2.length];exact F.len _ _ _ _ h
 refine wpAny_call (vq (F.run X.A X.stack s H ⟨us,[]⟩ (us++ds) (vs++dvs) Q E hr I.env0 (hb s us I.kIn hl) r2 h) λr s' hq=> ?_);cases r with
 | error e=>exact hx pins σ H s e s' I hq
 | ok fl=>
  cases fl with
  | ret u=>exact I.after hq
  | next=>exact False.elim hq
  | brk=>exact False.elim hq
  | cont=>exact False.elim hq
theorem zoh (F:yG X.prog X.w X.K X.mg X.base CX k f fd ps sp)(hr:zU k X.A)(hg:Gl X x)(hm:X.mg x=some (.ref f))(hk:keepIn X.K (.ref f)=true)(hb:tP X.K fd ps ds)(hd:zK dvs ds)(hx:dL CX X E)
  (ha:PA X (e::es) t) (hdb:(x==("__debug__" :Str))=false:=by decide) (he:starEach (e::es) X.env=(false,eval e X.env)::starEach es X.env:=by rfl) (hpl:(backTo pos (starEach es X.env)).any (·.1)=false:=by rfl):
  PE X (.Call (.Name x p) (e::es) [] pos) (zq7 sp dvs E t):=by
 (first | refine⟨?_⟩ | skip)
 intro pins s σ H Q I h;refine iz (zmk I hg hm ?_ hdb);refine PySem.W.callWith_K (h₀:=X.base) I.ok.mod.kin hk (zR (ha pos pins s σ H _ I h) λus s1 ⟨vs,H1,I1,r,q⟩=>⟨I1.kIn,?_⟩) he hpl;exact zpG F hr hb hd hx I1 r q
end
structure PK (X:Cx)(kws:List Keyword)(t:TA):Prop where
 run:
  ∀(pos:Pos) (pins:List (Addr×Obj)) (s:Shared) (σ:St) (H:Hp) (Q:List V->Hp->Prop),z6 X pins σ H s->t σ H Q->bf (bt X.prog X.w) X.A (evalAll ((backToKw pos (keywordEach kws X.env)).map (·.2))) (AP X pins σ Q) X.xe s
instance {X:Cx} {kws:List Keyword} {t:TA} :CoeFun (PK X kws t) λ_=>
 ∀(pos:Pos) (pins:List (Addr×Obj)) (s:Shared) (σ:St) (H:Hp) (Q:List V->Hp->Prop),z6 X pins σ H s->t σ H Q->bf (bt X.prog X.w) X.A (evalAll ((backToKw pos (keywordEach kws X.env)).map (·.2))) (AP X pins σ Q) X.xe s
  :=⟨PK.run⟩
structure yW (N P:List Str)(sc:Scope):Prop where
 kind:sc.kind= .function
 co:sc.isCoroutine=false
 gen:sc.isGenerator=false
 nd:N.Nodup
 pre:N.take P.length=P
 par: ∀x∈P,sc.names.lookup x=some .local∨sc.names.lookup x=some .cell
 nofree: ∀y∈sc.names,y.2≠ .free
theorem zew {kindOf:Str->Option NameKind}{x:Str} : ∀{binds:List (Str×Value)} {m:Str->Option Value},(∀v,(x,v)∉binds)->bindL kindOf binds m x=m x
 | [],_,_=>rfl
 | (n,v)::r,m,h=>by
  unfold bindL;rw[zew λw hw=>h w (ce _ hw)]
  split
  ·have:x≠n:=by rintro rfl;exact h v bz
   simp[this]
  ·rfl
theorem zeu {kindOf:Str->Option NameKind}{x:Str} : ∀{binds:List (Str×Value)} {m:Str->Option Value},(∀v,(x,v)∉binds)->bindC kindOf binds m x=m x
 | [],_,_=>rfl
 | (n,v)::r,m,h=>by
  unfold bindC;rw[zeu λw hw=>h w (ce _ hw)]
  split
  ·rfl
  ·have:x≠n:=by rintro rfl;exact h v bz
   simp[this]
theorem zev {kindOf:Str->Option NameKind}{x:Str}{v:Value} : ∀{P:List Str} {vs:List Value} {i:Nat} {m:Str->Option Value},P.Nodup->P[i]?=some x->vs[i]?=some v->kindOf x=some .local->
  bindL kindOf (P.zip vs) m x=some v
 | [],_,_,_,_,h,_,_=>by simp at h
 | _::_,[],_,_,_,_,h,_=>by simp at h
 | p::P,w::vs,0,m,nd,h1,h2,hk=>by
  simp at h1 h2;subst h1;subst h2;show bindL kindOf ((p,w)::P.zip vs) m p=_;unfold bindL;rw[zew λv hv=>(di.mp nd).1 (sk hv).1,if_pos hk];simp
 | p::P,w::vs,i+1,m,nd,h1,h2,hk=>by
  show bindL kindOf ((p,w)::P.zip vs) m x=_;unfold bindL;exact zev (i:=i) (di.mp nd).2 (by simpa using h1) (by simpa using h2) hk
theorem zet {kindOf:Str->Option NameKind}{x:Str}{v:Value} : ∀{P:List Str} {vs:List Value} {i:Nat} {m:Str->Option Value},P.Nodup->P[i]?=some x->vs[i]?=some v->kindOf x≠some .local->
  bindC kindOf (P.zip vs) m x=some v
 | [],_,_,_,_,h,_,_=>by simp at h
 | _::_,[],_,_,_,_,h,_=>by simp at h
 | p::P,w::vs,0,m,nd,h1,h2,hk=>by
  simp at h1 h2;subst h1;subst h2;show bindC kindOf ((p,w)::P.zip vs) m p=_;unfold bindC;rw[zeu λv hv=>(di.mp nd).1 (sk hv).1,if_neg hk];simp
 | p::P,w::vs,i+1,m,nd,h1,h2,hk=>by
  show bindC kindOf ((p,w)::P.zip vs) m x=_;unfold bindC;exact zet (i:=i) (di.mp nd).2 (by simpa using h1) (by simpa using h2) hk
def start (N:List Str)(vs:List V):St:=vs.map some++List.replicate (N.length - vs.length) none
def o3 (CX:sV)(P:Program)(w:World)(K:Frag)(mg:Str->Option Value)(base:Heap)(N:List Str)(qual:Str)(scope:Scope)(f:Addr)(cd:Value)(A:Around)(outer:List Env)(s:Shared)(H:Hp)(E:XK):Cx where
 prog:=P
 w:=w
 K:=K
 mg:=mg
 base:=base
 A:=A.deeper (envOfC qual scope s.heap.objs.size f cd)
 N:=N
 s₀:=s
 H₀:=H
 env:=envOfC qual scope s.heap.objs.size f cd
 outer:=outer
 stack:=envOfC qual scope s.heap.objs.size f cd::outer
 ex:= []
 calm:=true
 fn:=λ_=>true
 pn:= []
 xe:=λe s'=>bf (bt P w) (A.deeper (envOfC qual scope s.heap.objs.size f cd)) (leaving (envOfC qual scope s.heap.objs.size f cd) e) (λ_ s''=>CX outer H s E e s'') (λe' s''=>CX outer H s E e' s'') s'
theorem ze5 {sc:Scope}{n:Nat}{x:Str}(h:sc.names.lookup x=some .cell): ∃c,(cellsFrom n sc.names []).lookup x=some c:=by
 have q:=tz sc.names n [] (.inl h);exact qm.mp q
theorem zlI {CX:sV}{P:Program}{w:World}{K:Frag}{mg:Str->Option Value}{base:Heap}{N ps:List Str}{qual:Str}{scope:Scope}{f:Addr}{cd:Value}{A:Around}{outer:List Env}{s s1:Shared}{H:Hp}{E:XK}{us:List Value}{vs:List V}
  (S:yW N ps scope) (hd:A.handled=none) (e0:jF P w K mg base A outer s H) (hl:vs.length=ps.length) (r:zK vs us)
  (x:InCallC s s.heap.objs.size (bindL (envOfC qual scope s.heap.objs.size f cd).kindOf (ps.zip us) λ_=>none) (cellsFrom (s.heap.objs.size+1) scope.names []) (bindC (envOfC qual scope s.heap.objs.size f cd).kindOf (ps.zip us) λ_=>none) s1):
  z6 (o3 CX P w K mg base N qual scope f cd A outer s H E) [] (start N vs) H s1:=by
 have hpl:ps.length<=N.length:=by have:=congrArg List.length S.pre;rw[cf]at this;omega
 obtain⟨h1,tk,rfl,hk⟩:=x.done;have noA: ∀b:Addr,b∉(o3 CX P w K mg base N qual scope f cd A outer s H E).ex:=λb z=>absurd (show b∈([]:List Addr)from z) (by simp);refine⟨⟨e0.mod,S.kind,rfl,rfl,ak _,λy z c h1 h2=> ?_,λy hy=> ?_,λy c _ h=> ?_,λ_=>hd,Around.frames_deeper e0.frames,.inr ⟨rfl,rfl⟩,λb z=>absurd z (noA b),e0.bs,e0.bsz,λb _ _=>noA b,λb z=>absurd z (noA b),e0.funs,e0.frf⟩,
  rfl,e0.bare,Un.kept hk,⟨_,x.toInCall.ns,λi y v h1 h2 h3=> ?_⟩,λy c h=>⟨_,x.cell y c h⟩,e0.hok.fresh (ak _),λy c h=> ?_,λp hp=>absurd (show p∈([]:List (Addr×Obj))from hp) (by simp),e0.hok.kept hk,?_⟩
 ·exact name_of_addr x.apart (fo h1) (fo h2)
 ·have hy:scope.names.lookup y=some .cell∨scope.names.lookup y=some .free:=hy
  rcases hy with hy | hy
  ·exact ze5 hy
  ·exact absurd rfl (S.nofree _ (fo hy))
 ·exact iq (x.above y c (fo h))
 ·have hi:i < vs.length:=by
   unfold start at h2;by_cases hi:i < vs.length
   ·exact hi
   ·rw[aj (by simpa using hi)]at h2
    rw[gk]at h2
    split at h2 <;> cases h2
  have ha:vs[i]?=some v:=by
   unfold start at h2;rw[ax (by simpa using hi),aw]at h2;cases e:vs[i]? with
   | none=>rw[e]at h2;cases h2
   | some a=>rw[e]at h2;cases h2;rfl
  obtain⟨u,hu,rv⟩:=r.get ha;have hp:ps[i]?=some y:=by
   rw[<- S.pre,dw (by omega)];exact h1
  have ndP:ps.Nodup:=by rw[<- S.pre];exact S.nd.sublist (jy _ _)
  refine⟨u,rv,?_⟩;rcases S.par y (cj hp)with k | k
  ·exact .inl ⟨k,zev ndP hp hu k⟩
  ·obtain⟨c,e⟩:=ze5 (n:=s.heap.objs.size+1) k
   refine .inr ⟨.inl k,c,e,?_⟩;have q:=x.cell y c e;rw[zet ndP hp hu (by show scope.names.lookup y≠_;rw[k];decide)]at q;exact q
 ·exact e0.hok.fresh (iq (x.above y c (fo h)))
 ·unfold start
  show _=N.length;rw[af,aa,dq];omega
theorem zlt {CX:sV}{P:Program}{w:World}{K:Frag}{mg:Str->Option Value}{base:Heap}{k:Nat}{f:Addr}{name qual:Str}{params:Arguments}{body:List Stmt}{scope:Scope}{dV kV doc pm cdv ct oc:Value}{an od:Option Addr}
  {osl:Array (Option Value)} {N ps:List Str} {sp:Sp} (lk:K.lookup f=some ⟨oc,od,.func (fnOf name qual params body scope dV kV doc pm an cdv ct),osl⟩) (hcd:codeIn K cdv qual=true) (S:yW N ps scope)
  (len: ∀vs H Q E,sp vs H Q E->vs.length=ps.length)
  (hbody: ∀(A:Around) (outer:List Env) (s:Shared) (H:Hp) (vs:List V) (Q:VK) (E:XK),zU k (A.deeper (envOfC qual scope s.heap.objs.size f cdv))->sp vs H Q E->
   ∃t,xB (o3 CX P w K mg base N qual scope f cdv A outer s H E) body t/\t {nx:=λ_ H'=>Q .non H',rt:=Q} (start N vs) H):
  yG P w K mg base CX (k+1) f (fnOf name qual params body scope dV kV doc pm an cdv ct) ps sp:=by
 refine⟨len,λA outer s H args us vs Q E hr e0 hb r hsp=> ?_⟩;have hl:=len _ _ _ _ hsp;have KX:K.In s.heap:=e0.mod.kin.keeps λb o e=>(e0.bs b o e).1;have lim:s.heap.NoLimit:=e0.mod.nolimit.keeps λb o e=>(e0.bs b o e).1;have hkind: ∀y∈ps.zip us,scope.names.lookup y.1=some .local∨(scope.names.lookup y.1=some .cell/\((cellsFrom (s.heap.objs.size+1) scope.names []).lookup y.1).isSome=true):=λ⟨n,v⟩ hy=>by
  rcases S.par n (sk hy).1 with q | q
  ·exact .inl q
  ·exact .inr ⟨q,tz _ _ _ (.inl q)⟩
 refine codeAny_call_function hr.depth (KX _ _ lk) rfl S.co S.gen rfl (PySem.W.codeRec_of KX hcd) (hb _ _ _ _ ?_);refine wpAny_newFunctionEnv_cells S.kind hkind λenv he s1 x=> ?_;subst he;refine⟨lim.keeps x.toInCall.keep,codeAny_func ?_⟩;obtain⟨t,ht,hq⟩:=hbody A outer s H vs Q E (hr.deeper _) hsp;have I:z6 (o3 CX P w K mg base N qual scope f cdv A outer s H E) [] (start N vs) H s1:=zlI S hr.hd e0 hl r x;refine jc (ht [] s1 (start N vs) H _ I hq) (λfl s' hs=> ?_) λe s' hs=>hs;have fin: ∀{σ':St} {H':Hp} {v:V} {u:Value},z6 (o3 CX P w K mg base N qual scope f cdv A outer s H E) [] σ' H' s'->zT v u->Q v H'->CE outer P w H s Q u s':=
  λ{σ' H' v u} J rv q=>⟨v,H',J.os,J.bare,J.base,J.hok,rv,q⟩
 cases fl with
 | ret u=>
  obtain⟨v,σ',H',J,rv,q⟩:=hs;exact fin J rv q
 | next=>
  obtain⟨σ',H',J,q⟩:=hs;exact fin (v:=V.non) (u:=Value.none) J rfl q
 | brk=>
  obtain⟨_,_,_,q⟩:=hs;exact False.elim q
 | cont=>
  obtain⟨_,_,_,q⟩:=hs;exact False.elim q
section
variable {X:Cx} {x:Str} {p pos:Pos} {e:Expr} {es:List Expr} {t:TA} {id T:String} {r:List V->Hp->VK->Prop}
def tCB (r:List V->Hp->VK->Prop)(t:TA):TE:=λσ H Q=>t σ H λvs H1=>r vs H1 Q
theorem zoi (hc:xO X (.builtin id) r)(hg:Gl X x)(hm:X.mg x=none)(hv:bootBuiltins x=some (.builtin id))(ha:PA X (e::es) t)(hn:x≠ "__name__" :=by decide)(hdb:(x==("__debug__" :Str))=false:=by decide)
  (he:starEach (e::es) X.env=(false,eval e X.env)::starEach es X.env:=by rfl) (hpl:(backTo pos (starEach es X.env)).any (·.1)=false:=by rfl):PE X (.Call (.Name x p) (e::es) [] pos) (tCB r t):=by
 (first | refine⟨?_⟩ | skip)
 intro pins s σ H Q I h;refine iz (tY I hg hm hv ?_ hn hdb);exact PyProof.Rows.callWith_builtin1 (zR (ha pos pins s σ H _ I h) λus s1 ⟨vs,H1,I1,r1,q1⟩=>hc pins s1 σ H1 vs us Q I1 r1 q1) he hpl
theorem zoj (hc:xO X (.type T) r)(hg:Gl X x)(hm:X.mg x=none)(hv:bootBuiltins x=some (.type T))(ha:PA X (e::es) t)(hn:x≠ "__name__" :=by decide)(hdb:(x==("__debug__" :Str))=false:=by decide)
  (he:starEach (e::es) X.env=(false,eval e X.env)::starEach es X.env:=by rfl) (hpl:(backTo pos (starEach es X.env)).any (·.1)=false:=by rfl):PE X (.Call (.Name x p) (e::es) [] pos) (tCB r t):=by
 (first | refine⟨?_⟩ | skip)
 intro pins s σ H Q I h;refine iz (tY I hg hm hv ?_ hn hdb);exact callWith_type1 (zR (ha pos pins s σ H _ I h) λus s1 ⟨vs,H1,I1,r1,q1⟩=>hc pins s1 σ H1 vs us Q I1 r1 q1) he hpl
end
end L2
namespace HT
open PySem PyProof.Rows
section
variable {prog:Program} {w:World} {A:Around} {E:Value->Shared->Prop} {s:Shared}
theorem cat_tup {t b:Addr}{vs ws:List Value}{Q:Value->Shared->Prop}(ht:IsTup s.heap t vs.toArray)(hb:IsTup s.heap b ws.toArray)(hv:vs≠ [])
  (h1:ws= []->Q (.ref t) s) (h2:ws≠ []->Q (.ref s.heap.objs.size) {s with heap:=s.heap.push {cls:= .type "tuple",data:= .seq (vs++ws).toArray}})
  (hsz:vs.length+ws.length<=sizeLine):bf (bt prog w) A (binaryOp .Add (.ref t) (.ref b)) Q E s:=by
 obtain⟨⟨cls,dd,data,sl⟩,ho,hc,n,hd⟩:=id ht;obtain⟨⟨cls2,dd2,data2,sl2⟩,ho2,hc2,n2,hd2⟩:=id hb;simp only at hc hd hc2 hd2;subst hc hd hc2 hd2;have e:vs.toArray++ws.toArray=(vs++ws).toArray:=by simp
 by_cases hw:ws= []
 ·exact vt ⟨_,ho,rfl⟩ ⟨_,ho2,rfl⟩ qo vj nu nh (mr _ _)
   (tuple_addW1 t b vs.toArray ws.toArray n n2 dd dd2 sl sl2 (by simpa using hv) (by simp[hw])) ⟨ho,ho2,h1 hw⟩
 ·refine vt ⟨_,ho,rfl⟩ ⟨_,ho2,rfl⟩ qo vj nu nh (mr _ _)
   (tuple_addW2 t b vs.toArray ws.toArray n n2 dd dd2 sl sl2 (by simpa using hv) (by simpa using hw) (by rw[bo,bo];exact hsz)) ⟨ho,ho2,?_⟩
  rw[e];exact h2 hw
def sIx (n d:Nat):Option Int->Nat
 | none=>d
 | some v=>if v < 0 then(v+(n:Int)).toNat else min v.toNat n
theorem sIx_none (n d:Nat):sIx n d none=d:=rfl
theorem sIx_nat (n d k:Nat):sIx n d (some (k:Int))=min k n:=by
 show(if(k:Int) < 0 then((k:Int)+(n:Int)).toNat else min (k:Int).toNat n)=min k n;rw[if_neg (by omega),dj]
theorem zpJ (n d:Nat)(hd:d<=n)(o:Option Int):sIx n d o<=n:=by
 cases o with
 | none=>exact hd
 | some v=>
  show(if v < 0 then(v+(n:Int)).toNat else min v.toNat n)<=n;by_cases hv:v < 0
  ·rw[if_pos hv];omega
  ·rw[if_neg hv];exact Nat.min_le_right _ _
theorem ze9 (v:Int)(n d:Nat):(if v < 0 then max (v+(n:Int)) 0 else min v (n:Int))=((sIx n d (some v):Nat):Int):=by
 show(if v < 0 then max (v+(n:Int)) 0 else min v (n:Int))=(((if v < 0 then(v+(n:Int)).toNat else min v.toNat n):Nat):Int);by_cases hv:v < 0
 ·simp only[if_pos hv];omega
 ·simp only[if_neg hv];omega
theorem zjQ (lo hi:Option Int)(n:Nat):Builtin.Slice.sliceAdjust lo hi 1 (n:Int)=(((sIx n 0 lo:Nat):Int),((sIx n n hi:Nat):Int)):=by
 have h1: ¬ ((1:Int) < 0):=by omega
 unfold Builtin.Slice.sliceAdjust;simp only[h1,if_false];refine Prod.ext ?_ ?_
 ·cases lo with
  | none=>rfl
  | some v=>exact ze9 v n 0
 ·cases hi with
  | none=>rfl
  | some v=>exact ze9 v n n
theorem zoJ (i j:Nat):Builtin.Slice.slicePlaces (i:Int) (j:Int) 1=j - i:=by
 unfold Builtin.Slice.slicePlaces;have h1:(1:Int) > 0:=by omega
 simp only[h1,if_true,vw]
 split <;> omega
theorem slicePart_ {v:Value}{o:Option Int}{Q:Option Int->Shared->Prop}(p:IsPart v o)(h:Q o s):bf (bt prog w) A (Builtin.Slice.slicePartIndex v) Q E s:=by
 cases p with
 | none=>exact slicePart_none h
 | int i t=>exact slicePart_int h
theorem sliceApplied_gen {sl:Addr}{vl vu:Value}{lo hi:Option Int}{n:Nat}{Q:Int×Int×Nat->Shared->Prop}(hs:s.heap.IsSliceOf sl vl vu .none)(pl:IsPart vl lo)(pu:IsPart vu hi)
  (h:Q (((sIx n 0 lo:Nat):Int),1,sIx n n hi - sIx n 0 lo) s):bf (bt prog w) A (Builtin.Slice.sliceApplied (.ref sl) (pure (n:Int))) Q E s:=by
 obtain⟨os,hos,hcs,hds⟩:=id hs;unfold Builtin.Slice.sliceApplied Builtin.Slice.sliceFields;refine ah (ah (jj hos hds (x:=vl) rfl (ah (jj hos hds (x:=vu) rfl (ah (jj hos hds (x:= .none) rfl (ay ?_)))))));refine ah (slicePart_none ?_);show bf _ _ (if((1:Int)==0)=true then _ else _) _ _ s;rw[if_neg (by decide)];refine ah (slicePart_ pl (ah (slicePart_ pu (ah (ay ?_)))));show bf _ _ (match Builtin.Slice.sliceAdjust lo hi 1 (n:Int)with | (lo,hi)=>pure (lo,(1:Int),Builtin.Slice.slicePlaces lo hi 1)) _ _ s;rw[zjQ lo hi n];show bf _ _ (pure (((sIx n 0 lo:Nat):Int),(1:Int),Builtin.Slice.slicePlaces ((sIx n 0 lo:Nat):Int) ((sIx n n hi:Nat):Int) 1)) _ _ s;rw[zoJ];exact ay h
theorem zoE (xs:Array Value)(i k:Nat):((List.range k).filterMap λ(m:Nat)=>xs[((i:Int)+(m:Int) * 1).toNat]?).toArray=((xs.toList.drop i).take k).toArray:=by
 have e:(λ(m:Nat)=>xs[((i:Int)+(m:Int) * 1).toNat]?)=λm=>xs[i+m]?:=by
  funext m
  have:((i:Int)+(m:Int) * 1).toNat=i+m:=by omega
  rw[this]
 rw[e];have:=pick_run xs i k;rw[lj]at this;have e2:((λx=>xs[x]?) ∘ λx=>i+x)=λm=>xs[i+m]?:=rfl;rw[e2]at this;rw[this]
theorem getItem_tuple_cut {t sl:Addr}{items:Array Value}{vl vu:Value}{lo hi:Option Int}{Q:Value->Shared->Prop}(ht:IsTup s.heap t items)(hs:s.heap.IsSliceOf sl vl vu .none)(pl:IsPart vl lo)(pu:IsPart vu hi)
  (hw: ¬ (sIx items.size 0 lo=0/\sIx items.size items.size hi=items.size))
  (h:Q (.ref s.heap.objs.size) {s with heap:=s.heap.push {cls:= .type "tuple",data:= .seq ((items.toList.drop (sIx items.size 0 lo)).take (sIx items.size items.size hi - sIx items.size 0 lo)).toArray}})
  (hsz:items.size<=sizeLine):bf (bt prog w) A (getItem (.ref t) (.ref sl)) Q E s:=by
 have htake:sizeOk (.seq ((items.toList.drop (sIx items.size 0 lo)).take (sIx items.size items.size hi - sIx items.size 0 lo)).toArray):=by
  show((items.toList.drop (sIx items.size 0 lo)).take (sIx items.size items.size hi - sIx items.size 0 lo)).toArray.size<=sizeLine;rw[bo,cf,fj,fm];omega
 have hj:sIx items.size items.size hi<=items.size:=zpJ _ _ (ak _) hi;obtain⟨os,hos,hcs,hds⟩:=id hs;have hTs:s.TypeIs (.ref sl) "slice" :=⟨os,hos,hcs⟩;unfold getItem
 try with_reducible refine du ?_
 first | refine ah (ay ?_) | skip
 refine ah (qe ht.typeIs (by decide) ?_);refine ah (jf (name:=Str.ofString "__getitem__") ht.typeIs df
  (ki df ht.typeIs ot ?_ (pc _ _)))
 show bf _ _ (Builtin.Tuple.tupleItemsOf (.ref t) >>= _) _ _ s;refine ah (vk ht ?_);refine ah (jd hTs ?_);rw[if_pos (by decide)];refine ah (sliceApplied_gen hs pl pu ?_);have hno: ¬ ((((sIx items.size 0 lo:Nat):Int)==0&&(1:Int)==1&&(sIx items.size items.size hi - sIx items.size 0 lo)==items.size)=true):=by
  intro q;rw[fe,fe]at q;have q1:((sIx items.size 0 lo:Nat):Int)=0:=eq_of_beq q.1.1;have q2:sIx items.size items.size hi - sIx items.size 0 lo=items.size:=eq_of_beq q.2;exact hw ⟨by omega,by omega⟩
 show bf _ _ (if(((sIx items.size 0 lo:Nat):Int)==0&&(1:Int)==1&&(sIx items.size items.size hi - sIx items.size 0 lo)==items.size)=true then _ else _) _ _ s;rw[if_neg hno,zoE]
 first
  | exact ah (m:=Builtin.Tuple.tupleExact _) (dg (ay ⟨_,rfl,ay h⟩) htake)
  | exact ah (m:=Builtin.Tuple.tupleExact _) (dg (ah (ay (ay ⟨_,rfl,ay h⟩))) htake)
  | exact ah (ah (m:=Builtin.Tuple.tupleExact _) (dg (ay (ay ⟨_,rfl,ay h⟩)) htake))
  | exact ah (ah (m:=Builtin.Tuple.tupleExact _) (dg (ay ⟨_,rfl,ay h⟩) htake))
end
end HT
namespace L2
open PySem PySem.Spec PyProof.Rows
abbrev TO:=St->Hp->(Option Int->Hp->Prop)->Prop
structure PO (X:Cx)(e:Option Expr)(t:TO):Prop where
 run:
  ∀(pins:List (Addr×Obj)) (s:Shared) (σ:St) (H:Hp) (Q:Option Int->Hp->Prop),z6 X pins σ H s->t σ H Q->
   bf (bt X.prog X.w) X.A (evalPart e X.env) (λu s'=> ∃o H',z6 X pins σ H' s'/\IsPart u o/\Q o H') X.xe s
instance {X:Cx} {e:Option Expr} {t:TO} :CoeFun (PO X e t) λ_=>
 ∀(pins:List (Addr×Obj)) (s:Shared) (σ:St) (H:Hp) (Q:Option Int->Hp->Prop),z6 X pins σ H s->t σ H Q->
  bf (bt X.prog X.w) X.A (evalPart e X.env) (λu s'=> ∃o H',z6 X pins σ H' s'/\IsPart u o/\Q o H') X.xe s
  :=⟨PO.run⟩
def zqG:TO:=λ_ H Q=>Q none H
def zqK (t:TE):TO:=λσ H Q=>t σ H λx H1=> ∃i,x= .int i/\Q (some i) H1
section
variable {X:Cx} {e:Expr} {te:TE} {lo hi:Option Expr} {tl th:TO} {pos p2:Pos}
theorem zoK:PO X none zqG:=by
 (first | refine⟨?_⟩ | skip)
 intro pins s σ H Q I h;rw[pp];exact ay ⟨none,H,I,.none,h⟩
theorem zoL (h:PE X e te):PO X (some e) (zqK te):=by
 (first | refine⟨?_⟩ | skip)
 intro pins s σ H Q I hw;rw[evalPart_some];refine zR (h pins s σ H _ I hw) λu s1 ⟨x,H1,I1,r1,q1⟩=> ?_;obtain⟨i,rfl,q⟩:=q1;obtain⟨t,rfl⟩:=r1;exact⟨some i,H1,I1,.int i t,q⟩
def mW (X:Cx)(r:V->Option Int->Option Int->Hp->VK->Prop):Prop:=
 ∀(pins:List (Addr×Obj)) (s:Shared) (σ:St) (H:Hp) (x:V) (v vl vu:Value) (lo hi:Option Int) (sl:Addr) (Q:VK),z6 X pins σ H s->zT x v->s.heap.IsSliceOf sl vl vu .none->IsPart vl lo->IsPart vu hi->r x lo hi H Q->
  ∃T id,typeLookup (.type T) "__getitem__" =pure (some (.builtin id))/\s.TypeIs v T/\bf (bt X.prog X.w) X.A (getItem v (.ref sl)) (EP X pins σ Q) X.xe s
def tSl (r:V->Option Int->Option Int->Hp->VK->Prop)(te:TE)(tl th:TO):TE:=λσ H Q=>te σ H λx H1=>tl σ H1 λl H2=>th σ H2 λu H3=>r x l u H3 Q
theorem zox {r:V->Option Int->Option Int->Hp->VK->Prop}(hr:mW X r)(he:PE X e te)(hl:PO X lo tl)(hu:PO X hi th):PE X (.Subscript e (.Slice lo hi none p2) pos) (tSl r te tl th):=by
 (first | refine⟨?_⟩ | skip)
 intro pins s σ H Q I h;refine uy (zR (he pins s σ H _ I h) λv s1 ⟨x,H1,I1,r1,q1⟩=> ?_);refine xb (zR (hl pins s1 σ H1 _ I1 q1) λvl s2 ⟨l,H2,I2,pl,q2⟩=>zR (hu pins s2 σ H2 _ I2 q2) λvu s3 ⟨u,H3,I3,pu,q3⟩=> ?_);rw[pp];refine ay ?_;have I4:z6 X pins σ H3 {s3 with heap:=s3.heap.push {cls:= .type "slice",data:= .fields #[vl,vu,.none]}} :=I3.kept (t':=s3.toks) λb ob q=>ar _ q;obtain⟨T,id,hT,ht,hg⟩:=hr pins {s3 with heap:=s3.heap.push {cls:= .type "slice",data:= .fields #[vl,vu,.none]}} σ H3 x v vl vu l u s3.heap.objs.size Q I4 r1 (pd ..) pl pu q3;show bf (bt X.prog X.w) X.A (subscriptTail e (.Slice lo hi none p2) v (.ref s3.heap.objs.size)) (EP X pins σ Q) X.xe {s3 with heap:=s3.heap.push {cls:= .type "slice",data:= .fields #[vl,vu,.none]}};exact xg (ops:= [.ref s3.heap.objs.size,v]) ht hT hg (by with_unfolding_all rfl)
def qT (xs:List V)(lo hi:Option Int):List V:=(xs.drop (HT.sIx xs.length 0 lo)).take (HT.sIx xs.length xs.length hi - HT.sIx xs.length 0 lo)
theorem iI (xs:List V)(lo hi:Option Int):(qT xs lo hi).length<=xs.length:=by
 unfold qT;rw[cf,fj];omega
def zp8 (K:Frag):V->Option Int->Option Int->Hp->VK->Prop:=λx lo hi H Q=> ∃a xs,x= .ref a/\x5 K H a xs/\
 ¬ (HT.sIx xs.length 0 lo=0/\HT.sIx xs.length xs.length hi=xs.length)/\∀p,H p=none->Q (.ref p) (zI H p (.tup (qT xs lo hi)))
theorem zpY:mW X (zp8 X.K):=by
 (first | refine⟨?_⟩ | skip)
 intro pins s σ H x v vl vu lo hi sl Q I rx hs pl pu h;obtain⟨a,xs,rfl,hx,hw,q⟩:=h;cases rx;obtain⟨its,r,ht,hz⟩:=I.tuple hx;have hlen:its.toArray.size=xs.length:=by rw[bo];exact r.length.symm
 refine⟨"tuple",_,df.lookup,ht.typeIs,?_⟩;refine HT.getItem_tuple_cut ht hs pl pu (by rw[hlen];exact hw) ?_ (by rw[hlen];exact hz);rw[hlen];refine⟨.ref s.heap.objs.size,_,I.laid (t':=s.toks) (o:= .tup (qT xs lo hi)) (λb ob q=>ar _ q) (ak _) ?_,rfl,q _ (I.hok.fresh (ak _))⟩;exact⟨bq (iI xs lo hi) hz,_,(r.drop (HT.sIx xs.length 0 lo)).take (HT.sIx xs.length xs.length hi - HT.sIx xs.length 0 lo),uY.new _ _⟩
def zpt (K:Frag):R2:=λx y H Q=> ∃a b xs ys,x= .ref a/\y= .ref b/\x5 K H a xs/\x5 K H b ys/\xs≠ []/\xs.length+ys.length<=sizeLine/\
 (ys= []->Q (.ref a) H)/\(ys≠ []->∀p,H p=none->Q (.ref p) (zI H p (.tup (xs++ys))))
theorem zK.nil_iff {xs:List V}{us:List Value}(r:zK xs us):us= []↔xs= []:=by
 cases r with
 | nil=>simp
 | cons _ _=>simp
theorem znI:yI X (binaryOp .Add) (zpt X.K):=by
 (first | refine⟨?_⟩ | skip)
 intro pins s σ H x y v u Q I rx ry h;obtain⟨a,b,xs,ys,rfl,rfl,ha,hb,hx,hz,q1,q2⟩:=h;cases rx;cases ry;obtain⟨its,r1,p1,_⟩:=I.tuple ha;obtain⟨its2,r2,p2,_⟩:=I.tuple hb;refine HT.cat_tup p1 p2 (λz=>hx (r1.nil_iff.mp z)) (λz=>⟨.ref a,H,I,rfl,q1 (r2.nil_iff.mp z)⟩) (λz=> ?_) (by rw[<- r1.length,<- r2.length];exact hz);refine⟨.ref s.heap.objs.size,_,I.laid (t':=s.toks) (o:= .tup (xs++ys)) (λb ob q=>ar _ q) (ak _) ?_,rfl,q2 (λw=>z (r2.nil_iff.mpr w)) _ (I.hok.fresh (ak _))⟩;exact⟨by rw[af];exact hz,_,r1.append r2,uY.new _ _⟩
end
def w9 (n:Nat)(i:Int):Option Nat:=if 0<=i then(if i < n then some i.toNat else none)else if -(n:Int)<=i then some (i+n).toNat else none
def atI {α:Type}(xs:List α)(i:Int):Option α:=(w9 xs.length i).bind λj=>xs[j]?
theorem zg1 {n:Nat}{i:Int}{j:Nat}(h:w9 n i=some j):seqIndex? i n=some j/\j < n/\ -(n:Int)<=i/\i < n:=by
 unfold w9 at h;by_cases h0:0<=i
 ·rw[if_pos h0]at h
  by_cases h1:i < n
  ·rw[if_pos h1]at h
   have e:i.toNat=j:=bx h;exact⟨by rw[xc h0 h1,e],by omega,by omega,h1⟩
  ·rw[if_neg h1]at h;cases h
 ·rw[if_neg h0]at h
  by_cases h1: -(n:Int)<=i
  ·rw[if_pos h1]at h
   have e:(i+n).toNat=j:=bx h;exact⟨by rw[vx (by omega) h1,e],by omega,h1,by omega⟩
  ·rw[if_neg h1]at h;cases h
theorem c6 {α:Type}{xs:List α}{i:Int}{v:α}(h:atI xs i=some v): ∃j,seqIndex? i xs.length=some j/\xs[j]?=some v/\j < xs.length/\ -(xs.length:Int)<=i/\i < xs.length:=by
 unfold atI at h;cases e:w9 xs.length i with
 | none=>rw[e]at h;cases h
 | some j=>
  rw[e]at h;obtain⟨h1,h2,h3,h4⟩:=zg1 e;exact⟨j,h1,h,h2,h3,h4⟩
theorem xJ {α:Type}{xs:List α}{j:Nat}{v:α}(h:xs[j]?=some v):atI xs (j:Int)=some v:=by
 have hj:j < xs.length:=(ad.mp h).1;have e:w9 xs.length (j:Int)=some j:=by
  unfold w9;rw[if_pos (by omega),if_pos (by omega)];simp
 unfold atI;rw[e];exact h
def dN (b:Expr):Prop:= ∀o i,subscripted b false o i=operate [o,i] (getItem o i)
def rS (X:Cx)(r:R2):Prop:=
 ∀(value slice:Expr) (pins:List (Addr×Obj)) (s:Shared) (σ:St) (H:Hp) (x y:V) (v u:Value) (Q:VK),z6 X pins σ H s->zT x v->zT y u->r x y H Q->
  subscripted slice false v u=operate [v,u] (getItem v u)->bf (bt X.prog X.w) X.A (subscriptTail value slice v u) (EP X pins σ Q) X.xe s
def tT (X:Cx)(id:String)(r:V->List V->Hp->VK->Prop):Prop:=
 ∀(pins:List (Addr×Obj)) (s:Shared) (σ:St) (H:Hp) (x:V) (xs:List V) (v:Value) (us:List Value) (Q:VK),z6 X pins σ H s->zT x v->zK xs us->r x xs H Q->
  bf (bt X.prog X.w) X.A (call (.builtin id) (v::us)) (EP X pins σ Q) X.xe s
section
variable {X:Cx} {a b:Expr} {ta tb:TE} {pos:Pos}
theorem zoo {r:R2}(hr:rS X r)(ha:PE X a ta)(hb:PE X b tb)(hs:dN b):PE X (.Subscript a b pos) (j7 r ta tb):=by
 (first | refine⟨?_⟩ | skip)
 intro pins s σ H Q I h;exact uy (cA ha hb I h λv u s2 x y H2 I2 rx ry q=>hr a b pins s2 σ H2 x y v u Q I2 rx ry q (hs _ _))
def kE (K:Frag):R2:=λx y H Q=> ∃p xs i v,x= .ref p/\y= .int i/\yE K H p xs/\atI xs i=some v/\Q v H
def zpw (K:Frag):R2:=λx y H Q=> ∃p xs i v,x= .ref p/\y= .int i/\x5 K H p xs/\atI xs i=some v/\Q v H
def zpv:R2:=λx y H Q=> ∃z i c,x= .str z/\y= .int i/\z.length<=sizeLine/\atI z.cps.toList i=some c/\Q (.str ⟨#[c]⟩) H
theorem zbO:rS X (kE X.K):=by
 intro value slice pins s σ H x y v u Q I rx ry h hs;obtain⟨p,xs,i,z,rfl,rfl,hq,he,q⟩:=h;cases rx;obtain⟨t,rfl⟩:=ry;obtain⟨its,r,pl,hz⟩:=I.list hq;obtain⟨j,h1,h2,h3,h4,h5⟩:=c6 he;obtain⟨w,ew,rw'⟩:=r.get h2;have hl:=r.length;have hn:=nP;have fin:EP X pins σ Q w s:=⟨z,H,I,rw',q⟩;by_cases h0:0<=i
 ·have hj:i.toNat=j:=by
   rw[xc h0 h5]at h1;exact bx h1
  exact item_listR pl.isList h0 (by omega) (by rw[hj];simpa using ew) fin hs
 ·have hj:(i+(its.toArray.size:Int)).toNat=j:=by
   rw[vx (by omega) h4]at h1;rw[bo,<- hl];exact bx h1
  exact uc (x:=w) pl.isList.typeIs qf.lookup
   (wpAny_getItem_list_neg (Q:=λr s'=>r=w/\EP X pins σ Q r s') pl.isList (by omega) (by rw[bo] <;> omega) (by omega) (by rw[hj];simpa using ew) ⟨rfl,fin⟩) hs
theorem zlT:rS X (zpw X.K):=by
 intro value slice pins s σ H x y v u Q I rx ry h hs;obtain⟨p,xs,i,z,rfl,rfl,hq,he,q⟩:=h;cases rx;obtain⟨t,rfl⟩:=ry;obtain⟨its,r,pl,hz⟩:=I.tuple hq;obtain⟨j,h1,h2,h3,h4,h5⟩:=c6 he;obtain⟨w,ew,rw'⟩:=r.get h2;have hl:=r.length;have hn:=nP;have fin:EP X pins σ Q w s:=⟨z,H,I,rw',q⟩;exact uc (x:=w) pl.typeIs slot_tuple_getitem.lookup
  (getItem_tuple (j:=j) (Q:=λr s'=>r=w/\EP X pins σ Q r s') pl (by omega) (by omega) (by rw[bo,<- hl];exact h1) (by simpa using ew) ⟨rfl,fin⟩) hs
theorem zlS:rS X zpv:=by
 intro value slice pins s σ H x y v u Q I rx ry h hs;obtain⟨z,i,c,rfl,rfl,hz,he,q⟩:=h;obtain⟨t,rfl⟩:=rx;obtain⟨t',rfl⟩:=ry;obtain⟨j,h1,h2,h3,h4,h5⟩:=c6 he;have hl:z.cps.toList.length=z.length:=by simp[Str.length]
 rw[hl]at h1 h4 h5;have hn:=nP;exact xg (typeIs_str s z t) slot_str_getitem.lookup (getItem_str (c:=c) (by
  have e1:decide (i < -(2 ^ 63:Int))=false:=decide_eq_false (by omega);have e2:decide (i≥2 ^ 63)=false:=decide_eq_false (by omega);rw[e1,e2,Bool.or_false]) (by rw[h1];simpa using h2) ⟨.str ⟨#[c]⟩,H,I.tok _,⟨_,rfl⟩,q⟩) hs
theorem zm8 (its:List Value)(n j:Nat)(u:Value):Obj.mapSeq (·.setIfInBounds j u) {cls:= .type "list",data:= .seq its.toArray n} = {cls:= .type "list",data:= .seq (its.set j u).toArray n} :=by
 simp[Obj.mapSeq]
theorem z6.lst {pins:List (Addr×Obj)}{σ:St}{H:Hp}{s:Shared}{p:Addr}{xs:List V}(I:z6 X pins σ H s)(h:H p=some (.lst xs)):
  ∃(its:List Value) (n:Nat),zK xs its/\s.heap.get? p=some {cls:= .type "list",data:= .seq its.toArray n} /\xs.length<=sizeLine:=by
 obtain⟨z,its,n,r,e⟩:=I.hok p _ h;exact⟨its,n,r,e,z⟩
theorem z6.lstUpd {pins:List (Addr×Obj)}{σ:St}{H:Hp}{s:Shared}{p:Addr}{xs ys:List V}{its its':List Value}{n n':Nat}{f:Obj->Obj}(I:z6 X pins σ H s)(h:H p=some (.lst xs))
  (ho:s.heap.get? p=some {cls:= .type "list",data:= .seq its.toArray n}) (hf:f {cls:= .type "list",data:= .seq its.toArray n} = {cls:= .type "list",data:= .seq its'.toArray n'}) (r:zK ys its') (hz:ys.length<=sizeLine) (t:Nat):
  z6 X pins σ (zI H p (.lst ys)) {s with heap:=s.heap.update p f,toks:=t} :=by
 have e:(s.heap.update p f).get? p=some {cls:= .type "list",data:= .seq its'.toArray n'} :=by
  rw[jl f ho (by rw[hf] <;> rfl),hf]
 refine I.write (x:=p) (e:=p) (by rw[h];trivial) (.inl rfl) (λb u hb q=>(gu _ _ (gb hb)).trans q) ⟨_,e⟩ ?_;exact⟨hz,its',n',r,e⟩
def zp5:V->V->V->Hp->(Hp->Prop)->Prop:=λo i v H Q=> ∃p xs k j,o= .ref p/\i= .int k/\H p=some (.lst xs)/\w9 xs.length k=some j/\Q (zI H p (.lst (xs.set j v)))
theorem zpS:jV X zp5:=by
 (first | refine⟨?_⟩ | skip)
 intro pins s σ H o i v ov iv u Q I ro ri rv h;obtain⟨p,xs,k,j,rfl,rfl,hp,hj,q⟩:=h;cases ro;obtain⟨t,rfl⟩:=ri;obtain⟨its,n,r,ho,hz⟩:=I.lst hp;obtain⟨h1,h2,h3,h4⟩:=zg1 hj;have hl:=r.length;have hn:=nP;have I':z6 X pins σ (zI H p (.lst (xs.set j v))) {s with heap:=s.heap.update p (Obj.mapSeq (·.setIfInBounds j u))} :=
  I.lstUpd hp ho (zm8 its n j u) (r.set rv j) (by rw[ci];exact hz) s.toks
 by_cases h0:0<=k
 ·have hk:k.toNat=j:=by
   rw[xc h0 h4]at h1;exact bx h1
  exact PySem.W.ki_setAt ho h0 (by omega) (by rw[bo,<- hl];exact h4) (by rw[hk];exact⟨_,I',q⟩)
 ·have hk:(k+(its.toArray.size:Int)).toNat=j:=by
   rw[vx (by omega) h3]at h1;rw[bo,<- hl];exact bx h1
  exact PySem.W.ki_setBack ho (by omega) (by rw[bo,<- hl];exact h3) (by omega) (by rw[hk];exact⟨_,I',q⟩)
theorem zqa (lo hi:Option Int)(n:Nat):(sliceBounds lo hi none n).1=((HT.sIx n 0 lo:Nat):Int)/\(sliceBounds lo hi none n).2.1=((HT.sIx n n hi:Nat):Int)/\(sliceBounds lo hi none n).2.2=1:=by
 refine⟨?_,?_,rfl⟩
 ·cases lo with
  | none=>simp[sliceBounds,HT.sIx]
  | some i=>
   simp only[sliceBounds,HT.sIx,xh,show(1:Int) > 0 by decide,if_true];by_cases h:i < 0
   ·simp only[h,if_true] <;> omega
   ·simp only[h,if_false] <;> omega
 ·cases hi with
  | none=>simp[sliceBounds,HT.sIx]
  | some i=>
   simp only[sliceBounds,HT.sIx,xh,show(1:Int) > 0 by decide,if_true];by_cases h:i < 0
   ·simp only[h,if_true] <;> omega
   ·simp only[h,if_false] <;> omega
theorem zpZ (its:List Value)(lo hi:Option Int):slicePick its.toArray lo hi none=((its.drop (HT.sIx its.length 0 lo)).take (HT.sIx its.length its.length hi - HT.sIx its.length 0 lo)).toArray:=by
 obtain⟨h1,h2,h3⟩:=zqa lo hi its.toArray.size;unfold slicePick;rw[h1,h2,h3];simp only[sliceRange_one,pick_run,bo] <;> rfl
def zp6 (K:Frag):V->Option Int->Option Int->Hp->VK->Prop:=λx lo hi H Q=> ∃a xs,x= .ref a/\yE K H a xs/\∀p,H p=none->Q (.ref p) (zI H p (.lst (qT xs lo hi)))
theorem zpW:mW X (zp6 X.K):=by
 (first | refine⟨?_⟩ | skip)
 intro pins s σ H x v vl vu lo hi sl Q I rx hs pl pu h;obtain⟨a,xs,rfl,hx,q⟩:=h;cases rx;obtain⟨its,r,ht,hz⟩:=I.list hx;have hlen:=r.length;refine⟨"list",_,qf.lookup,ht.isList.typeIs,?_⟩;refine qp ht.isList hs pl pu .none (by simp) ?_ (by rw[bo] <;> omega);rw[zpZ,<- hlen];refine⟨.ref s.heap.objs.size,_,I.laid (t':=s.toks) (o:= .lst (qT xs lo hi)) (λb ob q=>ar _ q) (ak _) ?_,rfl,q _ (I.hok.fresh (ak _))⟩;exact⟨bq (iI xs lo hi) hz,_,0,(r.drop (HT.sIx xs.length 0 lo)).take (HT.sIx xs.length xs.length hi - HT.sIx xs.length 0 lo),cb _ rfl⟩
def rF:V->Bool
 | .non=>true
 | .bl _=>true
 | .int _=>true
 | .str _=>true
 | _=>false
def rE:V->V->Bool
 | .non,.non=>true
 | .bl a,.bl b=>a==b
 | .bl a,.int b=>(if a then 1 else 0)==b
 | .int a,.bl b=>a==(if b then 1 else 0)
 | .int a,.int b=>a==b
 | .str a,.str b=>a==b
 | _,_=>false
theorem zli {A:Around}{s:Shared}{y x:V}{u v:Value}(ry:zT y u)(rx:zT x v)(fy:rF y=true)(fx:rF x=true):SeqAt.EqAt A s u v (rE y x):=by
 cases y with
 | non=>
  cases ry;cases x with
  | non=>cases rx;exact so _
  | bl b=>cases rx;exact SeqAt.EqAt.none_bool b
  | int b=>obtain⟨t,rfl⟩:=rx;exact SeqAt.EqAt.none_int b t
  | str b=>obtain⟨t,rfl⟩:=rx;exact SeqAt.EqAt.none_str b t
  | _=>exact absurd (show false=true from fx) ef
 | bl a=>
  cases ry;cases x with
  | non=>cases rx;exact SeqAt.EqAt.bool_none a
  | bl b=>cases rx;exact SeqAt.EqAt.bool_bool a b
  | int b=>obtain⟨t,rfl⟩:=rx;exact SeqAt.EqAt.bool_int a b t
  | str b=>obtain⟨t,rfl⟩:=rx;exact SeqAt.EqAt.bool_str a b t
  | _=>exact absurd (show false=true from fx) ef
 | int a=>
  obtain⟨t',rfl⟩:=ry;cases x with
  | non=>cases rx;exact SeqAt.EqAt.int_none a t'
  | bl b=>cases rx;exact SeqAt.EqAt.int_bool a t' b
  | int b=>obtain⟨t,rfl⟩:=rx;exact SeqAt.EqAt.int_int a t' b t
  | str b=>obtain⟨t,rfl⟩:=rx;exact vo a t' b t
  | _=>exact absurd (show false=true from fx) ef
 | str a=>
  obtain⟨t',rfl⟩:=ry;cases x with
  | non=>cases rx;exact SeqAt.EqAt.str_none a t'
  | bl b=>cases rx;exact SeqAt.EqAt.str_bool a t' b
  | int b=>obtain⟨t,rfl⟩:=rx;exact vp a t' b t
  | str b=>obtain⟨t,rfl⟩:=rx;exact SeqAt.EqAt.str_str a t' b t
  | _=>exact absurd (show false=true from fx) ef
 | _=>exact absurd (show false=true from fy) ef
def uG (x:V)(u:Value):Bool:=match u with
 | .none=>rE .non x
 | .bool b=>rE (.bl b) x
 | .int i _=>rE (.int i) x
 | .str z _=>rE (.str z) x
 | _=>false
theorem zeR {x y:V}{u:Value}(r:zT y u)(f:rF y=true):uG x u=rE y x:=by
 cases y with
 | non=>cases r;rfl
 | bl b=>cases r;rfl
 | int i=>obtain⟨t,rfl⟩:=r;rfl
 | str z=>obtain⟨t,rfl⟩:=r;rfl
 | _=>exact absurd (show false=true from f) ef
theorem l0 {x:V} : ∀{xs:List V} {us:List Value},zK xs us->xs.all rF=true->us.any (uG x)=xs.any λy=>rE y x
 | _,_,.nil,_=>rfl
 | y::xs,u::us,.cons r t,f=>by
  rw[kz,fe]at f;rw[iw,iw,zeR r f.1,l0 t f.2]
theorem lY {A:Around}{s:Shared}{x:V}{v:Value}(rx:zT x v)(fx:rF x=true): ∀{xs:List V} {us:List Value},zK xs us->xs.all rF=true->∀u∈us,SeqAt.EqAt A s u v (uG x u)
 | _,_,.nil,_=>λu hu=>by cases hu
 | y::xs,u::us,.cons r t,f=>λu' hu=>by
  rw[kz,fe]at f;rcases bd.mp hu with rfl | hu
  ·rw[zeR r f.1];exact zli r rx f.1 fx
  ·exact lY rx fx t f.2 u' hu
def qV (x:V)(xs:List V):Bool:=xs.any λy=>rE y x
def rIn (K:Frag)(neg:Bool):R2:=λx y H Q=> ∃p xs,y= .ref p/\(yE K H p xs∨x5 K H p xs)/\rF x=true/\xs.all rF=true/\Q (.bl (if neg then !qV x xs else qV x xs)) H
theorem znM:yI X (compareOp .In) (rIn X.K false):=by
 (first | refine⟨?_⟩ | skip)
 intro pins s σ H x y v u Q I rx ry h;obtain⟨p,xs,rfl,hq,fx,fs,q⟩:=h;cases ry;rcases hq with hq | hq
 ·obtain⟨its,r,pl,hz⟩:=I.list hq
  refine SeqAt.in_listAt (uG x) pl.isList (λw hw=>lY rx fx r fs w (by simpa using hw)) ⟨.bl _,H,I,rfl,?_⟩;rw[show its.toArray.any (uG x)=its.any (uG x) by simp,l0 r fs];exact q
 ·obtain⟨its,r,pl,hz⟩:=I.tuple hq
  refine SeqAt.in_tupleAt (uG x) pl (λw hw=>lY rx fx r fs w (by simpa using hw)) ⟨.bl _,H,I,rfl,?_⟩;rw[show its.toArray.any (uG x)=its.any (uG x) by simp,l0 r fs];exact q
theorem znS:yI X (compareOp .NotIn) (rIn X.K true):=by
 (first | refine⟨?_⟩ | skip)
 intro pins s σ H x y v u Q I rx ry h;obtain⟨p,xs,rfl,hq,fx,fs,q⟩:=h;cases ry;rcases hq with hq | hq
 ·obtain⟨its,r,pl,hz⟩:=I.list hq
  refine SeqAt.notIn_listAt (uG x) pl.isList (λw hw=>lY rx fx r fs w (by simpa using hw)) ⟨.bl _,H,I,rfl,?_⟩;rw[show its.toArray.any (uG x)=its.any (uG x) by simp,l0 r fs];exact q
 ·obtain⟨its,r,pl,hz⟩:=I.tuple hq
  refine SeqAt.notIn_tupleAt (uG x) pl (λw hw=>lY rx fx r fs w (by simpa using hw)) ⟨.bl _,H,I,rfl,?_⟩;rw[show its.toArray.any (uG x)=its.any (uG x) by simp,l0 r fs];exact q
theorem znT:yI X (compareOp .NotIn) (λx y H Q=> ∃i j,x= .str i/\y= .str j/\Q (.bl (!(!(Builtin.Str.occurrences j i 0 j.length 1).isEmpty))) H):=by
 (first | refine⟨?_⟩ | skip)
 intro pins s σ H x y v u Q I rx ry h;obtain⟨i,j,rfl,rfl,q⟩:=h;obtain⟨t,rfl⟩:=rx;obtain⟨t',rfl⟩:=ry;exact notIn_str ⟨.bl _,H,I,rfl,q⟩
theorem cL:xO X (.type "list") (λxs H Q=> ∃p ys,xs= [.ref p]/\(yE X.K H p ys∨x5 X.K H p ys)/\∀l,H l=none->Q (.ref l) (zI H l (.lst ys))):=by
 (first | refine⟨?_⟩ | skip)
 intro pins s σ H xs us Q I r h;obtain⟨p,ys,rfl,hq,q⟩:=h;obtain⟨u,rfl,rx⟩:=uC r;cases rx;have fin: ∀(its:List Value),zK ys its->ys.length<=sizeLine->∀(h':Heap) (c':Nat),(∀b o',s.heap.get? b=some o'->h'.get? b=some o')->
   h'.get? s.heap.objs.size=some {cls:= .type "list",dict:=none,data:= .seq its.toArray c',slots:= #[]} ->EP X pins σ Q (.ref s.heap.objs.size) {s with heap:=h'} :=λits r' hz h' c' kp e=>
  ⟨.ref s.heap.objs.size,_,I.laid (t':=s.toks) kp (ak _) (show wK X.prog X.w _ h' _ (.lst ys)from⟨hz,its,c',r',e⟩),rfl,q _ (I.hok.fresh (ak _))⟩
 rcases hq with hq | hq
 ·obtain⟨its,r',pl,hz⟩:=I.list hq
  have hlen:=r'.length;obtain⟨o,ho,hc,n,hd⟩:=pl.isList;exact call_list_seq p (.inl rfl) ho hc hd (λh' c' kp e=>fin its r' hz h' c' kp e) (by simp only[bo] <;> omega)
 ·obtain⟨its,r',pl,hz⟩:=I.tuple hq
  have hlen:=r'.length;obtain⟨o,ho,hc,n,hd⟩:=pl;exact call_list_seq p (.inr rfl) ho hc hd (λh' c' kp e=>fin its r' hz h' c' kp e) (by simp only[bo] <;> omega)
theorem cM:xO X (.type "tuple") (λxs H Q=> ∃p ys,xs= [.ref p]/\((yE X.K H p ys/\∀l,H l=none->Q (.ref l) (zI H l (.tup ys)))∨(x5 X.K H p ys/\Q (.ref p) H))):=by
 (first | refine⟨?_⟩ | skip)
 intro pins s σ H xs us Q I r h;obtain⟨p,ys,rfl,h⟩:=h;obtain⟨u,rfl,rx⟩:=uC r;cases rx;rcases h with⟨hq,q⟩ | ⟨hq,q⟩
 ·obtain⟨its,r',pl,hz⟩:=I.list hq
  have hlen:=r'.length;refine call_tuple_list pl.isList (λh' kp=> ?_) (by simp only[bo] <;> omega);have I1:z6 X pins σ H {s with heap:=h'} :=I.kept (t':=s.toks) kp;have I2:z6 X pins σ (zI H h'.objs.size (.tup ys)) {s with heap:=h'.push {cls:= .type "tuple",data:= .seq its.toArray}} :=
   I1.laid (t':=s.toks) (λb o e=>ar _ e) (ak _) (show wK X.prog X.w _ _ _ (.tup ys)from⟨hz,its,r',uY.new _ _⟩)
  exact⟨.ref h'.objs.size,_,I2,rfl,q _ (I1.hok.fresh (ak _))⟩
 ·obtain⟨its,r',pl,hz⟩:=I.tuple hq
  exact call_tuple_same pl ⟨.ref p,H,I,rfl,q⟩
def fV (K:Frag)(T:String)(x:V)(H:Hp):Prop:=match x with
 | .str _=>T= "str"
 | .int _=>T= "int"
 | .ref p=>(T= "list" /\∃xs,yE K H p xs)∨(T= "tuple" /\∃o,K.lookup p=some o/\o.cls= .type "tuple" /\o.dict=none)∨
   (T= "dict" /\((∃kvs,H p=some (.dK kvs))∨∃kvs,H p=some (.dT kvs)))∨(T= "set" /\∃S n,H p=some (.set S n))
 | _=>False
theorem zi6 {pins:List (Addr×Obj)}{σ:St}{H:Hp}{s:Shared}{T:String}{x:V}{v:Value}(I:z6 X pins σ H s)(r:zT x v)(ty:fV X.K T x H):
  s.TypeIs v T/\∀a,v= .ref a->∃ob,s.heap.get? a=some ob/\ob.dict=none:=by
 cases x with
 | str z=>
  obtain⟨t,rfl⟩:=r;cases(show T= "str" from ty);exact⟨typeIs_str s z t,λ_ e=>nomatch e⟩
 | int i=>
  obtain⟨t,rfl⟩:=r;cases(show T= "int" from ty);exact⟨typeIs_int s i t,λ_ e=>nomatch e⟩
 | ref p=>
  cases r;rcases ty with⟨rfl,xs,hq⟩ | ⟨rfl,o,hk,hc,hd⟩ | ⟨rfl,hk⟩ | ⟨rfl,S,n,hk⟩
  ·obtain⟨its,_,pl,_⟩:=I.list hq
   refine⟨pl.isList.typeIs,λa e=> ?_⟩;cases e;obtain⟨o,n,e,c,hd,_⟩:=pl;exact⟨o,e,hd⟩
  ·refine⟨⟨o,I.kIn p o hk,hc⟩,λa e=> ?_⟩
   cases e;exact⟨o,I.kIn _ o hk,hd⟩
  ·have z: ∃o,s.heap.get? p=some o/\o.ExactDict:=by
    rcases hk with⟨kvs,hk⟩ | ⟨kvs,hk⟩
    ·obtain⟨_,_,_,_,o,_,_,e,ex,_⟩:=I.hok p _ hk
     exact⟨o,e,ex⟩
    ·obtain⟨_,_,_,_,o,_,_,e,ex,_⟩:=I.hok p _ hk
     exact⟨o,e,ex⟩
   obtain⟨o,e,ex⟩:=z;refine⟨⟨o,e,ex.1⟩,λa e2=> ?_⟩;cases e2;exact⟨o,e,ex.2.1⟩
  ·obtain⟨o,_,_,_,e,ex,_⟩:=I.hok p _ hk
   refine⟨⟨o,e,ex.1⟩,λa e2=> ?_⟩;cases e2;exact⟨o,e,ex.2.1⟩
 | _=>exact False.elim ty
def zq6 (K:Frag)(T:String)(r:V->List V->Hp->VK->Prop)(to:TE):TE:=λσ H Q=>to σ H λx H1=>fV K T x H1/\r x [] H1 Q
def tBM (K:Frag)(T:String)(r:V->List V->Hp->VK->Prop)(to:TE)(t:TA):TE:=λσ H Q=>to σ H λx H1=>fV K T x H1/\t σ H1 λxs H2=>r x xs H2 Q
variable {o e:Expr} {es:List Expr} {to:TE} {t:TA} {name:Str} {apos cpos:Pos} {T id:String} {r:V->List V->Hp->VK->Prop}
theorem zog (pa:PlainAttrs T)(slot:Slot T name id)(hty:typeOf (.builtin id)=pure (.type "method_descriptor"))(hm:tT X id r)(ho:PE X o to)
  (hbase:attributeBase o name X.env (eval o X.env)=eval o X.env:=by rfl) (hline:(apos.endLine==cpos.line)=true:=by rfl):PE X (.Call (.Attribute o name apos) [] [] cpos) (zq6 X.K T r to):=by
 (first | refine⟨?_⟩ | skip)
 intro pins s σ H Q I h;refine wpAny_Call_method0_late hbase hline (zR (ho pins s σ H _ I h) λv s1 ⟨x,H1,I1,r1,ty,q1⟩=> ?_);obtain⟨h1,h2⟩:=zi6 I1 r1 ty;exact⟨T,id,pa,slot,hty,h1,h2,ud rfl (PySem.evalArgs_none (hm pins s1 σ H1 x [] v [] Q I1 r1 .nil q1))⟩
theorem zof (pa:PlainAttrs T)(slot:Slot T name id)(hty:typeOf (.builtin id)=pure (.type "method_descriptor"))(hm:tT X id r)(ho:PE X o to)(ha:PA X (e::es) t)
  (hbase:attributeBase o name X.env (eval o X.env)=eval o X.env:=by rfl)
  (hfew:((backTo cpos (starEach (e::es) X.env)).all (λx=> !x.1)&&(backToKw cpos (keywordEach [] X.env)).all (λx=>x.1.isSome)
   &&decide ((e::es).length+([]:List Keyword).length+(if([]:List Keyword).isEmpty then 0 else 1) < 30))=true:=by rfl)
  (hline:(apos.endLine==cpos.line)=true:=by rfl) (hs:starEach (e::es) X.env=(false,eval e X.env)::starEach es X.env:=by rfl) (hplain:(backTo cpos (starEach es X.env)).any (·.1)=false:=by rfl):
  PE X (.Call (.Attribute o name apos) (e::es) [] cpos) (tBM X.K T r to t):=by
 (first | refine⟨?_⟩ | skip)
 intro pins s σ H Q I h;refine wpAny_Call_method_late hbase hfew hline rfl (zR (ho pins s σ H _ I h) λv s1 ⟨x,H1,I1,r1,ty,q1⟩=> ?_);obtain⟨h1,h2⟩:=zi6 I1 r1 ty;refine⟨T,id,pa,slot,hty,h1,h2,?_⟩;have hA:=ha cpos pins s1 σ H1 _ I1 q1;rw[hs]at hA⊢
 refine ud (by show(false||(backTo cpos (starEach es X.env)).any (·.1))=false;rw[hplain] <;> rfl) (Calls.evalArgs_plain ?_);exact zR hA λus s2 ⟨vs,H2,I2,r2,q2⟩=>hm pins s2 σ H2 x vs v us Q I2 r1 r2 q2
end
def jT (X:Cx)(id:String)(r:V->List V->Hp->VK->Prop):Prop:=
 ∀(pins:List (Addr×Obj)) (s:Shared) (σ:St) (H:Hp) (x:V) (xs:List V) (v:Value) (us:List Value) (Q:VK),z6 X pins σ H s->zT x v->zK xs us->r x xs H Q->
  bf (bt X.prog X.w) X.A (call (.builtin id) (v::us)) (EP X pins σ Q) X.xe s
theorem zK.one: ∀{x:V} {us:List Value},zK [x] us->∃u,us= [u]/\zT x u
 | _,_,.cons r .nil=>⟨_,rfl,r⟩
theorem zK.two {x y:V}{us:List Value}(h:zK [x,y] us): ∃u v,us= [u,v]/\zT x u/\zT y v:=by
 cases h with | cons r t=>cases t with | cons q t2=>cases t2;exact⟨_,_,rfl,r,q⟩
theorem zK.zero: ∀{us:List Value},zK [] us->us= []
 | _,.nil=>rfl
theorem zK.dropLast {xs:List V}{us:List Value}(h:zK xs us):zK xs.dropLast us.dropLast:=by
 induction h with
 | nil=>exact .nil
 | cons r t ih=>
  cases t with
  | nil=>exact .nil
  | cons q t'=>exact .cons r ih
theorem zK.eraseIdx: ∀{xs:List V} {us:List Value} (i:Nat),zK xs us->zK (xs.eraseIdx i) (us.eraseIdx i)
 | _,_,_,.nil=> .nil
 | _,_,0,.cons _ t=>t
 | _,_,i+1,.cons r t=> .cons r (zK.eraseIdx i t)
theorem zK.reverse {xs:List V}{us:List Value}(h:zK xs us):zK xs.reverse us.reverse:=by
 induction h with
 | nil=>exact .nil
 | cons r t ih=>rw[ni,ni];exact zK.append ih (.cons r .nil)
theorem zlm {α:Type}(l:List α):l.eraseIdx (l.length - 1)=l.dropLast:=by
 induction l with
 | nil=>rfl
 | cons a r ih=>
  cases r with
  | nil=>rfl
  | cons b r=>
   have e:(a::b::r).length - 1=((b::r).length - 1)+1:=by
    have h1:(a::b::r).length=r.length+2:=rfl;have h2:(b::r).length=r.length+1:=rfl;omega
   rw[e,gm,ih]
   all_goals rfl
theorem zg8 {α:Type} : ∀(l:List α) (i:Nat),(l.eraseIdx i).length<=l.length
 | [],_=>ak _
 | _::_,0=>fw _
 | _::r,i+1=>xi (zg8 r i)
section
variable {X:Cx} {pins:List (Addr×Obj)} {σ:St} {H:Hp} {s:Shared} {l b:Addr} {xs ys zs:List V}
theorem z6.lset {its its':List Value}{n:Nat}{f:Array Value->Array Value}{t':Nat}(I:z6 X pins σ H s)(hH:H l=some (.lst xs))
  (e:s.heap.get? l=some {cls:= .type "list",data:= .seq its.toArray n}) (hf:f its.toArray=its'.toArray) (hv:zK ys its') (hz:ys.length<=sizeLine):
  z6 X pins σ (zI H l (.lst ys)) {s with heap:=s.heap.update l (Obj.mapSeq f),toks:=t'} :=by
 have q:=oe e f;rw[hf]at q;refine I.write (x:=l) (e:=l) (by rw[hH];exact trivial) (.inl rfl) (λb' u hb hu=>(gu s.heap (Obj.mapSeq f) (gb hb)).trans hu) ⟨_,q⟩ ?_;exact⟨hz,its',_,hv,q⟩
theorem z6.lnew {its:List Value}{t':Nat}(I:z6 X pins σ H s)(hv:zK ys its)(hz:ys.length<=sizeLine):
  z6 X pins σ (zI H s.heap.objs.size (.lst ys)) {s with heap:=s.heap.push {cls:= .type "list",data:= .seq its.toArray},toks:=t'} :=
 I.laid (λ_ _ q=>ar _ q) (ak _) ⟨hz,its,0,hv,cb _ rfl⟩
theorem z6.fresh (I:z6 X pins σ H s):H s.heap.objs.size=none:=I.hok.fresh (ak _)
theorem z6.lstM (I:z6 X pins σ H s)(hH:H l=some (.lst xs)):xs.length<=sizeLine/\∃(its:List Value) (n:Nat),zK xs its/\xs.length=its.length/\s.heap.get? l=some {cls:= .type "list",data:= .seq its.toArray n} :=by
 obtain⟨z,its,n,r,e⟩:=I.hok l _ hH;exact⟨z,its,n,r,r.length,e⟩
theorem zmX {n:Nat}(h:n<=sizeLine):Builtin.List.listTooLong n=false:=by
 unfold Builtin.List.listTooLong;exact decide_eq_false (by omega)
end
section
variable {X:Cx}
def zps:V->List V->Hp->VK->Prop:=λx vs H Q=> ∃l xs y,x= .ref l/\vs= [y]/\H l=some (.lst xs)/\xs.length < sizeLine/\Q .non (zI H l (.lst (xs++ [y])))
theorem zmD:jT X "list.append" zps:=by
 (first | refine⟨?_⟩ | skip)
 intro pins s σ H x vs v us Q I rx rv h;obtain⟨l,xs,y,rfl,rfl,hH,hz,q⟩:=h;cases rx;obtain⟨u,rfl,ru⟩:=rv.one;obtain⟨z,its,n,r,hl,e⟩:=I.lstM hH;refine ka mt ⟨_,e,rfl⟩ mj (md _ _) (nj l its.toArray n u (by rw[bo];omega)) ⟨e,?_⟩;refine⟨.non,_,I.lset (its':=its++ [u]) hH e (by simp) (r.append (.cons ru .nil)) ?_,rfl,q⟩;rw[af,bi];omega
def zp2:V->List V->Hp->VK->Prop:=λx vs H Q=> ∃l xs y,x= .ref l/\vs= []/\H l=some (.lst xs)/\xs[xs.length - 1]?=some y/\Q y (zI H l (.lst xs.dropLast))
theorem zmF:jT X "list.pop" zp2:=by
 (first | refine⟨?_⟩ | skip)
 intro pins s σ H x vs v us Q I rx rv h;obtain⟨l,xs,y,rfl,rfl,hH,hy,q⟩:=h;cases rx;have hus:=rv.zero;subst hus;obtain⟨z,its,n,r,hl,e⟩:=I.lstM hH;obtain⟨u,hu,ru⟩:=r.get hy;have hy':its.toArray[its.toArray.size - 1]?=some u:=by
  show its.toArray[its.length - 1]?=some u;rw[<- gw,<- hl];exact hu
 refine ka F.slot_list_pop ⟨_,e,rfl⟩ F.entry_list_pop (F.args_list_pop_1 _) (MeetsSeq.list_pop_last l its.toArray n u hy' (by rw[bo];omega)) ⟨e,?_⟩;refine⟨y,_,I.lset (its':=its.dropLast) hH e ?_ r.dropLast ?_,ru,q⟩
 ·show its.toArray.eraseIdxIfInBounds (its.toArray.size - 1)=its.dropLast.toArray
  rw[bo,ko,zlm]
 ·rw[uz]
  omega
def zp3:V->List V->Hp->VK->Prop:=λx vs H Q=> ∃l xs i k y,x= .ref l/\vs= [.int i]/\H l=some (.lst xs)/\ -(2 ^ 63)<=i/\i < 2 ^ 63/\seqIndex? i xs.length=some k/\xs[k]?=some y/\Q y (zI H l (.lst (xs.eraseIdx k)))
theorem zmG:jT X "list.pop" zp3:=by
 (first | refine⟨?_⟩ | skip)
 intro pins s σ H x vs v us Q I rx rv h;obtain⟨l,xs,i,k,y,rfl,rfl,hH,h1,h2,hk,hy,q⟩:=h;cases rx;obtain⟨u,rfl,ru⟩:=rv.one;obtain⟨t,rfl⟩:=ru;obtain⟨z,its,n,r,hl,e⟩:=I.lstM hH;obtain⟨w,hw,rw'⟩:=r.get hy;refine ka F.slot_list_pop ⟨_,e,rfl⟩ F.entry_list_pop (F.args_list_pop_2 _ _)
  (MeetsSeq.list_pop_at l its.toArray n i t k w (fitsIndex_both h1 h2) (by rw[bo,<- hl];exact hk) (by rw[<- gw];exact hw) (by rw[bo];omega)) ⟨e,?_⟩
 refine⟨y,_,I.lset (its':=its.eraseIdx k) hH e ?_ (r.eraseIdx k) ?_,rw',q⟩
 ·show its.toArray.eraseIdxIfInBounds k=(its.eraseIdx k).toArray
  rw[ko]
 ·have:=zg8 xs k
  omega
end
end L2
namespace Att
open PySem PySem.W PySem.Calls PyProof.Rows
theorem zlG {P:Params}{h:Heap} : ∀(ns:List Int) (vs:List Value),WellAll P h vs (ns.map WData.int)->IntsAre vs ns:=by
 intro ns
 induction ns with
 | nil=>
  intro vs w;rw[ir]at w;cases w;exact .nil
 | cons n ns ih=>
  intro vs w;rw[bb]at w;cases w with
  | cons a b=>
   cases a;exact .cons _ _ (ih _ b)
theorem zpQ {l:OpenLaw}{n:Nat}(hn:l.most=some n){P:Params}{h:Heap}{args:List WData}{vals:List Value}
  (hpre:l.row.toRowW.claim.pre args=true) (hwl:WellAll P h vals args):
  ∃a vs ns,vals= [Value.ref a]/\args= [WData.list (ns.map WData.int)]/\h.get? a=some {cls:= .type "list",data:= .seq vs.toArray} /\IntsAre vs ns/\ns.length<=n:=by
 have hsh:WShape.hasAll [] args [.list .int]=true:=(pre_splitW hpre).1;have hc:l.pre.holds [] {args:=args} =true:=(pre_splitW hpre).2;obtain⟨d,r,rfl,h1,h2⟩:=hasAllW_cons hsh;obtain rfl:=hasAllW_nil h2;obtain⟨xs,rfl,h3⟩:=hasW_list h1;obtain⟨ns,rfl⟩:=items_int h3;have hlen:ns.length<=n:=by
  unfold OpenLaw.pre at hc;have h4:(WTm.not (.lt (.lit (.int (n:Int))) (.len (.arg 0)))).holds [] {args:= [.list (ns.map .int)]} =true:=by
   have h4:=(holds_andW hc).1;rw[hn]at h4;exact h4
  have h5:=condW_of h4 (w_not (w_lt w_lit (w_len_list (w_arg rfl))));rw[aa]at h5;refine qq λq=> ?_;have q':(n:Int) < ((ns.length:Nat):Int):=by omega
  first
   | (rw[decide_eq_true q']at h5;exact absurd h5 (by decide))
   | (simp at h5;omega)
 cases hwl with
 | cons w1 w2=>
  cases w2;cases w1 with
  | list ho hall=>exact⟨_,_,ns,rfl,rfl,ho,zlG ns _ hall,hlen⟩
theorem zoM (l:OpenLaw)(args:List WData):l.row.toRowW.claim.post args (.bool true) args=true:=
 postW_of (r:=l.row.toRowW) (X:=(true==true))
  (show WShape.has [] (.bool true) .bool=true by first | rfl | decide | simp[WShape.has,WShape.arms,WShape.armsAll])
  (show(WTm.eq .res (.lit (.bool true))).value [] {args:=args,res:=some (.bool true),after:=args} =some (.bool (true==true))from w_eq_bool (w_res rfl) w_lit) rfl
theorem attach_call {l:OpenLaw}{n:Nat}{q:Program}{loose:List Str}{XP:(Str->Option Value)->Heap->Prop}{YP:World->Heap->Prop}{d:DefRec}
  (hn:l.most=some n) (hdf:d.params.defaults= [])
  (call: ∀(w:World) (s₀ s₁:Shared) (mg mb:Str->Option Value) (fa:Addr) (o:Obj) (pm cd doc:Value) (a:Addr) (vs:List Value) (ns:List Int),
   Ground q loose [] XP w s₀ mg mb s₁.heap->YP w s₁.heap->
   s₁.heap.get? fa=some o->o.data= .func (docDef d.name d.params d.body d.scope pm cd doc)->s₁.heap.CodeRec cd d.name->mg d.name=some (.ref fa)->
   s₁.heap.get? a=some {cls:= .type "list",data:= .seq vs.toArray} ->IntsAre vs ns->ns.length<=n->s₁.gens= #[]->
   codeAny (bt l.prog w) callerA (.call (.ref fa) ⟨[.ref a],[]⟩) (λr s'=>r= .ok (.ret (.bool true))/\OldK s₁.heap s'.heap/\s'.os=s₁.os/\AllBare s'.gens) s₁):
  WalkO q loose XP YP l.row.toRowW d [] (λf vs=>PySem.call f vs):=by
 intro w s₀ s₁ mg mb G Y fa o pm cd doc dV kV ho hd hcd hD hmg hg args vals as hpre hlay hrd hwl hlo;obtain rfl:dV= .none:=Dflts.none hD hdf;obtain rfl:kV= .none:=Dflts.noKw hD;obtain⟨a,vs,ns,rfl,rfl,hobj,hints,hlen⟩:=zpQ hn hpre hwl;refine enter_call (vq (call w s₀ s₁ mg mb fa o pm cd doc a vs ns G Y ho (fd_plain hd) hcd hmg hobj hints hlen hg) λr s' hq=> ?_);obtain⟨rfl,h2,h3,h4⟩:=hq;exact⟨.inl ⟨.bool true,.bool true,[],rfl,λ_=>rfl,.bool true,zoM l _,λ_=>⟨List.Pairwise.nil,λ_ hm=>(nomatch hm)⟩⟩,h2,h3,h4⟩
end Att
namespace L2
open PySem PySem.Spec PyProof.Rows
theorem zd6: ∀{vs:List Value} {ns:List Int},IntsAre vs ns->zK (ns.map V.int) vs
 | _,_,.nil=> .nil
 | _,_,.cons n t h=> .cons ⟨t,rfl⟩ (zd6 h)
def dI (H:Hp):Prop:= ∀b,H b=none∨∃o xs,H b=some (.frz o (.lst xs))
theorem zmi {P:Program}{w:World}{K:Frag}{mg mb:Str->Option Value}{CX:sV}{k:Nat}{fa a:Addr}{fd:FuncData}{x:Str}{sp:Sp}{s₁:Shared}{vs:List Value}{ns:List Int}
  (KX:K.In s₁.heap) (hns:s₁.heap.Ns mainGlobals mg) (hb:s₁.heap.Ns builtinsNs mb) (hbb: ∀x:Str,x≠ "__name__" ->mb x=bootBuiltins x) (hlim:s₁.heap.NoLimit) (hg:s₁.gens= #[])
  (ha:s₁.heap.get? a=some {cls:= .type "list",data:= .seq vs.toArray}) (hi:IntsAre vs ns) (hl:ns.length<=sizeLine) (hr:zU k callerA)
  (F: ∀base:Heap,K.In base->base.Ns mainGlobals mg->yG P w K mg base CX k fa fd [x] sp) (hbind: ∀(s:Shared) (u:Value),BindsTo s fd ⟨[u],[]⟩ [(x,u)])
  (hsp: ∀H:Hp,dI H->yE K H a (ns.map V.int)->sp [.ref a] H (λv _=>v= .bl true) λ_ _ _=>False)
  (hCX: ∀H e s',CX [] H s₁ (λ_ _ _=>False) e s'->False):
  codeAny (bt P w) callerA (.call (.ref fa) ⟨[.ref a],[]⟩) (λr s'=>r= .ok (.ret (.bool true))/\OldK s₁.heap s'.heap/\s'.os=s₁.os/\AllBare s'.gens) s₁:=by
 have rv:=zd6 hi;have lenV:=hi.length;have core: ∀H:Hp,dI H->yE K H a (ns.map V.int)->xK P w H s₁.heap->(∀b,H b≠none->b=a)->(H a≠none->K.lookup a=none)->
   codeAny (bt P w) callerA (.call (.ref fa) ⟨[.ref a],[]⟩) (λr s'=>r= .ok (.ret (.bool true))/\OldK s₁.heap s'.heap/\s'.os=s₁.os/\AllBare s'.gens) s₁:=by
  intro H hO hS hok hA hK;have base_of: ∀{b:Addr} {o:Obj},s₁.heap.get? b=some o->H b=none->(q9 s₁.heap H).get? b=some o:=λe n=>zl5 e n;have noA: ∀{b:Addr} {o:Obj} {es:Array DictEntry} {ep:Nat},s₁.heap.get? b=some o->o.data= .dict es ep->H b=none:=λ{b o es ep} e d=>by
   cases q:H b with
   | none=>rfl
   | some u=>
    have e':b=a:=hA b (by rw[q];simp);subst e';rw[ha]at e;cases e;have d':Data.seq vs.toArray _=Data.dict es ep:=d;cases d'
  have nsK: ∀{b:Addr} {m:Str->Option Value},s₁.heap.Ns b m->(q9 s₁.heap H).Ns b m:=λ{b m} ⟨o,es,ep,e,d,r⟩=>⟨o,es,ep,base_of e (noA e d),d,r⟩;have hKb:K.In (q9 s₁.heap H):=λb o e=>base_of (KX b o e) (by
   cases q:H b with
   | none=>rfl
   | some u=>
    have e':b=a:=hA b (by rw[q];simp);subst e';rw[hK (by rw[q];simp)]at e;cases e)
  have hM:Mod K mg (q9 s₁.heap H):=⟨hKb,nsK hns,⟨mb,nsK hb,hbb⟩,let⟨mc,h1,h2⟩:=hlim;⟨mc,nsK h1,h2⟩⟩;have e0:jF P w K mg (q9 s₁.heap H) callerA [] s₁ H:=⟨rfl,hM,λb o e=>zno e,Nat.le_of_eq (zl6 _ _),trivial,λb hb=>absurd (show b∈([]:List Addr)from hb) (by simp),hok,.of_eq hg⟩;refine vq ((F _ hKb (nsK hns)).run callerA [] s₁ H ⟨[.ref a],[]⟩ [.ref a] [.ref a] _ _ hr e0 (hbind s₁ (.ref a)) (.cons rfl .nil) (hsp H hO hS)) λr s' h=> ?_;cases r with
  | error e=>exact(hCX H e s' h).elim
  | ok fl=>
   cases fl with
   | next=>exact False.elim h
   | brk=>exact False.elim h
   | cont=>exact False.elim h
   | ret u=>
    obtain⟨v,H',os,bare,un,hok',r',q⟩:=h;have q':v= .bl true:=q;subst q';obtain rfl:u=Value.bool true:=r';refine⟨rfl,OldK.of_keep λb o e=> ?_,os,bare⟩;cases q:H b with
    | none=>exact un.keep b o e q (by intro z;exact absurd (show b∈([]:List Addr)from z) (by simp)) (by simp)
    | some u=>
     rcases hO b with z | ⟨ob,xs,z⟩
     ·rw[q]at z;cases z
     ·have z2:=un.frzs b ob _ z
      obtain⟨e1,_⟩:=hok b _ z;obtain⟨e2,_⟩:=hok' b _ z2;rw[e]at e1;cases e1;exact e2
 cases hk:K.lookup a with
 | some o=>
  have e:=KX a o hk;rw[ha]at e;cases e;refine core (λ_=>none) (λ_=> .inl rfl) (.inr ⟨_,vs.toArray,_,hk,rfl,rfl,rfl,by rw[bo,lenV];exact hl,by simpa using rv,rfl⟩) (λb u z=>by have z':(none:Option HO)=some u:=z;cases z') (λb z=>absurd rfl z) λz=>absurd rfl z
 | none=>
  refine core (λb=>if b=a then some (.frz {cls:= .type "list",data:= .seq vs.toArray} (.lst (ns.map V.int)))else none) (λb=> ?_) (.inl (.inr ⟨{cls:= .type "list",data:= .seq vs.toArray},if_pos rfl⟩)) (λb u z=> ?_) (λb z=> ?_) λ_=>hk
  ·by_cases hb:b=a
   ·exact .inr ⟨_,_,if_pos hb⟩
   ·exact .inl (if_neg hb)
  ·by_cases hb:b=a
   ·have z':=(if_pos hb).symm.trans z
    cases z';subst hb;exact⟨ha,by rw[aa];exact hl,vs,_,rv,ha⟩
   ·have z':=(if_neg hb).symm.trans z
    cases z'
  ·by_cases hb:b=a
   ·exact hb
   ·exact absurd (if_neg hb) z
theorem walk_of {l:PySem.W.OpenLaw}{n k:Nat}{q:Program}{loose:List Str}{XP:(Str->Option Value)->Heap->Prop}{YP:World->Heap->Prop}{d:DefRec}{K:Params->Frag}{CX:World->sV}{sp:World->Sp}{x:Str}
  (hn:l.most=some n) (hn2:n<=sizeLine) (hdf:d.params.defaults= []) (hr:zU k callerA)
  (hY: ∀(w:World) (h:Heap),YP w h->(K w.params).In h)
  (F: ∀(w:World) (mg:Str->Option Value) (fa:Addr) (h:Heap),(K w.params).In h->h.Ns mainGlobals mg->mg d.name=some (.ref fa)->
   ∃fd:FuncData,(∀(s:Shared) (u:Value),BindsTo s fd ⟨[u],[]⟩ [(x,u)])/\
    ∀base:Heap,(K w.params).In base->base.Ns mainGlobals mg->yG l.prog w (K w.params) mg base (CX w) k fa fd [x] (sp w))
  (hsp: ∀(w:World) (H:Hp) (a:Addr) (ns:List Int),ns.length<=n->dI H->yE (K w.params) H a (ns.map V.int)->sp w [.ref a] H (λv _=>v= .bl true) λ_ _ _=>False)
  (hCX: ∀(w:World) (H:Hp) (s:Shared) (e:Value) (s':Shared),CX w [] H s (λ_ _ _=>False) e s'->False):
  PySem.W.WalkO q loose XP YP l.row.toRowW d [] (λf vs=>PySem.call f vs):=by
 refine Att.attach_call hn hdf λw s₀ s₁ mg mb fa o pm cd doc a vs ns G Y ho hd hcd hmg hobj hints hlen hg=> ?_;have KX:=hY w _ Y;obtain⟨fd,hb,hF⟩:=F w mg fa _ KX G.T.g hmg;exact zmi KX G.T.g G.T.b G.T.builtins G.T.nolimit hg hobj hints (bq hlen hn2) hr hF hb (λH hO hS=>hsp w H a ns hlen hO hS) λH e s'=>hCX w H s₁ e s'
def nG (s:Stmt):Arguments:=match s with
 | .FunctionDef _ a _ _ _ _ _ _ _ _=>a
 | _=> {posonlyargs:= [],args:= [],vararg:=none,kwonlyargs:= [],kw_defaults:= [],kwarg:=none,defaults:= []}
def qU (s:Stmt):List Stmt:=match s with
 | .FunctionDef _ _ b _ _ _ _ _ _ _=>b
 | _=> []
def y4 (s:Stmt):Scope:=match s with
 | .FunctionDef _ _ _ _ _ _ sc _ _ _=>sc
 | _=> {kind:= .function,names:= [],isGenerator:=false,isCoroutine:=false}
abbrev yH:sV:=λ_ _ _ _ _ _=>False
abbrev E0:XK:=λ_ _ _=>False
theorem zoa {X:Cx} :dL yH X E0:=λ_ _ _ _ _ _ _ h=>h.elim
structure yP (K:Frag)(x qual:Str)(st:Stmt)(f:Addr)(fd:FuncData):Prop where
 ex: ∃(oc:Value) (od:Option Addr) (kV doc pm:Value) (an:Option Addr) (cdv ct:Value) (osl:Array (Option Value)),
  fd=fnOf x qual (nG st) (qU st) (y4 st) .none kV doc pm an cdv ct/\K.lookup f=some ⟨oc,od,.func fd,osl⟩/\codeIn K cdv qual=true
 kp:keepIn K (.ref f)=true
section
variable {P:Program} {w:World} {K:Frag} {mg:Str->Option Value} {base:Heap}
theorem yP.ok {x qual:Str}{st:Stmt}{f:Addr}{fd:FuncData}{N ps:List Str}{k:Nat}{sp:Sp}(F:yP K x qual st f fd)(S:yW N ps (y4 st))(len: ∀vs H Q E,sp vs H Q E->vs.length=ps.length)
  (hbody: ∀(cdv:Value) (A:Around) (outer:List Env) (s:Shared) (H:Hp) (vs:List V) (Q:VK) (E:XK),zU k (A.deeper (envOfC qual (y4 st) s.heap.objs.size f cdv))->sp vs H Q E->
   ∃t,xB (o3 yH P w K mg base N qual (y4 st) f cdv A outer s H E).nox (qU st) t/\t {nx:=λ_ H'=>Q .non H',rt:=Q} (start N vs) H):yG P w K mg base yH (k+1) f fd ps sp:=by
 obtain⟨oc,od,kV,doc,pm,an,cdv,ct,osl,rfl,lk,hcd⟩:=F.ex;refine zlt lk hcd S len λA outer s H vs Q E hr hsp=> ?_;obtain⟨t,h,q⟩:=hbody cdv A outer s H vs Q E hr hsp;exact⟨t,h.nox,q⟩
theorem yP.binds {x qual:Str}{st:Stmt}{f:Addr}{fd:FuncData}{ps:List Str}(F:yP K x qual st f fd)
  (h: ∀(kV doc pm:Value) (an:Option Addr) (cdv ct:Value) (us:List Value),us.length=ps.length->bindArgs (fnOf x qual (nG st) (qU st) (y4 st) .none kV doc pm an cdv ct) ⟨us,[]⟩=pure (ps.zip us)):tP K fd ps []:=by
 obtain⟨oc,od,kV,doc,pm,an,cdv,ct,osl,rfl,lk,hcd⟩:=F.ex;exact .all (h kV doc pm an cdv ct)
theorem zb8 {x qual:Str}{st:Stmt}{f:Addr}{oc:Value}{od an:Option Addr}{osl:Array (Option Value)}{kV doc pm cdv ct:Value}(l:K.lookup f=some ⟨oc,od,.func (fnOf x qual (nG st) (qU st) (y4 st) .none kV doc pm an cdv ct),osl⟩)
  (c:codeIn K cdv qual=true) (k:keepIn K (.ref f)=true):yP K x qual st f (fnOf x qual (nG st) (qU st) (y4 st) .none kV doc pm an cdv ct):=⟨⟨oc,od,kV,doc,pm,an,cdv,ct,osl,rfl,l,c⟩,k⟩
end
theorem zbI {c A B:Prop}[Decidable c](h1:c->A)(h2: ¬ c->B):if c then A else B:=by
 by_cases h:c
 ·rw[if_pos h]
  exact h1 h
 ·rw[if_neg h]
  exact h2 h
set_option Elab.async false
set_option linter.all false
set_option maxRecDepth 100000
section
variable {κ:Type} [DecidableEq κ]
def vG (kvs:List (κ×V))(k:κ):Option V:=(kvs.find? λkv=>decide (kv.1=k)).map (·.2)
def wM (kvs:List (κ×V))(k:κ)(v:V):List (κ×V):=
 if(kvs.any λkv=>decide (kv.1=k))=true then kvs.map (λkv=>if kv.1=k then(kv.1,v)else kv)else kvs++ [(k,v)]
theorem jB {p:κ×V}{r:List (κ×V)}{k:κ}(e:p.1=k):vG (p::r) k=some p.2:=by simp[vG,cx,e]
theorem jA {p:κ×V}{r:List (κ×V)}{k:κ}(e: ¬ p.1=k):vG (p::r) k=vG r k:=by simp[vG,cx,e]
theorem ziR (k:κ): ∀kvs:List (κ×V),(kvs.any λkv=>decide (kv.1=k))=(vG kvs k).isSome
 | []=>rfl
 | p::r=>by
  rw[iw];by_cases e:p.1=k
  ·simp only[jB e,decide_eq_true e,Bool.true_or,vy]
  ·rw[jA e,decide_eq_false e,Bool.false_or];exact ziR k r
theorem nO (kvs:List (κ×V))(k:κ)(v:V):(wM kvs k v).length<=kvs.length+1:=by
 unfold wM
 split
 ·rw[aa];omega
 ·rw[af,cg,jm];omega
theorem sY.isSome_eq {o:Option V}{u:Option Value}(r:sY o u):o.isSome=u.isSome:=by
 cases o with
 | none=>cases u with
  | none=>rfl
  | some _=>exact(show False from r).elim
 | some _=>cases u with
  | none=>exact(show False from r).elim
  | some _=>rfl
theorem KV.val {kvs:List (κ×V)}{vs:List (κ×Value)}(r:KV kvs vs)(k:κ):sY (vG kvs k) (valueAt vs k):=by
 unfold KV at r
 induction r with
 | nil=>exact True.intro
 | @cons p q ps qs h t ih=>
  obtain⟨h1,h2⟩:=h;by_cases e:p.1=k
  ·have e':q.1=k:=h1.symm.trans e
   have b:valueAt (q::qs) k=some q.2:=by simp[valueAt,cx,e']
   rw[jB e,b];exact h2
  ·have e': ¬ q.1=k:=λz=>e (h1.trans z)
   have b:valueAt (q::qs) k=valueAt qs k:=by simp[valueAt,cx,e']
   rw[jA e,b];exact ih
theorem KV.any {kvs:List (κ×V)}{vs:List (κ×Value)}(r:KV kvs vs)(k:κ):(kvs.any λkv=>decide (kv.1=k))=vs.any λkv=>decide (kv.1=k):=by
 unfold KV at r
 induction r with
 | nil=>rfl
 | cons h t ih=>rw[iw,iw,ih,h.1]
theorem KV.repl {kvs:List (κ×V)}{vs:List (κ×Value)}(r:KV kvs vs)(k:κ){y:V}{u:Value}(ry:zT y u):
  KV (kvs.map λkv=>if kv.1=k then(kv.1,y)else kv) (vs.map λkv=>if kv.1=k then(kv.1,u)else kv):=by
 unfold KV at r⊢
 induction r with
 | nil=>exact .nil
 | @cons p q ps qs h t ih=>
  rw[bb,bb];refine .cons ?_ ih;obtain⟨h1,h2⟩:=h;by_cases e:p.1=k
  ·rw[if_pos e,if_pos (h1.symm.trans e)];exact⟨h1,ry⟩
  ·rw[if_neg e,if_neg (λz=>e (h1.trans z))];exact⟨h1,h2⟩
theorem KV.put {kvs:List (κ×V)}{vs:List (κ×Value)}(r:KV kvs vs)(k:κ){y:V}{u:Value}(ry:zT y u):KV (wM kvs k y) (stored vs k u):=by
 unfold wM stored;rw[r.any k];by_cases e:(vs.any λkv=>decide (kv.1=k))=true
 ·rw[if_pos e,if_pos e];exact r.repl k ry
 ·rw[if_neg e,if_neg e];exact Paired.snoc r ⟨rfl,ry⟩
theorem KV.length {kvs:List (κ×V)}{vs:List (κ×Value)}(r:KV kvs vs):kvs.length=vs.length:=ib r
end
theorem qW {P:Program}{w:World}{k:z8}{u:Value}(r:zT (kV k) u):(xN P w).is k u=true:=by
 cases k with
 | inl i=>obtain⟨t,e⟩:=(show ∃t,u=Value.int i t from r);subst e;exact zmB P w i t
 | inr x=>obtain⟨t,e⟩:=(show ∃t,u=Value.str x t from r);subst e;exact zmC P w x t
theorem zg0 {P:Program}{w:World} : ∀{ks:List z8} {us:List Value},zK (ks.map kV) us->ItemsAre (xN P w) ks us
 | [],_,r=>by rw[ir]at r;cases r;exact .nil
 | k::ks,_,r=>by
  rw[bb]at r;cases r with
  | cons h t=>exact .cons (qW h) (zg0 t)
abbrev KT (H:Hp):List (List z8×V)->List (List z8×Addr×Value)->Prop:=Paired λp q=>p.1=q.1/\H q.2.1=some (.tup (p.1.map kV))/\zT p.2 q.2.2
theorem KT.val {H:Hp}{kvs:List (List z8×V)}{xs:List (List z8×Addr×Value)}(r:KT H kvs xs)(k:List z8):sY (vG kvs k) ((atKey xs k).map (·.2)):=by
 induction r with
 | nil=>exact True.intro
 | @cons p q ps qs h t ih=>
  obtain⟨h1,_,h2⟩:=h;by_cases e:p.1=k
  ·have e':q.1=k:=h1.symm.trans e
   have b:atKey (q::qs) k=some q.2:=by simp[atKey,cx,e']
   rw[jB e,b];exact h2
  ·have e': ¬ q.1=k:=λz=>e (h1.trans z)
   have b:atKey (q::qs) k=atKey qs k:=by simp[atKey,cx,e']
   rw[jA e,b];exact ih
theorem KT.repl {H:Hp}{kvs:List (List z8×V)}{xs:List (List z8×Addr×Value)}(r:KT H kvs xs)(k:List z8){y:V}{u:Value}(ry:zT y u):
  KT H (kvs.map λkv=>if kv.1=k then(kv.1,y)else kv) (xs.map (putAt k u)):=by
 induction r with
 | nil=>exact .nil
 | @cons p q ps qs h t ih=>
  rw[bb,bb];refine .cons ?_ ih;obtain⟨h1,h2,h3⟩:=h;unfold putAt;by_cases e:p.1=k
  ·rw[if_pos e,if_pos (h1.symm.trans e)];exact⟨h1,h2,ry⟩
  ·rw[if_neg e,if_neg (λz=>e (h1.trans z))];exact⟨h1,h2,h3⟩
theorem KT.put {H:Hp}{kvs:List (List z8×V)}{xs:List (List z8×Addr×Value)}(r:KT H kvs xs)(k:List z8){b:Addr}{y:V}{u:Value}(hb:H b=some (.tup (k.map kV)))(ry:zT y u):
  KT H (wM kvs k y) (storedH xs k b u):=by
 have e:(kvs.any λkv=>decide (kv.1=k))=(atKey xs k).isSome:=by
  rw[ziR,(r.val k).isSome_eq,qg]
 unfold wM storedH;rw[e];by_cases q:(atKey xs k).isSome=true
 ·rw[if_pos q,if_pos q];exact r.repl k ry
 ·rw[if_neg q,if_neg q];exact Paired.snoc r ⟨rfl,hb,ry⟩
theorem KT.keeps {H H':Hp}{kvs:List (List z8×V)}{xs:List (List z8×Addr×Value)}(r:KT H kvs xs)(ht: ∀b ys,H b=some (.tup ys)->H' b=some (.tup ys)):KT H' kvs xs:=
 Paired.mapP r λ_ _ z=>⟨z.1,ht _ _ z.2.1,z.2.2⟩
section
variable {P:Program} {w:World} {H:Hp} {h:Heap} {a:Addr}
theorem zhK {u:HO}(ok:xK P w H h)(e:Rd H a u):wK P w H h a u:=e.ok ok
theorem nH {kvs:List (z8×V)}(ok:xK P w H h)(e:Rd H a (.dK kvs)):kvs.length<=sizeLine/\(a==sysModules)=false/\∃vs,KV kvs vs/\h.DictOf (xN P w) a vs:=
 show wK P w H h a (.dK kvs)from zhK ok e
theorem lG {kvs:List (z8×V)}(ok:xK P w H h)(e:H a=some (.dK kvs)):kvs.length<=sizeLine/\(a==sysModules)=false/\∃vs,KV kvs vs/\h.DictOf (xN P w) a vs:=nH ok (.inl e)
theorem lS {ks:List z8}(ok:xK P w H h)(e:H a=some (.tup (ks.map kV))):(tupleKind (xN P w)).is h ks a:=by
 obtain⟨_,its,r,o,h1,h2,n,h3,_⟩:=(show wK P w H h a (.tup (ks.map kV))from ok a _ e);exact⟨o,its.toArray,n,h1,h2,h3,by simpa using zg0 r⟩
theorem lH {kvs:List (List z8×V)}(ok:xK P w H h)(e:Rd H a (.dT kvs)):kvs.length<=sizeLine/\(a==sysModules)=false/\
  ∃xs,KT H kvs xs/\h.DictOfH (tupleKind (xN P w)) a xs:=by
 obtain⟨z,y,xs,r,o,es,ep,h1,h2,h3,h4,h5⟩:=(show wK P w H h a (.dT kvs)from zhK ok e);refine⟨z,y,xs,r,o,es,ep,h1,h2,h3,h4,λx hx=> ?_,h5⟩;have all: ∀{l:List (List z8×V)} {m:List (List z8×Addr×Value)},KT H l m->∀x∈m,(tupleKind (xN P w)).is h x.1 x.2.1:=by
  intro l m q
  induction q with
  | nil=>intro x hx;exact nomatch hx
  | @cons p q ps qs hq t ih=>
   intro x hx;rcases bd.mp hx with e | hx
   ·subst e
    exact lS ok (by rw[<- hq.1];exact hq.2.1)
   ·exact ih x hx
 exact all r x hx
theorem zlc {kvs:List (List z8×V)}(ok:xK P w H h)(e:H a=some (.dT kvs)):kvs.length<=sizeLine/\(a==sysModules)=false/\
  ∃xs,KT H kvs xs/\h.DictOfH (tupleKind (xN P w)) a xs:=lH ok (.inl e)
end
def mO (H:Hp)(a:Addr)(y:V)(r:Option V):Prop:=
 (∃kvs k,Rd H a (.dK kvs)/\y=kV k/\r=vG kvs k)∨∃kvs k b,Rd H a (.dT kvs)/\y= .ref b/\H b=some (.tup (k.map kV))/\r=vG kvs k
def zjb (H:Hp)(a:Addr)(y v:V)(H':Hp):Prop:=
 (∃kvs k,H a=some (.dK kvs)/\y=kV k/\kvs.length < sizeLine/\H'=zI H a (.dK (wM kvs k v)))∨
 ∃kvs k b,H a=some (.dT kvs)/\y= .ref b/\H b=some (.tup (k.map kV))/\kvs.length < sizeLine/\H'=zI H a (.dT (wM kvs k v))
section
variable {X:Cx} {pins:List (Addr×Obj)} {σ:St} {H:Hp} {s:Shared} {a:Addr} {y v:V} {u r:Value} {o:Option V} {A:Around} {E:Value->Shared->Prop}
theorem z6.big (I:z6 X pins σ H s):sysModules < s.heap.objs.size:=by
 have h:mainGlobals < s.heap.objs.size:=(I.mod.glob.keeps I.bk).lt;exact fc (by decide) h
theorem zkP {Q:Value->Shared->Prop}(hu:A.units+1 < cLine)(I:z6 X pins σ H s)(g:mO H a y (some v))(ry:zT y u)(h: ∀w' s',z6 X pins σ H s'->zT v w'->Q w' s'):
  bf (bt X.prog X.w) A (getItem (.ref a) u) Q E s:=by
 rcases g with⟨kvs,k,e,ey,l⟩ | ⟨kvs,k,b,e,ey,eb,l⟩
 ·subst ey
  obtain⟨z,hd,vs,rel,dd⟩:=nH I.hok e;obtain⟨w',hw,rw'⟩:=sY.some_of (v:=v) (o:=valueAt vs k) (by rw[l];exact rel.val k);exact wpAny_getItem_of (qW ry) dd.mapOf hw (h w' _ (I.tok _) rw')
 ·subst ey
  cases(show u=Value.ref b from ry);obtain⟨z,hd,xs,rel,dd⟩:=lH I.hok e;obtain⟨w',hw,rw'⟩:=sY.some_of (v:=v) (o:=(atKey xs k).map (·.2)) (by rw[l];exact rel.val k);obtain⟨p,hp,hp2⟩:=Option.map_eq_some_iff.mp hw;refine wpAny_getItem_heap (mv hu) (lS I.hok eb) dd hp ?_;rw[hp2];exact h w' _ (I.tok _) rw'
theorem zkQ {Q:Value->Shared->Prop}(hu:A.units+1 < cLine)(I:z6 X pins σ H s)(g:mO H a y o)(ry:zT y u)(h: ∀s',z6 X pins σ H s'->Q (.bool o.isSome) s'):
  bf (bt X.prog X.w) A (compareOp .In u (.ref a)) Q E s:=by
 rcases g with⟨kvs,k,e,ey,l⟩ | ⟨kvs,k,b,e,ey,eb,l⟩
 ·subst ey
  obtain⟨z,hd,vs,rel,dd⟩:=nH I.hok e;refine wpAny_in_of (qW ry) hd dd.mapOf ?_;rw[<- (rel.val k).isSome_eq,<- l];exact h _ (I.tok _)
 ·subst ey
  cases(show u=Value.ref b from ry);obtain⟨z,hd,xs,rel,dd⟩:=lH I.hok e;refine wpAny_in_heap (mv hu) (lS I.hok eb) hd dd ?_;have q:=(rel.val k).isSome_eq;rw[qg]at q;rw[<- q,<- l];exact h _ (I.tok _)
theorem zkS {Q:Value->Shared->Prop}(hu:A.units+1 < cLine)(I:z6 X pins σ H s)(g:mO H a y o)(ry:zT y u)(h: ∀s',z6 X pins σ H s'->Q (.bool (!o.isSome)) s'):
  bf (bt X.prog X.w) A (compareOp .NotIn u (.ref a)) Q E s:=by
 rcases g with⟨kvs,k,e,ey,l⟩ | ⟨kvs,k,b,e,ey,eb,l⟩
 ·subst ey
  obtain⟨z,hd,vs,rel,dd⟩:=nH I.hok e;refine wpAny_notIn_of (qW ry) hd dd.mapOf ?_;rw[<- (rel.val k).isSome_eq,<- l];exact h _ (I.tok _)
 ·subst ey
  cases(show u=Value.ref b from ry);obtain⟨z,hd,xs,rel,dd⟩:=lH I.hok e;refine wpAny_notIn_heap (mv hu) (lS I.hok eb) hd dd ?_;have q:=(rel.val k).isSome_eq;rw[qg]at q;rw[<- q,<- l];exact h _ (I.tok _)
theorem iJ {h':Heap}{t':Nat}{ob:HO}(I:z6 X pins σ H s)(mu:mV (H a))(hs:Heap.SameBut a s.heap h')(he: ∃q,h'.get? a=some q)(new:wK X.prog X.w (zI H a ob) h' a ob):
  z6 X pins σ (zI H a ob) {s with heap:=h',toks:=t'} :=
 I.write (x:=a) (e:=a) mu (.inl rfl) (λb q hb z=>(hs.2 b hb).trans z) he new
theorem lF {P:Program}{w:World}{H':Hp}{h':Heap}{kvs:List (z8×V)}{vs:List (z8×Value)}(z:kvs.length<=sizeLine)(hd:(a==sysModules)=false)(rel:KV kvs vs)(dd:h'.DictOf (xN P w) a vs):
  wK P w H' h' a (.dK kvs):=⟨z,hd,vs,rel,dd⟩
theorem zeG {H':Hp}{Q:Unit->Shared->Prop}(hu:A.units+1 < cLine)(I:z6 X pins σ H s)(g:zjb H a y v H')(ry:zT y u)(rv:zT v r)(h: ∀s',z6 X pins σ H' s'->Q () s'):
  bf (bt X.prog X.w) A (setItem (.ref a) u r) Q E s:=by
 rcases g with⟨kvs,k,e,ey,l,eH⟩ | ⟨kvs,k,b,e,ey,eb,l,eH⟩
 ·subst ey eH
  obtain⟨z,hd,vs,rel,dd⟩:=lG I.hok e;have hz:vs.length<=sizeLine:=by rw[<- rel.length];exact z
  have hl:(wM kvs k v).length<=sizeLine:=by have:=nO kvs k v;omega
  refine wpAny_setItem_pairs (hsz:=hz) (qW ry) dd λh' dd' hs=>h _ ?_;have he: ∃q,h'.get? a=some q:=let⟨q,_,_,hq,_⟩:=dd';⟨q,hq⟩;exact iJ I (by rw[e];exact True.intro) hs he (lF hl hd (rel.put k rv) dd')
 ·subst ey eH
  cases(show u=Value.ref b from ry);obtain⟨z,hd,xs,rel,dd⟩:=zlc I.hok e;have hz:xs.length<=sizeLine:=by rw[<- ib rel];exact z
  have hl:(wM kvs k v).length<=sizeLine:=by have:=nO kvs k v;omega
  refine wpAny_setItem_heap (hsz:=hz) (mv hu) (lS I.hok eb) dd λh' dd' hs=>h _ ?_;obtain⟨q,es,ep,hq,h2,h3,h4,_,h5⟩:=dd';refine iJ I (by rw[e];exact True.intro) hs ⟨q,hq⟩ ⟨hl,hd,_,(rel.put k eb rv).keeps λc ys ec=> ?_,q,es,ep,hq,h2,h3,h4,h5⟩;rw[yO (zmU ec e (λz=>nomatch z))];exact ec
end
section
variable {X:Cx} {pins:List (Addr×Obj)} {σ:St} {H:Hp} {s:Shared} {a:Addr} {kvs:List (z8×V)} {k:z8} {u:Value} {A:Around} {E:Value->Shared->Prop}
theorem zkR {Q:Value->Shared->Prop}(I:z6 X pins σ H s)(e:Rd H a (.dK kvs))(h: ∀t s',z6 X pins σ H s'->Q (.int kvs.length t) s'):bf (bt X.prog X.w) A (call (.builtin "len") [.ref a]) Q E s:=by
 obtain⟨z,hd,vs,rel,dd⟩:=nH I.hok e;refine call_len_dict hd dd (by rw[<- rel.length];rw[cp]at z;omega) ?_;rw[<- rel.length];exact h _ _ (I.tok _)
end
theorem zkV {X:Cx}{pins:List (Addr×Obj)}{σ:St}{H:Hp}{s:Shared}{a:Addr}{y:V}{o:Option V}(I:z6 X pins σ H s)(g:mO H a y o):s.TypeIs (.ref a) "dict" :=by
 rcases g with⟨kvs,k,e,_,_⟩ | ⟨kvs,k,b,e,_,_,_⟩
 ·obtain⟨_,_,vs,_,dd⟩:=nH I.hok e
  exact dd.typeIs
 ·obtain⟨_,_,xs,_,dd⟩:=lH I.hok e
  exact dd.typeIs
theorem zeI {P:Program}{w:World}{H:Hp}(h:Heap)(hb:sysModules < h.objs.size):wK P w H (h.push {cls:= .type "dict",data:= .dict #[]}) h.objs.size (.dK []):=
 ⟨eh _,beq_eq_false_iff_ne.mpr (gb (bj hb)),[],.nil,su h⟩
def zdk:TE:=λ_ H Q=> ∀p,H p=none->Q (.ref p) (zI H p (.dK []))
section
variable {X:Cx} {pos:Pos}
theorem zco:PE X (.Dict [] [] pos) zdk:=⟨λpins s σ H Q I h=>
 wpAny_Dict_empty ⟨.ref s.heap.objs.size,_,I.laid (a:=s.heap.objs.size) (o:= .dK []) (t':=s.toks) (λ_ _ q=>ar _ q) (ak _) (zeI s.heap I.big),rfl,h _ (I.hok.fresh (ak _))⟩⟩
end
def fQ:List (TE×TE)->St->Hp->(List (V×V)->Hp->Prop)->Prop
 | [],_,H,Q=>Q [] H
 | (tk,tv)::r,σ,H,Q=>tk σ H λx H1=>tv σ H1 λy H2=>fQ r σ H2 λps H3=>Q ((x,y)::ps) H3
abbrev VV:List (V×V)->List (Value×Value)->Prop:=Paired λp q=>zT p.1 q.1/\zT p.2 q.2
def qP (X:Cx)(pos:Pos)(keys:List (Option Expr))(values:List Expr)(trs:List (TE×TE)):Prop:=
 ∀(pins:List (Addr×Obj)) (s:Shared) (σ:St) (H:Hp) (Q:List (V×V)->Hp->Prop),z6 X pins σ H s->fQ trs σ H Q->
  bf (bt X.prog X.w) X.A (evalPairs (pairTrees keys values X.env pos)) (λvs s'=> ∃ps H',z6 X pins σ H' s'/\VV ps vs/\Q ps H') X.xe s
theorem zoO {X:Cx}{pos:Pos} :qP X pos [] [] []:=λpins s σ H Q I h=>pairTrees_nil_walk ⟨[],H,I,.nil,h⟩
theorem zoN {X:Cx}{pos:Pos}{k v:Expr}{ks:List (Option Expr)}{vs:List Expr}{tk tv:TE}{trs:List (TE×TE)}(hk:PE X k tk)(hv:PE X v tv)(hr:qP X pos ks vs trs):
  qP X pos (some k::ks) (v::vs) ((tk,tv)::trs):=λpins s σ H Q I h=>
 pairTrees_cons_walk (zR (hk pins s σ H _ I h) λu s1 ⟨x,H1,I1,rx,q1⟩=>zR (hv pins s1 σ H1 _ I1 q1) λw2 s2 ⟨y,H2,I2,ry,q2⟩=>
  zR (hr pins s2 σ H2 _ I2 q2) λws s3 ⟨ps,H3,I3,rel,q3⟩=>⟨(x,y)::ps,H3,I3,.cons ⟨rx,ry⟩ rel,q3⟩)
def uS (kvs more:List (z8×V)):List (z8×V):=more.foldl (λacc kv=>wM acc kv.1 kv.2) kvs
theorem KV.merge: ∀{more:List (z8×V)} {rs:List (z8×Value)} {kvs:List (z8×V)} {vs:List (z8×Value)},KV more rs->KV kvs vs->KV (uS kvs more) (merged vs rs):=by
 intro more rs kvs vs r;unfold KV at r
 induction r generalizing kvs vs with
 | nil=>intro q;exact q
 | @cons p q ps qs h t ih=>
  intro r0;have e:KV (wM kvs p.1 p.2) (stored vs q.1 q.2):=by
   have:=r0.put p.1 h.2;rw[<- h.1];exact this
  exact ih e
theorem lV: ∀(more kvs:List (z8×V)),(uS kvs more).length<=kvs.length+more.length
 | [],kvs=>by show kvs.length<=kvs.length+0;omega
 | p::r,kvs=>by
  have h1:=lV r (wM kvs p.1 p.2);have h2:=nO kvs p.1 p.2;show(uS (wM kvs p.1 p.2) r).length<=_;rw[cg];omega
theorem ze4 {P:Program}{w:World} : ∀{kvs:List (z8×V)} {ws:List (Value×Value)},VV (kvs.map λkv=>(kV kv.1,kv.2)) ws->∃rs,Carries (xN P w) ws rs/\KV kvs rs
 | [],_,r=>by rw[ir]at r;cases r;exact⟨[],True.intro,.nil⟩
 | p::kvs,_,r=>by
  rw[bb]at r;cases r with
  | @cons a b as bs h t=>
   obtain⟨rs,c,q⟩:=ze4 (P:=P) (w:=w) t;obtain⟨b1,b2⟩:=b;exact⟨(p.1,b2)::rs,⟨qW h.1,rfl,c⟩,.cons ⟨rfl,h.2⟩ q⟩
def zq9 (trs:List (TE×TE)):TE:=λσ H Q=> ∀p,H p=none->fQ trs σ (zI H p (.dK [])) λps H2=>H2 p=some (.dK [])/\∃kvs:List (z8×V),ps=kvs.map (λkv=>(kV kv.1,kv.2))/\kvs.length<=15/\Q (.ref p) (zI H2 p (.dK (uS [] kvs)))
theorem zom {X:Cx}{pos:Pos}{keys:List (Option Expr)}{values:List Expr}{trs:List (TE×TE)}(h:qP X pos keys values trs)(hall:keys.all (·.isSome)=true)(hl:keys.length=values.length)(h0:keys≠ [])
  (h15:keys.length<=15):PE X (.Dict keys values pos) (zq9 trs):=by
 (first | refine⟨?_⟩ | skip)
 intro pins s σ H Q I q;have hn:=I.hok.fresh (ak s.heap.objs.size);have I1:=I.laid (a:=s.heap.objs.size) (o:= .dK []) (h':=s.heap.push {cls:= .type "dict",data:= .dict #[]}) (t':=s.toks) (λ_ _ q=>ar _ q) (ak _) (zeI s.heap I.big);refine wpAny_Dict_walk (knd:=xN X.prog X.w) hall hl h0 h15 (zR (h pins _ σ _ _ I1 (q _ hn)) λws s2 ⟨ps,H2,I2,rel,e,kvs,ep,lk,q2⟩=> ?_);subst ep;obtain⟨rs,c,rk⟩:=ze4 (P:=X.prog) (w:=X.w) rel;obtain⟨z,hd,vs0,r0,dd⟩:=lG I2.hok e;cases r0;refine⟨rs,c,dd,λh' dd' hs=>⟨.ref s.heap.objs.size,_,?_,rfl,q2⟩⟩;have hz:(uS [] kvs).length<=sizeLine:=by
  have h1:=lV kvs [];rw[jm]at h1;rw[cp];omega
 have he: ∃q,h'.get? s.heap.objs.size=some q:=let⟨q,_,_,hq,_⟩:=dd';⟨q,hq⟩;exact iJ I2 (by rw[e];exact True.intro) hs he (lF hz hd (rk.merge .nil) dd')
section
variable {X:Cx}
theorem zk2:xO X (.builtin "len") (λxs H Q=> ∃a kvs,xs= [V.ref a]/\H a=some (.dK kvs)/\Q (.int kvs.length) H):=by
 (first | refine⟨?_⟩ | skip)
 intro pins s σ H xs us Q I r h;obtain⟨a,kvs,rfl,ha,q⟩:=h;obtain⟨u,rfl,ru⟩:=uC r;cases ru;exact zkR I (.inl ha) λt s' I'=>⟨.int kvs.length,H,I',⟨t,rfl⟩,q⟩
end
set_option Elab.async false
set_option linter.all false
set_option maxRecDepth 100000
set_option maxHeartbeats 4000000
theorem nL {X:Cx}{pins:List (Addr×Obj)}{σ:St}{H:Hp}{s:Shared}{D:Addr}{o:HO}(I:z6 X pins σ H s)(hn:H D=none)(hs:X.s₀.heap.objs.size<=D)(hL:D≠X.env.locals)
  (hc: ∀x c,X.env.cells.lookup x=some c->c≠D) (hp: ∀p∈X.pn++pins,p.1≠D) (new:wK X.prog X.w (zI H D o) s.heap D o):z6 X pins σ (zI H D o) s:=by
 have low: ∀{b:Addr} {u:Obj},X.s₀.heap.get? b=some u->b≠D:=λe=>bj (bc (ba e) hs);refine⟨I.ok,I.os,I.bare,⟨I.base.keep,I.base.slot,λb u e n hx=> ?_,I.base.there,λb xs e=> ?_,λb u v e=> ?_,λb ps e=> ?_⟩,I.loc,I.cell,?_,λx c e=> ?_,λp hm=> ?_,λb u e=> ?_,I.len⟩
 ·rw[yO (low e)];exact I.base.free b u e n hx
 ·have q:=I.base.tups b xs e
  rw[yO (sK q hn)];exact q
 ·have q:=I.base.frzs b u v e
  rw[yO (sK q hn)];exact q
 ·obtain⟨more,q⟩:=I.base.tbls b ps e
  exact⟨more,by rw[yO (sK q hn)];exact q⟩
 ·rw[yO (gb hL)];exact I.free
 ·rw[yO (hc x c e)];exact I.freeC x c e
 ·obtain⟨e,n,r⟩:=I.pin p hm
  exact⟨e,by rw[yO (hp p hm)];exact n,r⟩
 ·by_cases hb:b=D
  ·subst hb;rw[yS]at e;cases e;exact new
  ·rw[yO hb]at e
   exact(I.hok b u e).stay (λc v _ q=>q) (λc q=>by rw[yO (sK q hn)];exact q) λc xs q=>by rw[yO (sK q hn)];exact q
theorem zlu {α β:Type}{l:List α}{f:α->β->Sem (ForInStep β)}{g:α->β->β}(h: ∀x∈l,∀b,f x b=pure (.yield (g x b)))(b:β):forIn l b f=pure (l.foldl (λb x=>g x b) b):=by
 induction l generalizing b with
 | nil=>rfl
 | cons x l ih=>
  rw[List.forIn_cons,h x bz,pure_bind];exact ih (λy hy=>h y (ce _ hy)) _
def pZ (cells:List (Str×Addr))(p:Str×NameKind)(cs:List (Str×Addr)):List (Str×Addr):=if p.2== .free then(p.1,(cells.lookup p.1).getD 0)::cs else cs
def xW (names:List (Str×NameKind))(cells:List (Str×Addr)):List (Str×Addr):=names.foldl (λcs p=>pZ cells p cs) []
theorem cS {scope:Scope}{env:Env}(h: ∀p∈scope.names,p.2= .free->∃c,env.cells.lookup p.1=some c):closureFor scope env=pure (xW scope.names env.cells):=by
 unfold closureFor;dsimp only;rw[zlu (g:=λp cs=>pZ env.cells p cs) (λp hp cs=> ?_)]
 ·rfl
 ·obtain⟨n,k⟩:=p
  unfold pZ;by_cases hk:k= .free
  ·obtain⟨c,e⟩:=h _ hp hk
   subst hk;simp only[cellOf,e,beq_self_eq_true,if_true,qr]
   rfl
  ·have:(k==NameKind.free)=false:=by simpa using hk
   simp only[this,ll,if_false]
theorem zgF {cells:List (Str×Addr)} : ∀(names:List (Str×NameKind)) (acc:List (Str×Addr)) (p:Str×Addr),p∈names.foldl (λcs q=>pZ cells q cs) acc->p∈acc∨((p.1,NameKind.free)∈names/\p.2=(cells.lookup p.1).getD 0)
 | [],acc,p,h=> .inl h
 | q::r,acc,p,h=>by
  rw[sv]at h;rcases zgF r _ p h with h | ⟨h1,h2⟩
  ·unfold pZ at h
   obtain⟨n,k⟩:=q
   split at h
   ·rename_i hk
    rcases bd.mp h with e | h
    ·refine .inr ⟨?_,by rw[e]⟩
     have hk':k= .free:=by simpa using hk
     rw[e,hk'];exact bz
    ·exact .inl h
   ·exact .inl h
  ·exact .inr ⟨ce _ h1,h2⟩
theorem ze8 {cells:List (Str×Addr)}{x:Str} : ∀(names:List (Str×NameKind)) (acc:List (Str×Addr)),((x,NameKind.free)∈names∨∃c,(x,c)∈acc)->∃c,(x,c)∈names.foldl (λcs q=>pZ cells q cs) acc
 | [],acc,h=>by
  rcases h with h | h
  ·cases h
  ·exact h
 | q::r,acc,h=>by
  rw[sv];refine ze8 r _ ?_;rcases h with h | ⟨c,h⟩
  ·rcases bd.mp h with e | h
   ·refine .inr ⟨(cells.lookup x).getD 0,?_⟩
    rw[<- e];show _∈(if(NameKind.free==NameKind.free)=true then _ else _);rw[if_pos (by rfl)];exact bz
   ·exact .inl h
  ·refine .inr ⟨c,?_⟩
   unfold pZ
   split
   ·exact ce _ h
   ·exact h
theorem zgA {β:Type}{x:Str} : ∀{l:List (Str×β)} {c:β},(x,c)∈l->∃d,l.lookup x=some d
 | [],_,h=>nomatch h
 | (y,d)::r,c,h=>by
  rw[gy];by_cases e:x=y
  ·subst e;exact⟨d,by simp⟩
  ·rcases bd.mp h with q | q
   ·cases q;exact absurd rfl e
   ·obtain⟨d',q'⟩:=zgA q
    have:(x==y)=false:=by simpa using e
    rw[this];exact⟨d',q'⟩
theorem cQ {names:List (Str×NameKind)}{cells:List (Str×Addr)}{x:Str}{c:Addr}(h:(xW names cells).lookup x=some c):(x,NameKind.free)∈names/\c=(cells.lookup x).getD 0:=by
 rcases zgF names [] (x,c) (fo h)with h | h
 ·cases h
 ·exact h
theorem cR {names:List (Str×NameKind)}{cells:List (Str×Addr)}{x:Str}(h:(x,NameKind.free)∈names):(xW names cells).lookup x=some ((cells.lookup x).getD 0):=by
 obtain⟨c,hc⟩:=ze8 (cells:=cells) names [] (.inl h);obtain⟨d,hd⟩:=zgA hc;rw[show(xW names cells).lookup x=some d from hd,(cQ hd).2]
abbrev xM (X:Cx)(scope:Scope)(Nc:List Str)(C:Addr)(s:Shared)(H:Hp)(fp:List Addr)(pins:List (Addr×Obj)):Cx:=
 {X with N:=Nc,s₀:=s,H₀:=H,env:=compEnvC scope (xW scope.names X.env.cells) C X.env,outer:=X.stack,stack:=X.stack,ex:=fp,fn:=λ_=>false,pn:=X.pn++pins,xe:=λ_ _=>False}
structure sW (X:Cx)(scope:Scope)(N' own:List Str):Prop where
 kind:scope.kind= .function
 nocell: ∀y∈scope.names,y.2≠ .cell
 names: ∀y∈scope.names,y.2= .local->scope.names.lookup y.1=some .local
 frees: ∀y∈scope.names,y.2= .free->X.env.scope.names.lookup y.1=some .cell∨X.env.scope.names.lookup y.1=some .free
 len:N'.length=X.N.length
 pre: ∀(i:Nat) (y:Str),N'[i]?=some y->X.N[i]?=some y∨(y,NameKind.free)∉scope.names
 nol: ∀y∈N',scope.names.lookup y≠some .local
theorem oI {env:Env}{x:Str} : ∀{names:List (Str×NameKind)} {k:NameKind},
  (names.map λ(n,k)=>if(k==NameKind.free&&env.scope.kind== .function&&env.kindOf n==some .cell)then(n,NameKind.cell)else(n,k)).lookup x=some k->
  names.lookup x=some k∨(k= .cell/\names.lookup x=some .free)
 | [],k,h=>by simp at h
 | (n,j)::r,k,h=>by
  have h':List.lookup x ((if(j==NameKind.free&&env.scope.kind== .function&&env.kindOf n==some .cell)=true then(n,NameKind.cell)else(n,j))::
   r.map λ(n,k)=>if(k==NameKind.free&&env.scope.kind== .function&&env.kindOf n==some .cell)then(n,NameKind.cell)else(n,k))=some k:=h
  cases hx:x==n with
  | true=>
   by_cases hc:(j==NameKind.free&&env.scope.kind== .function&&env.kindOf n==some .cell)=true
   ·rw[if_pos hc]at h'
    simp only[gy,hx]at h'⊢
    simp only[fe,beq_iff_eq]at hc;cases h';exact .inr ⟨rfl,by rw[hc.1.1]⟩
   ·rw[if_neg hc]at h'
    simp only[gy,hx]at h'⊢
    exact .inl h'
  | false=>
   have q:(r.map λ(n,k)=>if(k==NameKind.free&&env.scope.kind== .function&&env.kindOf n==some .cell)then(n,NameKind.cell)else(n,k)).lookup x=some k:=by
    by_cases hc:(j==NameKind.free&&env.scope.kind== .function&&env.kindOf n==some .cell)=true
    ·rw[if_pos hc]at h';simpa only[gy,hx]using h'
    ·rw[if_neg hc]at h';simpa only[gy,hx]using h'
   simp only[gy,hx];exact oI q
section
variable {X:Cx} {pins:List (Addr×Obj)} {σ:St} {H:Hp} {s:Shared} {scope:Scope} {N' own:List Str}
theorem sW.cells (S:sW X scope N' own)(I:z6 X pins σ H s): ∀p∈scope.names,p.2= .free->∃c,X.env.cells.lookup p.1=some c:=λp hp hk=>I.ok.has p.1 (S.frees p hp hk)
theorem rZ (S:sW X scope N' own)(I:z6 X pins σ H s){x:Str}{c:Addr}(h:(xW scope.names X.env.cells).lookup x=some c):X.env.cells.lookup x=some c:=by
 obtain⟨hm,e⟩:=cQ h;obtain⟨d,hd⟩:=S.cells I _ hm rfl;rw[hd]at e;rw[hd,e]
 rfl
theorem zgt (S:sW X scope N' own)(I:z6 X pins σ H s){C D:Addr}{oD:Obj}{fp:List Addr}{h4:Heap}{tk:Nat}{m:Str->Option Value}(k: ∀b u,s.heap.get? b=some u->h4.get? b=some u)(hC:s.heap.objs.size<=C)(hD:s.heap.objs.size<=D)(hDC:D≠C)(eD:h4.get? D=some oD)(cD: ∀v,oD.data≠ .cell v)
  (ns:h4.Ns C m) (ff: ∀b∈fp,uX X pins H b) (fl: ∀b∈fp,b < s.heap.objs.size):
  z6 (xM X scope (N'++own) C s H fp pins) [(D,oD)] (σ++List.replicate own.length none) H {s with heap:=h4,toks:=tk} :=by
 have nostk: ∀{b:Addr},s.heap.objs.size<=b->b∉vA X.stack:=λ{b} hb hm=>by
  rcases bd.mp (I.stkSub b hm)with e | hm
  ·rw[e]at hb;exact absurd (bc I.lt hb) (ck _)
  ·exact I.nofs hb hm
 have lk: ∀x,((compEnvC scope (xW scope.names X.env.cells) C X.env).kindOf x=some .cell∨(compEnvC scope (xW scope.names X.env.cells) C X.env).kindOf x=some .free)->(x,NameKind.free)∈scope.names:=λx hx=>by
  have q:scope.names.lookup x=some .cell∨scope.names.lookup x=some .free:=by
   rcases hx with hx | hx
   ·rcases oI (env:=X.env) (names:=scope.names) hx with q | ⟨_,q⟩
    ·exact .inl q
    ·exact .inr q
   ·rcases oI (env:=X.env) (names:=scope.names) hx with q | ⟨z,_⟩
    ·exact .inr q
    ·cases z
  rcases q with q | q
  ·exact absurd rfl (S.nocell _ (fo q))
  ·exact fo q
 refine⟨⟨I.ok.mod,S.kind,I.ok.glob,I.ok.blt,hC,λx y c h1 h2=> ?_,λx hx=> ?_,λx c h=> ?_,I.ok.hd,I.ok.frames,.inl rfl,λb hb=>⟨?_,λx c h=> ?_⟩,I.bs,bq I.ok.bsz I.sz,λb o e hb=> ?_,λb hb hm=> ?_,I.stack,I.stkFree⟩,
  rfl,I.bare,Un.kept k,⟨m,ns,λi x v e1 e2 e3=> ?_⟩,λx c h=> ?_,I.hok.fresh hC,λx c h=> ?_,λp hp=> ?_,I.hok.kept k,?_⟩
 ·exact I.ok.inj x y c (rZ S I h1) (rZ S I h2)
 ·exact⟨_,cR (lk x hx)⟩
 ·cases h
 ·have:=fl b hb;intro e;rw[e]at this;exact absurd (bc this hC) (ck _)
 ·exact(ff b hb).2.2.2.2.1 x c (rZ S I h)
 ·rcases(ff b hb).2.2.2.1 with z | z
  ·exact I.ok.noex b o e z
  ·exact absurd (bc (ba e) (bq I.ok.bsz z)) (ck _)
 ·rcases bd.mp (I.stkSub b hm)with e | hm
  ·exact(ff b hb).2.1 e
  ·exact(ff b hb).2.2.1 hm
 ·-- names
  have hi:i < σ.length:=by
   by_cases hi:i < σ.length
   ·exact hi
   ·rw[aj (by omega),gk]at e2
    split at e2 <;> cases e2
  rw[ax hi]at e2;have hN:N'[i]?=some x:=by
   have e1':(N'++own)[i]?=some x:=e1;rw[ax (by rw[S.len,<- I.len];exact hi)]at e1';exact e1'
  have e3':((compEnvC scope (xW scope.names X.env.cells) C X.env).kindOf x=some .cell∨(compEnvC scope (xW scope.names X.env.cells) C X.env).kindOf x=some .free)∨(compEnvC scope (xW scope.names X.env.cells) C X.env).kindOf x=some .local:=by
   rcases e3 with z | z | z
   ·exact .inr z
   ·exact .inl (.inl z)
   ·exact .inl (.inr z)
  rcases e3' with e3' | e3'
  ·have hm:=lk x e3'
   rcases S.pre i x hN with hX | hX
   ·have fr:=S.frees _ hm rfl
    obtain⟨m0,hn0,hl0⟩:=I.loc;obtain⟨u,r,l⟩:=hl0 i x v hX e2 (by rcases fr with z | z;exact .inr (.inl z);exact .inr (.inr z));refine⟨u,r,.inr ⟨e3',?_⟩⟩;rcases l with⟨z,_⟩ | ⟨_,c,ec,⟨o,ho,hd⟩⟩
    ·rcases fr with f | f <;> (have z':X.env.scope.names.lookup x=some .local:=z;rw[f]at z';cases z')
    ·refine⟨c,?_,⟨o,k _ _ ho,hd⟩⟩
     show(xW scope.names X.env.cells).lookup x=some c;rw[cR hm,ec]
     rfl
   ·exact absurd hm hX
  ·-- a local of the block among the outer names:hidden
   rcases oI (env:=X.env) (names:=scope.names) e3' with q | ⟨z,_⟩
   ·exact absurd q (S.nol x (cj hN))
   ·cases z
 ·obtain⟨v,o,ho,hd⟩:=I.cell x c (rZ S I h)
  exact⟨v,o,k _ _ ho,hd⟩
 ·exact I.freeC x c (rZ S I h)
 ·have hp':p∈(X.pn++pins)++ [(D,oD)]:=hp
  rcases av.mp hp' with hp' | hp'
  ·obtain⟨e,n,ne,nf,d⟩:=I.pin p hp'
   refine⟨k _ _ e,n,bj (bc (ba e) hC),λhm=> ?_,d⟩;rcases bd.mp (I.stkSub p.1 hm)with z | z
   ·exact ne z
   ·exact nf z
  ·have e:p=(D,oD):=by simpa using hp'
   subst e;exact⟨eD,I.hok.fresh hD,hDC,nostk hD,cD⟩
 ·show(σ++List.replicate own.length none).length=(N'++own).length
  rw[af,af,dq,S.len,I.len]
abbrev cV (ifs:List Expr)(env:Env):Sem Bool:=forIn ifs true λc r=>if r=true then do let ok <- isTrue c env (eval c env);pure (ForInStep.yield ok)else pure (ForInStep.yield r)
theorem cT {prog:Program}{w:World}{A:Around}{R:Result->Shared->Prop}{s:Shared}{elt target iter:Expr}{ifs:List Expr}{scope:Scope}{pos:Pos}{it acc:Value}{env:Env}(I:Nat->Shared->Prop)
  (turn: ∀n s,I n s->bf (bt prog w) A (pyNext it) (λr s₁=>match r with
   | none=>R (.ok .next) s₁
   | some v=>bf (bt prog w) A (letOwnedTupleGo target it v) (λ_ s₁'=>bf (bt prog w) A (assign target env v) (λ_ s₂=>
     bf (bt prog w) A (cV ifs env) (λok s₃=>
      if ok=true then bf (bt prog w) A (eval elt env) (λx s₄=>
       bf (bt prog w) A (call (.builtin "list.append") [acc,x]) (λ_ s₅=> ∃m,m < n/\I m s₅) (notedBy (bt prog w) A env λe s'=>R (.error e) s') s₄) (notedBy (bt prog w) A env λe s'=>R (.error e) s') s₃
      else ∃m,m < n/\I m s₃) (notedBy (bt prog w) A env λe s'=>R (.error e) s') s₂) (notedBy (bt prog w) A env λe s'=>R (.error e) s') s₁') (notedBy (bt prog w) A env λe s'=>R (.error e) s') s₁) (notedBy (bt prog w) A env λe s'=>R (.error e) s') s)
  (n:Nat) (h:I n s):
  codeAny (bt prog w) A (.compLoop (.ListComp elt [⟨target,iter,ifs,0⟩] scope pos) 0 it acc env) R s:=by
 refine codeAny_loop rfl I (λn s hI=> ?_) n h;show bf _ A ((compTurn (.ListComp elt [⟨target,iter,ifs,0⟩] scope pos) 0 it acc env).onRaise (λx=>do noteFrame x env;theTreesLotGoes x)) _ _ s;refine wpAny_noted ?_;rw[compTurn_list];refine ah (kw (ah (jc (turn n s hI) (λr s₁ h₁=> ?_) λ_ _ h'=>h')));cases r with
 | none=>exact ay h₁
 | some v=>
  refine ah (jc h₁ (λ_ s₁' h₁'=> ?_) λ_ _ h'=>h');refine ah (jc h₁' (λ_ s₂ h₂=>ah (jc h₂ (λok s₃ h₃=> ?_) λ_ _ h'=>h')) λ_ _ h'=>h');cases ok with
  | false=>exact ay ⟨rfl,h₃⟩
  | true=>
   exact ah (ah (jc h₃ (λx s₄ h₄=>ah (jc h₄ (λ_ s₅ h₅=>ay (ay ⟨rfl,h₅⟩)) λ_ _ h'=>h')) λ_ _ h'=>h'))
structure PF (X:Cx)(ifs:List Expr)(t:TT):Prop where
 run:
  ∀(pins:List (Addr×Obj)) (s:Shared) (σ:St) (H:Hp) (Q:Bool->Hp->Prop),z6 X pins σ H s->t σ H Q->bf (bt X.prog X.w) X.A (cV ifs X.env) (TP X pins σ Q) X.xe s
instance {X:Cx} {ifs:List Expr} {t:TT} :CoeFun (PF X ifs t) λ_=>
 ∀(pins:List (Addr×Obj)) (s:Shared) (σ:St) (H:Hp) (Q:Bool->Hp->Prop),z6 X pins σ H s->t σ H Q->bf (bt X.prog X.w) X.A (cV ifs X.env) (TP X pins σ Q) X.xe s
  :=⟨PF.run⟩
def zqR:TT:=λ_ H Q=>Q true H
theorem zoz {X:Cx} :PF X [] zqR:=⟨λ_ _ _ H _ I h=>wpAny_tests_nil ⟨H,I,h⟩⟩
theorem zo0 {X:Cx}{c:Expr}{t:TT}(h:PT X c t):PF X [c] t:=⟨λpins s σ H Q I q=>wpAny_tests_one (h pins s σ H Q I q)⟩
theorem qF {α:Type}{M:Model}{A:Around}{E:Value->Shared->Prop}{s:Shared}{t:Sem α}{Q Q':α->Shared->Prop}(h:bf M A t Q (λ_ _=>False) s)(k: ∀a s,Q a s->Q' a s):bf M A t Q' E s:=jc h k λ_ _ z=>z.elim
def eF (own:Nat)(J:It)(g:TG)(tt:TT)(te:TE)(Q:VK)(σ:St)(H1:Hp):Prop:= ∃W:Nat->Nat->List V->St->Hp->Prop,(∃m,W 0 m [] (σ++List.replicate own none) H1)/\∀i m ys σ' H',W i m ys σ' H'->
 (J.stop i H'/\ys.length<=sizeLine/\∀D,H' D=none->Q (.ref D) (zI H' D (.lst ys)))∨
 (J.go i H'/\ys.length < sizeLine/\∃N:List V->St->Hp->Prop,(∀ys σ3 H3,N ys σ3 H3->∃m',m' < m/\W (i+1) m' ys σ3 H3)/\
  ∀x H2,J.yld i H' x H2->g x σ' H2 λσ3 H3=>tt σ3 H3 λb H4=>if b=true then te σ3 H4 λy H5=>N (ys++ [y]) σ3 H5 else N ys σ3 H4)
def j6 (own:Nat)(wi:TI)(g:TG)(tt:TT)(te:TE):TE:=λσ H Q=>wi σ H λJ H1=>eF own J g tt te Q σ H1
theorem zol {elt target iter:Expr}{ifs:List Expr}{pos:Pos}{wi:TI}{g:TG}{tt:TT}{te:TE}(S:sW X scope N' own)(hc:X.calm=true)(hi:PI X target iter wi)
  (hg: ∀C s H fp pins,PG (xM X scope (N'++own) C s H fp pins) target g) (ht: ∀C s H fp pins,PF (xM X scope (N'++own) C s H fp pins) ifs tt) (he: ∀C s H fp pins,PE (xM X scope (N'++own) C s H fp pins) elt te)
  (hs: ∀x,foldedSetIterable iter X.env x=pure x:=by intro _;rfl):
  PE X (.ListComp elt [⟨target,iter,ifs,0⟩] scope pos) (j6 own.length wi g tt te):=by
 (first | refine⟨?_⟩ | skip)
 intro pins s σ H Q I h;rw[eval_ListComp];refine mw (use:=none) rfl hs (cS (S.cells I)) S.kind S.names ?_;refine zR (hi pins s σ H _ I h) λv s1 h1=>zR h1 λitv s2 h2=> ?_;obtain⟨it,fp,tn,J,H2,e,I2,T,st2,f2,W,⟨m0,w0⟩,turn⟩:=h2;subst e;have fl: ∀b∈fp,b < s2.heap.objs.size:=λb hb=>by obtain⟨o,e,_⟩:=T.obj _ _ st2 b hb;exact ba e
 refine dg (va S.nocell (by intro y hy;simp at hy) (λh4 ns4 sb4=> ?_) S.kind);dsimp only at ns4 sb4⊢
 generalize hH3:s2.heap.push {cls:= .type "list",dict:=none,data:= .seq ([]:List Value).toArray} =h3 at ns4 sb4⊢
 have hC:h3.objs.size=s2.heap.objs.size+1:=by rw[<- hH3,ft]
 have hDC:s2.heap.objs.size≠h3.objs.size:=by rw[hC];exact bj (me _)
 have hCle:s2.heap.objs.size<=h3.objs.size:=by rw[hC];exact fw _
 have eD3:h3.get? s2.heap.objs.size=some {cls:= .type "list",data:= .seq ([]:List Value).toArray} :=hH3▸cb _ rfl;have k4: ∀b u,s2.heap.get? b=some u->h4.get? b=some u:=λb u e=>
  (sb4.2 b (bj (bc (ba e) hCle))).trans (ar _ (hH3▸ar _ e))
 have eD4:h4.get? s2.heap.objs.size=some {cls:= .type "list",data:= .seq ([]:List Value).toArray} :=(sb4.2 _ hDC).trans (ar _ eD3);generalize hDd:s2.heap.objs.size=D at *;generalize hCd:h3.objs.size=C at *;have I4:=zgt S I2 (C:=C) (D:=D) (fp:=fp) (h4:=h4) (tk:=s2.toks+([]:List (Str×Value)).length) k4 (by rw[hDd];exact hCle) (by rw[hDd];exact ak _) hDC eD4 (by intro v z;cases z) ns4 f2 (by rw[hDd];exact fl);have lowC: ∀(b:Addr) (u:Obj),s2.heap.get? b=some u->b≠C:=λb u e=>bj (bc (ba e) (by rw[hDd];exact hCle));have nofp: ∀b∈fp,b∉vA X.stack:=λb hb hm=>by
  rcases bd.mp (I2.stkSub b hm)with z | z
  ·exact(f2 b hb).2.1 z
  ·exact(f2 b hb).2.2.1 z
 have fpD: ∀b∈fp,b≠D:=λb hb=>bj (fl b hb);have stat: ∀{H':Hp} {o:Obj},(∀b∈fp,H' b=none)->∀b∈fp,uX (xM X scope (N'++own) C s2 H2 fp pins) [(D,o)] H' b:=λ{H' o} hn b hb=>
  ⟨hn b hb,bj (bc (fl b hb) hCle),nofp b hb,.inl hb,λx c e=>(f2 b hb).2.2.2.2.1 x c (rZ S I2 e),λp hp=>by
   have hp':p∈(X.pn++pins)++ [(D,o)]:=hp;rcases av.mp hp' with z | z
   ·exact(f2 b hb).2.2.2.2.2 p z
   ·have e:p=(D,o):=by simpa using z
    rw[e];exact gb (fpD b hb)⟩
 have loop: ∀s3:Shared,z6 (xM X scope (N'++own) C s2 H2 fp pins) [(D,{cls:= .type "list",data:= .seq ([]:List Value).toArray})] (σ++List.replicate own.length none) H2 s3->tn 0 s3.heap->
   codeAny (bt X.prog X.w) X.A (.compLoop (.ListComp elt [⟨target,iter,ifs,0⟩] scope pos) 0 (.ref it) (.ref D) (compEnvC scope (xW scope.names X.env.cells) C X.env))
    (compPost (bt X.prog X.w) X.A X.xe none (EP X pins σ Q) (.ref D) C) s3:=by
  intro s3 I3 st3;refine cT (λn s'=> ∃(i:Nat) (ys:List V) (σ':St) (H':Hp) (vals:List Value) (cnt:Nat),z6 (xM X scope (N'++own) C s2 H2 fp pins) [(D,{cls:= .type "list",data:= .seq vals.toArray cnt})] σ' H' s'/\
   tn i s'.heap/\(∀b∈fp,H' b=none)/\zK ys vals/\W i n ys σ' H') ?_ m0 ⟨0,[],_,H2,[],0,I3,st3,λb hb=>(f2 b hb).1,.nil,w0⟩
  rintro n s3 ⟨i,ys,σ3,H3,vals,cnt,I3,st3,fr3,rv,w3⟩;rcases turn i n ys σ3 H3 w3 with⟨stop,hz,q⟩ | ⟨go,hz,N,hN,step⟩
  ·refine zR (T.done (xM X scope (N'++own) C s2 H2 fp pins) rfl rfl rfl hc i _ s3 σ3 H3 _ I3 (stat fr3) st3 stop) λr s4 ⟨hr,I4⟩=> ?_
   subst hr;obtain⟨m,ns,_⟩:=id I4.loc;refine⟨m,ns,λh' sb=> ?_⟩;have u4:Un (vA X.stack) fp H2 H3 s2.heap s4.heap:=I4.base;have nC:H3 C=none:=I4.free;have keepC: ∀(b:Addr) (u:Obj),b≠C->s4.heap.get? b=some u->h'.get? b=some u:=λb u hb e=>(sb.2 b hb).trans e;have u':Un (vA X.stack) fp H2 H3 s2.heap h':=
    ⟨λb o e n hb hx=>keepC b o (lowC b o e) (u4.keep b o e n hb hx),λb o e n hb hx=>let⟨sl,q⟩:=u4.slot b o e n hb hx;⟨sl,keepC _ _ (lowC b o e) q⟩,u4.free,λb o e hx=>let⟨o',q⟩:=u4.there b o e hx;⟨o',keepC _ _ (lowC b o e) q⟩,u4.tups,u4.frzs,u4.tbls⟩
   have hok':xK X.prog X.w H3 h':=λb u e=>(I4.hok b u e).stay (λc v hc' q=>keepC c v (by
    rintro rfl;rcases hc' with z | z
    ·rw[<- z,nC]at e;cases e
    ·rw[nC]at z;cases z) q) (λ_ q=>q) λ_ _ q=>q
   have I5:z6 X pins σ H3 {s4 with heap:=h'} :=I2.call' (ch:=fp) (s':= {s4 with heap:=h'}) I4.os u' hok' I4.bare λb hb=>⟨(f2 b hb).2.2.2.1,(f2 b hb).2.1,(f2 b hb).2.2.2.2.1,(f2 b hb).2.2.2.2.2⟩;obtain⟨eD,nD,_⟩:=I4.pin (D,_) (al _ bz);refine⟨.ref D,zI H3 D (.lst ys),nL I5 nD (by rw[<- hDd];exact I2.sz) ?_ ?_ ?_ ⟨hz,vals,cnt,rv,keepC D _ hDC eD⟩,rfl,q D nD⟩
   ·have:=I2.lt;rw[hDd]at this;exact cw this
   ·intro x c e z
    obtain⟨v,o,ho,_⟩:=I2.cell x c e;have:=ba ho;rw[hDd,z]at this;exact ck _ this
   ·intro p hp z
    have:=ba (I2.pin p hp).1;rw[hDd,z]at this;exact ck _ this
  ·refine zR (T.item (xM X scope (N'++own) C s2 H2 fp pins) rfl rfl rfl hc i _ s3 σ3 H3 _ I3 (stat fr3) st3 go) λr s4 ⟨u,hr,h4⟩=> ?_
   subst hr;refine zR h4 λ_ s5 ⟨x,H5,I5,r5,y5,st5,fr5⟩=> ?_;have I5':=I5.pinned (stat fr5) (T.obj _ _ st5);have keepT: ∀{σ7:St} {H7:Hp} {s7:Shared} {pl:List (Addr×Obj)},z6 (xM X scope (N'++own) C s2 H2 fp pins) (pl++tI fp s5.heap) σ7 H7 s7->tn (i+1) s7.heap/\∀b∈fp,H7 b=none:=λ{σ7 H7 s7 pl} I7=>
    ⟨T.keep _ _ _ st5 λb hb o e=>(I7.pin (b,o) (al _ (al _ (qY hb e)))).1,λb hb=>by
     obtain⟨o,e,d⟩:=T.obj _ _ st5 b hb;exact(I7.pin (b,o) (al _ (al _ (qY hb e)))).2.1⟩
   refine qF (hg C s2 H2 fp pins _ s5 σ3 H5 x u _ I5' r5 (step x H5 y5)) λ_ s6 ⟨σ6,H6,I6,q6⟩=> ?_;refine qF (ht C s2 H2 fp pins _ s6 σ6 H6 _ I6 q6) λb s7 ⟨H7,I7,q7⟩=> ?_;cases b with
   | false=>
    obtain⟨m',hm,w7⟩:=hN _ _ _ q7;obtain⟨t7,fr7⟩:=keepT I7;exact⟨m',hm,i+1,ys,σ6,H7,vals,cnt,I7.unpinned,t7,fr7,rv,w7⟩
   | true=>
    refine qF (he C s2 H2 fp pins _ s7 σ6 H7 _ I7 q7) λy s8 ⟨yv,H8,I8,r8,q8⟩=> ?_;obtain⟨m',hm,w8⟩:=hN _ _ _ q8;obtain⟨eD,nD,neD,nfD,cD⟩:=I8.pin (D,_) (al _ (az _ bz));have hvl:=rv.length;refine ka mt ⟨_,eD,rfl⟩ mj (md _ _) (nj D vals.toArray cnt y (by rw[bo];omega)) ⟨eD,?_⟩;have I8':z6 (xM X scope (N'++own) C s2 H2 fp pins) (tI fp s5.heap) σ6 H8 s8:=I8.pins_of λp hp=>I8.pin p (al _ (al _ hp));have hno: ∀p∈(X.pn++pins)++tI fp s5.heap,p.1≠D:=λp hp=>by
     rcases av.mp hp with z | z
     ·intro q
      have:=ba (I2.pin p z).1;rw[hDd,q]at this;exact ck _ this
     ·exact fpD _ (gD z).1
    have I9:=I8'.turned (t':=s8.toks) (it:=D) (h':=s8.heap.update D (Obj.mapSeq λx=>x.push y)) (λb o hb e=>(gu s8.heap _ (gb hb)).trans e) nD neD (.inr (by show s2.heap.objs.size<=D;rw[hDd];exact ak _))
     (λx c e z=>by
      obtain⟨v,o,ho,_⟩:=I2.cell x c (rZ S I2 e);have:=ba ho;rw[hDd,z]at this;exact ck _ this) hno
    obtain⟨t9,fr9⟩:=keepT (pl:= []) I9;have qD: ∃n',(s8.heap.update D (Obj.mapSeq λx=>x.push y)).get? D=some {cls:= .type "list",data:= .seq (vals++ [y]).toArray n'} :=by
     have q:=oe (l:=D) (items:=vals.toArray) (n:=cnt) (h:=s8.heap) eD λx=>x.push y;have e:vals.toArray.push y=(vals++ [y]).toArray:=by simp
     rw[<- e];exact⟨_,q⟩
    obtain⟨n',qD⟩:=qD;refine⟨m',hm,i+1,ys++ [yv],σ6,H8,vals++ [y],n',I9.pins_of λp hp=> ?_,t9,fr9,rv.append (.cons r8 .nil),w8⟩;have e:=aq.mp hp;rw[e];exact⟨qD,nD,neD,nfD,by intro v z;cases z⟩
 have t4:tn 0 h4:=T.keep _ _ _ st2 λb _ o e=>k4 b o e;exact nv (loop _ I4 t4) (T.self _ 0 _ _ _ t4 (loop _ I4 t4))
end
set_option Elab.async false
set_option linter.all false
set_option maxRecDepth 100000
set_option maxHeartbeats 4000000
def jR (x:Str):It:=⟨λi _=>i < x.cps.size,λi H v H'=>H'=H/\∃c,x.cps[i]?=some c/\v= .str ⟨#[c]⟩,λi _=>i=x.cps.size⟩
theorem zi5 {P:Program}{w:World}{K:Frag}{tg:Expr}{n:String}(it:Addr)(x:Str)(t:Tok)(hn: ["enumerate","zip","dict_itemiterator","dict_reverseitemiterator","odict_iterator","itertools.zip_longest","itertools.pairwise"].contains n=false)
  (W: ∀A:Around,A.handled=none->Walks P w A it [it] [it] x.cps.size (SignAt x) (λi h=>h.IsStrIter it n x t i))
  (hself: ∀(A:Around) (i:Nat) (s:Shared) (Q:Value->Shared->Prop) (E:Value->Shared->Prop),s.heap.IsStrIter it n x t i->Q (.ref it) s->bf (bt P w) A (pyIter (.ref it)) Q E s):
  rV P w K tg (jR x) [it] it (λi h=>h.IsStrIter it n x t i) where
 mem:=by simp
 obj:=λi h st b hb=>by
  have e:b=it:=by simpa using hb
  subst e;obtain⟨o,e,c,d⟩:=st;exact⟨o,e,λv z=>by rw[d]at z;cases z⟩
 keep:=λi h h' st k=>by
  obtain⟨o,e,r⟩:=st;exact⟨o,k it (by simp) o e,r⟩
 item:=by
  intro X hP hw hK hc i pins s σ H E I hf st hg;subst hP hw hK;obtain⟨f0,f1,f2,f3,f4,f5⟩:=hf it (by simp);refine(W X.A (I.ok.hd hc)).item i s _ _ hg st λv h' tk hv st' kk=> ?_;obtain⟨c,u,ec,rfl⟩:=hv;have I1:z6 X pins σ H {s with heap:=h',toks:=tk} :=I.turned (λb o hb e=>kk b o (by simpa using hb) e) f0 f1 f3 f4 f5;obtain⟨o,e,c',d⟩:=id st';exact⟨_,rfl,iV (s:= {s with heap:=h',toks:=tk}) e c' d hn ⟨.str ⟨#[c]⟩,H,I1,⟨u,rfl⟩,⟨rfl,c,ec,rfl⟩,st',λb hb=>(hf b hb).1⟩⟩
 done:=by
  intro X hP hw hK hc i pins s σ H E I hf st hg;subst hP hw hK;obtain⟨f0,f1,f2,f3,f4,f5⟩:=hf it (by simp);have hg':i=x.cps.size:=hg;subst hg';exact(W X.A (I.ok.hd hc)).done s _ _ st λh' tk kk=>⟨rfl,I.turned (λb o hb e=>kk b o (by simpa using hb) e) f0 f1 f3 f4 f5⟩
 self:=hself
section
variable {X:Cx} {tg:Expr}
theorem iC {bs:List Bool} : ∀{us:List Value},zK (bs.map V.bl) us->LSm.BoolsAre us bs:=by
 induction bs with
 | nil=>intro us r;rw[ir]at r;cases r;exact .nil
 | cons n ns ih=>
  intro us r;rw[bb]at r;cases r with
  | cons r1 r2=>
   have e:_=Value.bool n:=r1;subst e;exact .cons n (ih r2)
theorem zik {bs:List Str} : ∀{us:List Value},zK (bs.map V.str) us->StrsAre us bs:=by
 induction bs with
 | nil=>intro us r;rw[ir]at r;cases r;exact .nil
 | cons n ns ih=>
  intro us r;rw[bb]at r;cases r with
  | cons r1 r2=>
   obtain⟨t,e⟩:=r1;subst e;exact .cons n t (ih r2)
theorem zkv (hc:X.calm=true):xO X (.builtin "all") (λxs H Q=> ∃(l:Addr) (bs:List Bool),xs= [.ref l]/\yE X.K H l (bs.map V.bl)/\Q (.bl (bs.all id)) H):=by
 (first | refine⟨?_⟩ | skip)
 intro pins s σ H xs us Q I r h;obtain⟨l,bs,rfl,hl,q⟩:=h;obtain⟨u,rfl,ru⟩:=uC r;cases ru;obtain⟨its,rv,p,_⟩:=I.list hl;have hlt:l < s.heap.objs.size:=p.lt;refine call_all_walk (nk p.isList ?_);refine⟨s.heap.objs.size,[s.heap.objs.size,l],[s.heap.objs.size],its.toArray.size,_,_,λi=>(bs[i]?).getD true,rfl,Walks.list (A:=X.A.in1) (I.ok.hd hc) _ l (bj hlt) its.toArray,
  ⟨⟨_,cb _ rfl,rfl,rfl⟩,p.isList.push _⟩,λi v s' Q' E' hP hQ=> ?_,λh' tk hk=> ?_⟩
 ·obtain⟨b,e,rfl⟩:=(iC rv).get i v (by simpa using hP)
  simp only[e,qr]at hQ;exact jw hQ
 ·have e:((List.range its.toArray.size).all λi=>(bs[i]?).getD true)=bs.all id:=by
   rw[bo,(iC rv).length];exact LSm.range_all bs
  rw[e];exact⟨.bl (bs.all id),H,I.kept (LSm.kept_iter hk),rfl,q⟩
def zpx (K:Frag):V->List V->Hp->VK->Prop:=λx vs H Q=> ∃(sep:Str) (l:Addr) (ys:List Str),x= .str sep/\vs= [.ref l]/\yE K H l (ys.map V.str)/\(ys.map (·.length)).sum+ys.length * sep.length<=16777216/\Q (.str (Txt.join sep ys)) H
theorem zmE:tT X "str.join" (zpx X.K):=by
 (first | refine⟨?_⟩ | skip)
 intro pins s σ H x xs v us Q I rx rv h;obtain⟨sep,l,ys,rfl,rfl,hl,hz,q⟩:=h;obtain⟨t,rfl⟩:=rx;obtain⟨u,rfl,ru⟩:=zK.one rv;cases ru;obtain⟨its,r,p,_⟩:=I.list hl;exact join_list p.isList (by simpa using zik r) hz λt' k=>⟨.str (Txt.join sep ys),H,I.tok _,⟨t',rfl⟩,q⟩
theorem zlU (sep:Str)(ys:List Str):(Txt.join sep ys).length<=(ys.map (·.length)).sum+ys.length * sep.length:=by
 show(Builtin.Str.glued sep ys).length<=_;rw[StrLaws.glued_eq_join];exact StrLaws.join_length_le sep ys
def zp7:V->Option Int->Option Int->Hp->VK->Prop:=λx lo hi H Q=> ∃z,x= .str z/\z.length<=sizeLine/\((Txt.slice z lo hi).length<=z.length->Q (.str (Txt.slice z lo hi)) H)
theorem zpX:mW X zp7:=by
 (first | refine⟨?_⟩ | skip)
 intro pins s σ H x v vl vu lo hi sl Q I rx hs pl pu h;obtain⟨z,rfl,hz,q⟩:=h;obtain⟨t,rfl⟩:=rx;obtain⟨o,e,c,d⟩:=hs;have fin: ∀t' k,EP X pins σ Q (.str (Txt.slice z lo hi) t') {s with toks:=k} :=λt' k=>⟨.str (Txt.slice z lo hi),H,I.tok k,⟨t',rfl⟩,q (ol z _ _)⟩;refine⟨"str",_,F.slot_str_getitem.lookup,typeIs_str _ _ _,?_⟩;cases pl with
 | none=>
  cases pu with
  | none=>exact kq (l:=none) (u:=none) (st:=none) ⟨o,e,c,d⟩ rfl (om ⟨bq (ol z _ _) hz,fin⟩)
  | int j uj=>exact kq (l:=none) (u:=some (j,uj)) (st:=none) ⟨o,e,c,d⟩ rfl (om ⟨bq (ol z _ _) hz,fin⟩)
 | int i ui=>
  cases pu with
  | none=>exact kq (l:=some (i,ui)) (u:=none) (st:=none) ⟨o,e,c,d⟩ rfl (om ⟨bq (ol z _ _) hz,fin⟩)
  | int j uj=>exact kq (l:=some (i,ui)) (u:=some (j,uj)) (st:=none) ⟨o,e,c,d⟩ rfl (om ⟨bq (ol z _ _) hz,fin⟩)
end
set_option Elab.async false
set_option linter.all false
set_option maxRecDepth 100000
set_option maxHeartbeats 4000000
def ze6 (fsc scope:Scope)(N N':List Str):Bool:=
 scope.kind== .function&&scope.names.all (λy=>y.2 != .cell&&(y.2 != .local||scope.names.lookup y.1==some .local)&&(y.2 != .free||(fsc.names.lookup y.1==some .cell||fsc.names.lookup y.1==some .free)))
  &&N'.length==N.length&&(N'.zip N).all (λp=>p.1==p.2|| !(scope.names.any λq=>q.1==p.1&&q.2== .free))&&N'.all (λy=>scope.names.lookup y !=some .local)
theorem uF {X:Cx}{scope fsc:Scope}{N N' own:List Str}(hX:X.env.scope=fsc)(hN:X.N=N)(h:ze6 fsc scope N N'=true):sW X scope N' own:=by
 unfold ze6 at h;simp only[fe,qt,beq_iff_eq,bne_iff_ne,xp,ne_eq]at h;obtain⟨⟨⟨⟨h1,h2⟩,h3⟩,h4⟩,h5⟩:=h;subst hX hN;refine⟨h1,λy hy=>(h2 y hy).1.1,λy hy e=> ?_,λy hy e=> ?_,h3,λi y e=> ?_,λy hy=>h5 y hy⟩
 ·rcases(h2 y hy).1.2 with z | z
  ·exact absurd e z
  ·exact z
 ·rcases(h2 y hy).2 with z | z
  ·exact absurd e z
  ·exact z
 ·have hi:i < N'.length:=(ad.mp e).1
  have e2:X.N[i]?=some X.N[i]:=am (by omega);have m:(y,X.N[i])∈N'.zip X.N:=by
   refine ap.mpr ⟨i,?_⟩;rw[kb];exact⟨e,e2⟩
  rcases h4 _ m with z | z
  ·left
   rw[e2];have z':y=X.N[i]:=z;rw[<- z']
  ·right
   intro q;have z':(!(scope.names.any λq=>q.1==y&&q.2== .free))=true:=z;rw[wn,wo]at z';exact z' _ q (by simp)
theorem zka {α:Type}(xs:List α){d:Int}(h0:0<=d)(h1:d < xs.length): ∃y,y∈xs/\atI xs d=some y:=by
 have hn:d.toNat < xs.length:=by omega
 refine⟨xs[d.toNat],gz hn,?_⟩;unfold atI w9;rw[if_pos h0,if_pos h1];exact am hn
set_option Elab.async false
set_option linter.all false
set_option maxRecDepth 100000
set_option maxHeartbeats 4000000
set_option Elab.async false
set_option linter.all false
set_option maxRecDepth 100000
set_option maxHeartbeats 4000000
set_option Elab.async false
set_option linter.all false
set_option maxRecDepth 100000
set_option maxHeartbeats 4000000
theorem zkU:typeLookup (.type "dict") "__len__" =pure (some (.builtin "dict.__len__")):=by rw[sw,oh];kernel_rfl
section
variable {prog:Program} {w:World} {A:Around} {E:Value->Shared->Prop} {s:Shared}
theorem zkH {d:Addr}{kvs:List (z8×Value)}{Q:List Value->Shared->Prop}(hh:A.handled=none)(hd:(d==sysModules)=false)(hm:s.heap.DictOf (xN prog w) d kvs)(hn:kvs.length<=sizeLine)
  (hQ: ∀s' acc,(∀b o,s.heap.get? b=some o->s'.heap.get? b=some o)->s'.gens=s.gens->s'.drawn=s.drawn->s'.os=s.os->ItemsOf (λi v=> ∃k x,kvs[i]?=some (k,x)/\(xN prog w).is k v=true) acc kvs.length->Q acc.toList s'):
  bf (bt prog w) A (collect (.ref d)) Q E s:=by
 have hdl:d < s.heap.objs.size:=by obtain⟨o,es,ep,ho,_⟩:=id hm;exact ba ho
 unfold collect;refine ah (wpAny_runValue (jo F.entry_proto_collect ?_));rw[ic F.plain_proto_collect _];show bf _ A.in1 (newList [] >>= λl=>again (.builtin "list.__iadd__" ⟨[l,.ref d],[]⟩)) _ _ s;refine ah (dg ?_);refine ay ⟨ld wp _,jo F.entry_list_iadd ?_⟩;rw[ic wp _];show bf _ A.in1 (Builtin.List.listExtendWith (.ref s.heap.objs.size) (.ref d) (.ref s.heap.objs.size)) _ _ _;generalize hH:s.heap.push {cls:= .type "list",data:= .seq ([]:List Value).toArray} =H;have hHs:H.objs.size=s.heap.objs.size+1:=by rw[<- hH,ft]
 have kH: ∀b o,s.heap.get? b=some o->H.get? b=some o:=λb o e=>hH▸ar _ e;have hm1:H.DictOf (xN prog w) d kvs:=hm.at λo e=>kH d o e;obtain⟨ep,at1⟩:=hm1.dictAt;have hS:H.get? s.heap.objs.size=some {cls:= .type "list",data:= .seq ([]:List Value).toArray} :=hH▸cb _ rfl;unfold Builtin.List.listExtendWith;have hT:Shared.TypeIs {s with heap:=H} (.ref d) "dict" :=Heap.DictOf.typeIs (s:= {s with heap:=H}) hm1;refine ah (jd hT ?_);have h1:Builtin.List.listSameRef (.ref s.heap.objs.size) (.ref d)=false:=by
  have:s.heap.objs.size≠d:=cw hdl;simp[Builtin.List.listSameRef,this]
 have h2:(Value.type "dict" ==Value.type "list")=false:=by decide
 have h3:(Value.type "dict" ==Value.type "tuple")=false:=by decide
 simp only[h1,h2,h3,Bool.or_false,ll,if_false];refine ah (wpAny_pyIter_dict (s:= {s with heap:=H}) hd at1 ?_);refine ah (du ?_);unfold Builtin.List.listLengthHint;have hT2:Shared.TypeIs {s with heap:=H.push {cls:= .type "dict_keyiterator",data:= .fields #[.ref d,.int 0 0,.int kvs.length 0,.int ep 0]}} (.ref d) "dict" :=by
  obtain⟨o,ho,hc⟩:=hT;exact⟨o,ar _ ho,hc⟩
 refine ah (sy hT2 zkU ?_)
 wp_delta
 refine ah (qu (b:=true) hT2 (by rw[isSubtype_type];kernel_rfl) ?_);show bf _ A.in1 (typeOf (Value.ref d) >>= _) _ _ _;refine ah (jd hT2 ?_);refine ay ?_;rw[if_pos (by decide)];refine ah (ma ?_);generalize hG:H.push {cls:= .type "dict_keyiterator",data:= .fields #[.ref d,.int 0 0,.int kvs.length 0,.int ep 0]} =G at hT2⊢
 have hI:G.get? H.objs.size=some {cls:= .type "dict_keyiterator",data:= .fields #[.ref d,.int 0 0,.int kvs.length 0,.int ep 0]} :=hG▸cb _ rfl;have kG: ∀b o,H.get? b=some o->G.get? b=some o:=λb o e=>hG▸ar _ e;have hS2:=kG _ _ hS;refine ah ?_;show bf _ A.in1 (updateSeq s.heap.objs.size (·.push .none) >>= λ_=>updateSeq s.heap.objs.size (·.pop)) _ _ {s with heap:=G};refine ah (wpAny_updateSeq (s:= {s with heap:=G}) hS2 rfl ?_);have hS3:=jl (Obj.mapSeq (·.push .none)) hS2 rfl;refine(wpAny_updateSeq (s:= {s with heap:=G.update s.heap.objs.size (Obj.mapSeq (·.push .none))}) hS3 rfl ?_);have hS4:=jl (Obj.mapSeq (·.pop)) hS3 rfl;generalize hG2:(G.update s.heap.objs.size (Obj.mapSeq (·.push .none))).update s.heap.objs.size (Obj.mapSeq (·.pop))=G2 at hS4⊢
 have kG2: ∀b o,b≠s.heap.objs.size->G.get? b=some o->G2.get? b=some o:=λb o hb e=>by
  rw[<- hG2];exact(gu _ _ (gb hb)).trans ((gu _ _ (gb hb)).trans e)
 have nI:H.objs.size≠s.heap.objs.size:=by rw[hHs];exact qw _
 have nd:d≠s.heap.objs.size:=bj hdl;have ndI:d≠H.objs.size:=by rw[hHs];exact bj (qh hdl)
 have W:=Walks.dictKeys (knd:=xN prog w) (A:=A.in1) hh H.objs.size d ndI kvs ep;have st0:G2.IsKeyIter H.objs.size d 0 kvs.length ep/\G2.DictAt (xN prog w) d kvs ep:=⟨⟨_,kG2 _ _ nI hI,rfl,rfl⟩,at1.at' λo e=>kG2 d o nd (kG d o e)⟩;have hSf:s.heap.objs.size∉ [H.objs.size,d]:=by
  intro z;rcases bd.mp z with z | z
  ·exact nI z.symm
  ·exact nd (aq.mp z).symm
 refine ay ⟨ld F.plain_extend_loop _,codeAny_extend_loopS W.toS hn _ hSf _ kvs.length 0 {s with heap:=G2} #[] _ rfl (eh _) st0 hS4 (ItemsOf.nil _) λs' acc' c' hm' hS' hacc=> ?_⟩;show bf _ A (load s.heap.objs.size >>= _) _ _ s';refine ah (wpAny_load hS' ?_);refine ay (hQ s' acc' (λb ob e=>hm'.heap b ob (λhb=> ?_) (kG2 b ob (bj (ba e)) (kG b ob (kH b ob e)))) hm'.gens hm'.drawn hm'.os hacc);have hlt:=ba e;rcases bd.mp hb with h | h
 ·exact absurd hlt (h▸ck _)
 ·rw[aq.mp h,hHs]at hlt;exact absurd hlt (Nat.not_lt.mpr (fw _))
theorem zkG {d:Addr}{kvs:List (z8×Value)}{Q₁:Value->Shared->Prop}(hh:A.handled=none)(hd:(d==sysModules)=false)(hm:s.heap.DictOf (xN prog w) d kvs)(hn:kvs.length<=sizeLine)
  (h: ∀(s':Shared) (acc:Array Value),(∀b o,s.heap.get? b=some o->s'.heap.get? b=some o)->s'.gens=s.gens->s'.drawn=s.drawn->s'.os=s.os->ItemsOf (λi v=> ∃k x,kvs[i]?=some (k,x)/\(xN prog w).is k v=true) acc kvs.length->
   Q₁ (.ref s'.heap.objs.size) {s' with heap:=s'.heap.push {cls:= .type "tuple",data:= .seq acc}}):
  codeAny (bt prog w) A (.call (.builtin "tuple.__new__") ⟨[.type "tuple",.ref d],[]⟩) (wants Q₁ E) s:=by
 refine codeAny_of_tree ?_;show bf _ A.in1 (do checkBuiltinCall "tuple.__new__" ⟨[.type "tuple",.ref d],[]⟩;again (.builtin "tuple.__new__" ⟨[.type "tuple",.ref d],[]⟩)) _ _ s;refine ah (wpAny_of_eq (F.newCall_tuple_1 _) (ay ⟨ld wq _,jo F.entry_tuple_new ?_⟩));rw[ic wq _];have hsub:=sub_tuple_self;have hinit:=init_tuple_lookup;have hmh:=madeHere_tuple;have hTI:s.TypeIs (.ref d) "dict" :=hm.typeIs
 wp_walk using jd hTI,zkH (A:=A.in1) hh hd hm hn
 intro s' acc k1 k2 k3 k4 hacc;show bf _ _ (Builtin.Tuple.tupleExact acc.toList.toArray >>= λv=>ret v) _ _ _;unfold Builtin.Tuple.tupleExact;refine ah (dg ?_ (by show acc.toList.toArray.size<=sizeLine;simp only[kc];rw[hacc.1];exact hn));refine ay ?_;have e:acc.toList.toArray=acc:=by simp
 rw[e];exact h s' acc k1 k2 k3 k4 hacc
theorem zk6 {d:Addr}{kvs:List (z8×Value)}{Q:Value->Shared->Prop}(hh:A.handled=none)(hd:(d==sysModules)=false)(hm:s.heap.DictOf (xN prog w) d kvs)(hn:kvs.length<=sizeLine)
  (h: ∀(s':Shared) (acc:Array Value),(∀b o,s.heap.get? b=some o->s'.heap.get? b=some o)->s'.gens=s.gens->s'.drawn=s.drawn->s'.os=s.os->ItemsOf (λi v=> ∃k x,kvs[i]?=some (k,x)/\(xN prog w).is k v=true) acc kvs.length->
   Q (.ref s'.heap.objs.size) {s' with heap:=s'.heap.push {cls:= .type "tuple",data:= .seq acc}}):
  bf (bt prog w) A (call (.type "tuple") [.ref d]) Q E s:=by
 refine uk (Q₁:=λobj s₁=>s₁.TypeIs obj "tuple" /\Q obj s₁) um (F.typeCall_tuple_1 _) F.entry_object_init
  (zkG hh hd hm hn λs' acc k1 k2 k3 k4 hacc=>⟨⟨_,cb _ rfl,rfl⟩,h s' acc k1 k2 k3 k4 hacc⟩) λobj s₁ h₁=> ?_
 exact⟨h₁.1,vb obj _,object_init_meets um.init.lookup um.made (by decide) prog w A.in1 _ s₁ ⟨h₁.1,rfl,h₁.2⟩⟩
end
theorem mN: ∀{xs:List V} {us:List Value},xs.length=us.length->(∀(j:Nat) (v:Value) (x:V),us[j]?=some v->xs[j]?=some x->zT x v)->zK xs us
 | [],[],_,_=> .nil
 | x::xs,u::us,h,r=> .cons (r 0 u x rfl rfl) (mN (by simpa using h) λj v y a b=>r (j+1) v y a b)
theorem iZ {kvs:List (z8×V)}{vs:List (z8×Value)}(r:KV kvs vs):kvs.length=vs.length:=ib r
theorem zbR: ∀{kvs:List (z8×V)} {vs:List (z8×Value)} {i:Nat} {k:z8} {x:Value},KV kvs vs->vs[i]?=some (k,x)->∃y,kvs[i]?=some (k,y)
 | _,_,0,k,x,.cons (a:=p) r _,h=>by
  rw[jg]at h;rw[bx h]at r;have e:p.1=k:=r.1;exact⟨p.2,by rw[jg,<- e]⟩
 | _,_,i+1,k,x,.cons _ r,h=>by
  obtain⟨y,e⟩:=zbR (i:=i) r (by simpa using h);exact⟨y,by simpa using e⟩
section
variable {X:Cx}
theorem zk5 (hc:X.calm=true):xO X (.type "tuple") (λxs H Q=> ∃(d:Addr) (kvs:List (z8×V)),xs= [.ref d]/\H d=some (.dK kvs)/\∀p,H p=none->Q (.ref p) (zI H p (.tup (kvs.map λq=>kV q.1)))):=by
 intro pins s σ H xs us Q I r h;obtain⟨d,kvs,rfl,hd,q⟩:=h;obtain⟨u,rfl,ru⟩:=uC r;cases ru;obtain⟨hz,hsys,vs,kv,dd⟩:=lG I.hok hd;have hl:=iZ kv;refine zk6 (I.ok.hd hc) hsys dd (by rw[<- hl];exact hz) λs' acc k1 k2 k3 k4 hacc=> ?_;obtain⟨hp,g,dr,tk,os⟩:=s';obtain⟨hp0,g0,dr0,tk0,os0⟩:=s;dsimp only at k1 k2 k3 k4;subst k2 k3 k4;have I1:z6 X pins σ H ⟨hp,g,dr,tk,os⟩:=I.kept (t':=tk) (h':=hp) k1;refine⟨.ref hp.objs.size,_,I1.laid (t':=tk) (o:= .tup (kvs.map λq=>kV q.1)) (λb o e=>ar _ e) (ak _) ⟨by rw[aa];exact hz,acc.toList,mN ?_ λj v x hv hx=> ?_,by simpa using uY.new _ _⟩,rfl,q _ I1.fresh⟩
 ·rw[aa,hl];exact hacc.1.symm.trans (fm).symm
 ·obtain⟨k,y,e1,e2⟩:=hacc.2 j v (by simpa using hv)
  obtain⟨z,e3⟩:=zbR kv e1;rw[aw,e3]at hx;have e4:kV k=x:=bx hx;subst e4;rcases sH e2 with⟨i,t,rfl,rfl⟩ | ⟨z',t,rfl,rfl⟩
  ·exact⟨t,rfl⟩
  ·exact⟨t,rfl⟩
end
set_option Elab.async false
set_option linter.all false
set_option maxRecDepth 100000
set_option maxHeartbeats 4000000
set_option Elab.async false
set_option linter.all false
set_option maxRecDepth 100000
set_option maxHeartbeats 4000000
section
variable {X:Cx} {pins:List (Addr×Obj)} {σ:St} {H:Hp} {s:Shared}
theorem zhq {α β:Type}{R:α->β->Prop} : ∀{l:List α} {m:List β} {j:Nat} {a:α} {b:β},Paired R l m->l[j]?=some a->m[j]?=some b->R a b
 | _,_,0,a,b,.cons r _,h1,h2=>by
  rw[jg]at h1 h2;rw[<- bx h1,<- bx h2];exact r
 | _,_,j+1,a,b,.cons _ r,h1,h2=>zhq (j:=j) r (by simpa using h1) (by simpa using h2)
theorem ziV {xs:List V}{its:List Value}(r:zK xs its){j:Nat}(h:j < its.toArray.size): ∃x,xs[j]?=some x/\zT x its.toArray[j]:=by
 have hj:j < xs.length:=by rw[r.length];simpa using h
 obtain⟨u,e,ru⟩:=r.get (i:=j) (x:=xs[j]) (by simp[hj]);refine⟨xs[j],by simp[hj],?_⟩;have:its[j]?=some its.toArray[j]:=by simp
 rw[this]at e;rw[bx e];exact ru
end
set_option Elab.async false
set_option linter.all false
set_option maxRecDepth 100000
set_option maxHeartbeats 4000000
section
variable {X:Cx}
theorem ziW: ∀{us:List Value} {ss:List Str},StrsAre us ss->zK (ss.map V.str) us
 | _,_,.nil=> .nil
 | _,_,.cons _ t r=> .cons ⟨t,rfl⟩ (ziW r)
theorem zk3:xO X (.builtin "sorted") (λxs H Q=> ∃(l:Addr) (ss:List Str),xs= [.ref l]/\yE X.K H l (ss.map V.str)/\ss.length < 64/\∀p ss',H p=none->ss'.Perm ss->sortedS ss'=true->Q (.ref p) (zI H p (.lst (ss'.map V.str)))):=by
 intro pins s σ H xs us Q I r h;obtain⟨l,ss,rfl,hl,h64,q⟩:=h;obtain⟨u,rfl,ru⟩:=uC r;cases ru;obtain⟨its,rv,p,_⟩:=I.list hl;have hlen:=rv.length;rw[aa]at hlen;refine sorted_strs p.isList (zik rv) (by omega) λout ss' h1 h2 h3=> ?_;obtain⟨e,he⟩:=sortedAll_at s.heap its out;have hn:H (s.heap.objs.size+1)=none:=I.hok.fresh (fw _);refine⟨.ref (s.heap.objs.size+1),_,I.laid (t':=s.toks) (o:= .lst (ss'.map V.str)) (λb u z=>sortedAll_old z) (fw _) ⟨?_,out.toList,e,ziW h1,?_⟩,rfl,q _ ss' hn h2 h3⟩
 ·rw[aa,h2.length_eq]
  exact bq (iq h64) (by decide)
 ·rw[kc];exact he
theorem zhh:yI X (binaryOp .Mult) (λx y H Q=> ∃(z:Str) (n:Int),x= .str z/\y= .int n/\((n=0/\Q (.str Str.empty) H)∨(n=1/\Q (.str z) H))):=by
 intro pins s σ H x y v u Q I rx ry h;obtain⟨z,n,rfl,rfl,h⟩:=h;obtain⟨t,rfl⟩:=rx;obtain⟨t',rfl⟩:=ry;rcases h with⟨rfl,q⟩ | ⟨rfl,q⟩
 ·exact PySem.P.mul_str_none (by decide) (by decide) ⟨.str Str.empty,H,I.tok _,⟨_,rfl⟩,q⟩
 ·refine PySem.P.mul_str (by decide) (λ_ h=>by cases h) (λ_ h=>by cases h) ?_
  rw[if_neg (by decide),if_pos (show((1:Int)==1||z.length==0)=true from rfl)];exact⟨.str z,H,I,⟨_,rfl⟩,q⟩
end
set_option Elab.async false
set_option linter.all false
set_option maxRecDepth 100000
set_option maxHeartbeats 4000000
def Rw (H:Hp)(p:Addr)(xs:List Str):Prop:=H p=some (.tup (xs.map V.str))
section
variable {prog:Program} {w:World} {A:Around} {E:Value->Shared->Prop} {s:Shared}
theorem zl1 {t sl:Addr}{items:Array Value}{vl vu:Value}{lo hi:Option Int}{Q:Value->Shared->Prop}(ht:IsTup s.heap t items)(hs:s.heap.IsSliceOf sl vl vu .none)(pl:IsPart vl lo)(pu:IsPart vu hi)
  (hw:HT.sIx items.size 0 lo=0/\HT.sIx items.size items.size hi=items.size) (h:Q (.ref t) s):bf (bt prog w) A (getItem (.ref t) (.ref sl)) Q E s:=by
 obtain⟨os,hos,hcs,hds⟩:=id hs;have hTs:s.TypeIs (.ref sl) "slice" :=⟨os,hos,hcs⟩;unfold getItem
 try with_reducible refine du ?_
 first | refine ah (ay ?_) | skip
 refine ah (qe ht.typeIs (by decide) ?_);refine ah (jf (name:=Str.ofString "__getitem__") ht.typeIs df
  (ki df ht.typeIs ot ?_ (pc _ _)))
 show bf _ _ (Builtin.Tuple.tupleItemsOf (.ref t) >>= _) _ _ s;refine ah (vk ht ?_);refine ah (jd hTs ?_);rw[if_pos (by decide)];refine ah (HT.sliceApplied_gen hs pl pu ?_);have hyes:((((HT.sIx items.size 0 lo:Nat):Int)==0&&(1:Int)==1&&(HT.sIx items.size items.size hi - HT.sIx items.size 0 lo)==items.size)=true):=by
  rw[hw.1,hw.2];simp
 show bf _ _ (if(((HT.sIx items.size 0 lo:Nat):Int)==0&&(1:Int)==1&&(HT.sIx items.size items.size hi - HT.sIx items.size 0 lo)==items.size)=true then _ else _) _ _ s;rw[if_pos hyes];unfold Builtin.Tuple.tupleIsExact;refine ah (ah (jd ht.typeIs (ay ?_)));rw[if_pos (by decide)];refine ah (ma ?_)
 first
  | exact ay ⟨_,rfl,ay h⟩
  | exact ah (ay (ay ⟨_,rfl,ay h⟩))
  | exact ah (ay ⟨_,rfl,ay h⟩)
end
section
variable {X:Cx}
def zlx (K:Frag)(n:Nat)(t:uP):TG:=λv σ H Q=> ∃a xs,v= .ref a/\yE K H a xs/\xs.length=n/\t xs σ H Q
theorem zo2 {es:List Expr}{k:Nat}{t:uP}{n:Nat}{pos:Pos}(hc:X.calm=true)(h:uD X es t)
  (hn:(assignEach es X.env).length=n:=by rfl) (hst:(assignEach es X.env).findIdx? (·.1)=none:=by rfl):PG X (.Tuple es k pos) (zlx X.K n t):=⟨by
 intro pins s σ H v u Q I r hw;obtain⟨a,xs,e1,hq,hl,hw⟩:=hw;subst e1;cases r;obtain⟨its,rv,ht,hz⟩:=I.list hq;rw[assign_Tuple];refine ah (kw ?_);unfold unpack;rw[show(assignEach es X.env).length=its.toArray.size from by simp[hn,<- hl,rv.length],hst];refine ah (du (PySem.W.kun_itemsOf (I.ok.hd hc) ht.isList λh' hx=> ?_));have I1:z6 X pins σ H {s with heap:=h'} :=I.kept (t':=s.toks) λb o e=>hx b o (bj (ba e)) e;exact h pins _ σ H xs _ Q I1 (by simpa using rv) hw⟩
variable {a b c d:Expr} {ta tb tc td:TE} {pos:Pos}
end
set_option Elab.async false
set_option linter.all false
set_option maxRecDepth 100000
set_option maxHeartbeats 4000000
set_option Elab.async false
set_option linter.all false
set_option maxRecDepth 100000
set_option maxHeartbeats 4000000
def zdT (f:Addr)(o:Obj):Heap->Prop:=λh=>h.get? f=some o
def zdA (c:Addr)(q:Str):Heap->Prop:=λh=> ∃o vs t,h.get? c=some o/\o.data= .fields vs/\vs[1]?=some (.str q t)
def less (H:Hp)(c:Addr):Hp:=λb=>if b=c then none else H b
def zkp (H K:Hp)(c:Addr):Hp:=λb=>if b=c then K c else H b
set_option Elab.async false
set_option linter.all false
set_option maxRecDepth 100000
set_option maxHeartbeats 4000000
set_option Elab.async false
set_option linter.all false
set_option maxRecDepth 100000
set_option maxHeartbeats 4000000
set_option Elab.async false
set_option linter.all false
set_option maxRecDepth 100000
set_option maxHeartbeats 4000000
section
variable {X:Cx} {pins:List (Addr×Obj)} {σ:St} {H:Hp} {s:Shared} {scope:Scope} {N' own:List Str}
theorem zh4 {elt target iter:Expr}{ifs:List Expr}{pos spos pos':Pos}{i0:Nat}{x:Str}{wi:TI}{g:TG}{tt:TT}{te:TE}(hN:X.N.Nodup)(hi0:X.N[i0]?=some x)(hx:uN X.env.scope x)(S:sW X scope N' own)(hc:X.calm=true)(hi:PI X target iter wi)
  (hg: ∀C s H fp pins,PG (xM X scope (N'++own) C s H fp pins) target g) (ht: ∀C s H fp pins,PF (xM X scope (N'++own) C s H fp pins) ifs tt) (he: ∀C s H fp pins,PE (xM X scope (N'++own) C s H fp pins) elt te)
  (hs: ∀x,foldedSetIterable iter X.env x=pure x:=by intro _;rfl) (hsw:swapsWith (.ListComp elt [⟨target,iter,ifs,0⟩] scope pos) (some (.Name x pos')) spos.line X.env=pure true:=by rfl)
  (hf:X.fn x=true∨X.env.scope.names.lookup x=some .local:=by first | exact .inl rfl | exact .inr rfl | assumption):
  PS X (.Assign [.Name x pos'] (.ListComp elt [⟨target,iter,ifs,0⟩] scope pos) spos) (mI (j6 own.length wi g tt te) (lO i0)):=by
 refine⟨?_⟩;intro pins s σ H D0 I h;rw[uo _ _ _ _ hsw];refine ah (kw (ah ?_));show bf _ X.A (do let _ <- comprehension (.ListComp elt [⟨target,iter,ifs,0⟩] scope pos) scope X.env _ (newList []) false (eval iter X.env) (some (assign (.Name x pos') X.env))) _ _ s;refine ah (jc (mw (use:=some (assign (.Name x pos') X.env)) (Q:=λ_ s'=>SP X pins D0 .next s') rfl hs (cS (S.cells I)) S.kind S.names ?_) (λ_ s' hq=>ay (ay hq)) λ_ _ e=>e);refine zR (hi pins s σ H _ I h) λv s1 h1=>zR h1 λitv s2 h2=> ?_;obtain⟨it,fp,tn,J,H2,e,I2,T,st2,f2,W,⟨m0,w0⟩,turn⟩:=h2;subst e;have fl: ∀b∈fp,b < s2.heap.objs.size:=λb hb=>by obtain⟨o,e,_⟩:=T.obj _ _ st2 b hb;exact ba e
 refine dg (va S.nocell (by intro y hy;simp at hy) (λh4 ns4 sb4=> ?_) S.kind);dsimp only at ns4 sb4⊢
 generalize hH3:s2.heap.push {cls:= .type "list",dict:=none,data:= .seq ([]:List Value).toArray} =h3 at ns4 sb4⊢
 have hC:h3.objs.size=s2.heap.objs.size+1:=by rw[<- hH3,ft]
 have hDC:s2.heap.objs.size≠h3.objs.size:=by rw[hC];exact bj (me _)
 have hCle:s2.heap.objs.size<=h3.objs.size:=by rw[hC];exact fw _
 have eD3:h3.get? s2.heap.objs.size=some {cls:= .type "list",data:= .seq ([]:List Value).toArray} :=hH3▸cb _ rfl;have k4: ∀b u,s2.heap.get? b=some u->h4.get? b=some u:=λb u e=>
  (sb4.2 b (bj (bc (ba e) hCle))).trans (ar _ (hH3▸ar _ e))
 have eD4:h4.get? s2.heap.objs.size=some {cls:= .type "list",data:= .seq ([]:List Value).toArray} :=(sb4.2 _ hDC).trans (ar _ eD3);generalize hDd:s2.heap.objs.size=D at *;generalize hCd:h3.objs.size=C at *;have I4:=zgt S I2 (C:=C) (D:=D) (fp:=fp) (h4:=h4) (tk:=s2.toks+([]:List (Str×Value)).length) k4 (by rw[hDd];exact hCle) (by rw[hDd];exact ak _) hDC eD4 (by intro v z;cases z) ns4 f2 (by rw[hDd];exact fl);have lowC: ∀(b:Addr) (u:Obj),s2.heap.get? b=some u->b≠C:=λb u e=>bj (bc (ba e) (by rw[hDd];exact hCle));have nofp: ∀b∈fp,b∉vA X.stack:=λb hb hm=>by
  rcases bd.mp (I2.stkSub b hm)with z | z
  ·exact(f2 b hb).2.1 z
  ·exact(f2 b hb).2.2.1 z
 have fpD: ∀b∈fp,b≠D:=λb hb=>bj (fl b hb);have stat: ∀{H':Hp} {o:Obj},(∀b∈fp,H' b=none)->∀b∈fp,uX (xM X scope (N'++own) C s2 H2 fp pins) [(D,o)] H' b:=λ{H' o} hn b hb=>
  ⟨hn b hb,bj (bc (fl b hb) hCle),nofp b hb,.inl hb,λx c e=>(f2 b hb).2.2.2.2.1 x c (rZ S I2 e),λp hp=>by
   have hp':p∈(X.pn++pins)++ [(D,o)]:=hp;rcases av.mp hp' with z | z
   ·exact(f2 b hb).2.2.2.2.2 p z
   ·have e:p=(D,o):=by simpa using z
    rw[e];exact gb (fpD b hb)⟩
 have loop: ∀s3:Shared,z6 (xM X scope (N'++own) C s2 H2 fp pins) [(D,{cls:= .type "list",data:= .seq ([]:List Value).toArray})] (σ++List.replicate own.length none) H2 s3->tn 0 s3.heap->
   codeAny (bt X.prog X.w) X.A (.compLoop (.ListComp elt [⟨target,iter,ifs,0⟩] scope pos) 0 (.ref it) (.ref D) (compEnvC scope (xW scope.names X.env.cells) C X.env))
    (compPost (bt X.prog X.w) X.A X.xe (some (assign (.Name x pos') X.env)) (λ_ s'=>SP X pins D0 .next s') (.ref D) C) s3:=by
  intro s3 I3 st3;refine cT (λn s'=> ∃(i:Nat) (ys:List V) (σ':St) (H':Hp) (vals:List Value) (cnt:Nat),z6 (xM X scope (N'++own) C s2 H2 fp pins) [(D,{cls:= .type "list",data:= .seq vals.toArray cnt})] σ' H' s'/\
   tn i s'.heap/\(∀b∈fp,H' b=none)/\zK ys vals/\W i n ys σ' H') ?_ m0 ⟨0,[],_,H2,[],0,I3,st3,λb hb=>(f2 b hb).1,.nil,w0⟩
  rintro n s3 ⟨i,ys,σ3,H3,vals,cnt,I3,st3,fr3,rv,w3⟩;rcases turn i n ys σ3 H3 w3 with⟨stop,hz,q⟩ | ⟨go,hz,N,hN,step⟩
  ·refine zR (T.done (xM X scope (N'++own) C s2 H2 fp pins) rfl rfl rfl hc i _ s3 σ3 H3 _ I3 (stat fr3) st3 stop) λr s4 ⟨hr,I4⟩=> ?_
   subst hr;obtain⟨m,ns,_⟩:=id I4.loc;have u4:Un (vA X.stack) fp H2 H3 s2.heap s4.heap:=I4.base;have nC:H3 C=none:=I4.free;have I5:z6 X pins σ H3 s4:=I2.call' (ch:=fp) I4.os u4 I4.hok I4.bare λb hb=>⟨(f2 b hb).2.2.2.1,(f2 b hb).2.1,(f2 b hb).2.2.2.2.1,(f2 b hb).2.2.2.2.2⟩;obtain⟨eD,nD,_⟩:=I4.pin (D,_) (al _ bz);have lL:X.env.locals < D:=by have:=I2.lt;rw[hDd]at this;exact this
   have lcl: ∀x c,X.env.cells.lookup x=some c->c < D:=λx c e=>by
    obtain⟨v,o,ho,_⟩:=I2.cell x c e;have:=ba ho;rw[hDd]at this;exact this
   have lp: ∀p∈X.pn++pins,p.1 < D:=λp hp=>by have:=ba (I2.pin p hp).1;rw[hDd]at this;exact this
   have lDC:D < C:=vz hCle hDC;have I6:z6 X pins σ (zI H3 D (.lst ys)) s4:=nL I5 nD (by rw[<- hDd];exact I2.sz) (cw lL) (λx c e=>bj (lcl x c e)) (λp hp=>bj (lp p hp)) ⟨hz,vals,cnt,rv,eD⟩;refine qb (zdg I6 hN hi0 hx (v:= .ref D) rfl (λs5 I7 ⟨a,sba,ha⟩=> ?_) hf);have nCa:C≠a:=by
    rcases ha with z | z
    ·rw[z];exact cw (fc lL lDC)
    ·exact cw (fc (lcl _ _ z) lDC)
   obtain⟨oC,esC,epC,eC,rC⟩:=ns;refine⟨m,⟨oC,esC,epC,(sba.2 C nCa).trans eC,rC⟩,λh' sb=> ?_⟩;refine⟨_,_,I7.turned (t':=s5.toks) (it:=C) (λb o hb e=>(sb.2 b hb).trans e) (by rw[yO (cw lDC)];exact nC) (cw (fc lL lDC)) (.inr (bq (by rw[<- hDd];exact I2.sz) (iq lDC))) (λx c e=>bj (fc (lcl x c e) lDC)) (λp hp=>bj (fc (lp p hp) lDC)),q D nD⟩
  ·refine zR (T.item (xM X scope (N'++own) C s2 H2 fp pins) rfl rfl rfl hc i _ s3 σ3 H3 _ I3 (stat fr3) st3 go) λr s4 ⟨u,hr,h4⟩=> ?_
   subst hr;refine zR h4 λ_ s5 ⟨x,H5,I5,r5,y5,st5,fr5⟩=> ?_;have I5':=I5.pinned (stat fr5) (T.obj _ _ st5);have keepT: ∀{σ7:St} {H7:Hp} {s7:Shared} {pl:List (Addr×Obj)},z6 (xM X scope (N'++own) C s2 H2 fp pins) (pl++tI fp s5.heap) σ7 H7 s7->tn (i+1) s7.heap/\∀b∈fp,H7 b=none:=λ{σ7 H7 s7 pl} I7=>
    ⟨T.keep _ _ _ st5 λb hb o e=>(I7.pin (b,o) (al _ (al _ (qY hb e)))).1,λb hb=>by
     obtain⟨o,e,d⟩:=T.obj _ _ st5 b hb;exact(I7.pin (b,o) (al _ (al _ (qY hb e)))).2.1⟩
   refine qF (hg C s2 H2 fp pins _ s5 σ3 H5 x u _ I5' r5 (step x H5 y5)) λ_ s6 ⟨σ6,H6,I6,q6⟩=> ?_;refine qF (ht C s2 H2 fp pins _ s6 σ6 H6 _ I6 q6) λb s7 ⟨H7,I7,q7⟩=> ?_;cases b with
   | false=>
    obtain⟨m',hm,w7⟩:=hN _ _ _ q7;obtain⟨t7,fr7⟩:=keepT I7;exact⟨m',hm,i+1,ys,σ6,H7,vals,cnt,I7.unpinned,t7,fr7,rv,w7⟩
   | true=>
    refine qF (he C s2 H2 fp pins _ s7 σ6 H7 _ I7 q7) λy s8 ⟨yv,H8,I8,r8,q8⟩=> ?_;obtain⟨m',hm,w8⟩:=hN _ _ _ q8;obtain⟨eD,nD,neD,nfD,cD⟩:=I8.pin (D,_) (al _ (az _ bz));have hvl:=rv.length;refine ka mt ⟨_,eD,rfl⟩ mj (md _ _) (nj D vals.toArray cnt y (by rw[bo];omega)) ⟨eD,?_⟩;have I8':z6 (xM X scope (N'++own) C s2 H2 fp pins) (tI fp s5.heap) σ6 H8 s8:=I8.pins_of λp hp=>I8.pin p (al _ (al _ hp));have hno: ∀p∈(X.pn++pins)++tI fp s5.heap,p.1≠D:=λp hp=>by
     rcases av.mp hp with z | z
     ·intro q
      have:=ba (I2.pin p z).1;rw[hDd,q]at this;exact ck _ this
     ·exact fpD _ (gD z).1
    have I9:=I8'.turned (t':=s8.toks) (it:=D) (h':=s8.heap.update D (Obj.mapSeq λx=>x.push y)) (λb o hb e=>(gu s8.heap _ (gb hb)).trans e) nD neD (.inr (by show s2.heap.objs.size<=D;rw[hDd];exact ak _))
     (λx c e z=>by
      obtain⟨v,o,ho,_⟩:=I2.cell x c (rZ S I2 e);have:=ba ho;rw[hDd,z]at this;exact ck _ this) hno
    obtain⟨t9,fr9⟩:=keepT (pl:= []) I9;have qD: ∃n',(s8.heap.update D (Obj.mapSeq λx=>x.push y)).get? D=some {cls:= .type "list",data:= .seq (vals++ [y]).toArray n'} :=by
     have q:=oe (l:=D) (items:=vals.toArray) (n:=cnt) (h:=s8.heap) eD λx=>x.push y;have e:vals.toArray.push y=(vals++ [y]).toArray:=by simp
     rw[<- e];exact⟨_,q⟩
    obtain⟨n',qD⟩:=qD;refine⟨m',hm,i+1,ys++ [yv],σ6,H8,vals++ [y],n',I9.pins_of λp hp=> ?_,t9,fr9,rv.append (.cons r8 .nil),w8⟩;have e:=aq.mp hp;rw[e];exact⟨qD,nD,neD,nfD,by intro v z;cases z⟩
 have t4:tn 0 h4:=T.keep _ _ _ st2 λb _ o e=>k4 b o e;exact nv (loop _ I4 t4) (T.self _ 0 _ _ _ t4 (loop _ I4 t4))
end
set_option Elab.async false
set_option linter.all false
set_option maxRecDepth 100000
set_option maxHeartbeats 4000000
set_option Elab.async false
set_option linter.all false
set_option maxRecDepth 100000
set_option maxHeartbeats 4000000
set_option Elab.async false
set_option linter.all false
set_option maxRecDepth 100000
set_option maxHeartbeats 4000000
set_option Elab.async false
set_option linter.all false
set_option maxRecDepth 100000
set_option maxHeartbeats 4000000
set_option Elab.async false
set_option linter.all false
set_option maxRecDepth 100000
set_option maxHeartbeats 4000000
open PySem.W
section
variable {X:Cx}
theorem ze3 (hc:X.calm=true):xO X (.type "list") (λxs H Q=> ∃(d:Addr) (kvs:List (z8×V)),xs= [.ref d]/\H d=some (.dK kvs)/\∀p,H p=none->Q (.ref p) (zI H p (.lst (kvs.map λq=>kV q.1)))):=by
 intro pins s σ H xs us Q I r h;obtain⟨d,kvs,rfl,hd,q⟩:=h;obtain⟨u,rfl,ru⟩:=uC r;cases ru;obtain⟨hz,hsys,vs,kv,dd⟩:=lG I.hok hd;have hl:=iZ kv;obtain⟨o,es0,ep,e1,e2,e3,e4,e5,e6⟩:=id dd;refine kdl_call (kdl_dict (knd:=xN X.prog X.w) (kvs:=vs) (ep:=ep) hsys) (I.ok.hd hc) ⟨o,es0,e1,e2,e3,e4,e5,e6⟩ (by rw[<- hl];exact hz) λh' tk acc c k1 k2 hacc=> ?_;refine⟨.ref s.heap.objs.size,_,I.laid (t':=tk) (o:= .lst (kvs.map λq=>kV q.1)) k1 (ak _) ⟨by rw[aa];exact hz,acc.toList,c,mN ?_ λj v x hv hx=> ?_,?_⟩,rfl,q _ I.fresh⟩
 ·rw[aa,hl];exact hacc.1.symm.trans (fm).symm
 ·obtain⟨k,y,e1,e2⟩:=hacc.2 j v (by simpa using hv)
  obtain⟨z,e3⟩:=zbR kv e1;rw[aw,e3]at hx;have e4:kV k=x:=bx hx;subst e4;rcases sH e2 with⟨i,t,rfl,rfl⟩ | ⟨z',t,rfl,rfl⟩
  ·exact⟨t,rfl⟩
  ·exact⟨t,rfl⟩
 ·rw[kc];exact k2
end
set_option Elab.async false
set_option linter.all false
set_option maxRecDepth 100000
set_option maxHeartbeats 4000000
section
variable {prog:Program} {w:World} {A:Around} {E:Value->Shared->Prop} {s:Shared}
theorem zqZ:typeLookup (.type "tuple") "keys" =pure none:=by rw[sw,oh];kernel_rfl
theorem zme {a:Addr}{xs:Array Value}{k:Nat}{sl:Array (Option Value)}{u:Tok}{Q:Value->Shared->Prop}
  (hx:s.heap.get? a=some {cls:= .type "tuple",dict:=none,data:= .seq xs k,slots:=sl}) (hA:A.handled=none)
  (h: ∀h' tk e,Heap.NewExcOf s.heap h' e "AttributeError" ->E (.ref e) {s with heap:=h',toks:=tk}):
  bf (bt prog w) A (getAttrBy (.ref a) (.str "keys" u) false) Q E s:=by
 obtain⟨hp,g,d,tk,os⟩:=s;have hT: ∀tk',(⟨hp,g,d,tk',os⟩:Shared).TypeIs (.ref a) "tuple" :=λ_=>⟨_,hx,rfl⟩;have f1:=mx;have f3:=ml.lookup;have f4:=ml.bind (.ref a);have f5:=am_tuple_getattr_none;unfold getAttrBy
 repeat(any_goals (first | assumption | exact hT _ | ((with_reducible show bf _ _ (call (Value.builtin "tuple.__getattribute__") _ _) _ _ _);refine ka ml (hT _) am_entry_tuple_getattribute (F.args_tuple_getattribute_2 _ _) (meets_getattribute_miss_tuple a xs k sl "keys" _ zqZ (by decide+kernel) (by size_fits)) ⟨hx,hA,λh' tk' e hx'=> ?_⟩) | wp_step))
 obtain⟨t',u',he⟩:=hx'.there;show bf _ _ (getattributeRaised _ _ _ _ _ _ _) _ _ _;unfold getattributeRaised
 repeat(any_goals (first | assumption | wp_step))
 exact h _ _ _ hx'.of
theorem zmg {a:Addr}{xs:Array Value}{k:Nat}{sl:Array (Option Value)}{Q:Option Value->Shared->Prop}
  (hx:s.heap.get? a=some {cls:= .type "tuple",dict:=none,data:= .seq xs k,slots:=sl}) (hA:A.handled=none)
  (h: ∀h' tk,(∀b o,s.heap.get? b=some o->h'.get? b=some o)->Q none {s with heap:=h',toks:=tk}):
  bf (bt prog w) A (getAttr? (.ref a) "keys") Q E s:=by
 unfold getAttr? getAttrBy?;refine ah (wpAny_mkText ?_);refine ah (wpAny_attempt ?_);refine zme hx hA λh' tk e x=> ?_;obtain⟨o,xs',he,hc,_⟩:=x.there;refine ah (qu (T:= "AttributeError") ⟨_,he,hc⟩ mx ?_);rw[if_pos rfl];exact ay (h h' tk x.keeps)
end
set_option Elab.async false
set_option linter.all false
set_option maxRecDepth 100000
set_option maxHeartbeats 4000000
theorem iL:entryFor table "dict.update.loop" =some Builtin.«dict.update.loop»:=entryFor_of_tree (by kernel_rfl)
theorem pB:plainId "dict.update.loop" =true:=by decide+kernel
section
variable {prog:Program} {w:World} {A:Around} {E:Value->Shared->Prop} {s:Shared}
theorem zhp {b:Addr}{key x:Value}{Q:List Value->Shared->Prop}(hb:IsTup s.heap b #[key,x])(h:Q [key,x] s):bf (bt prog w) A (Builtin.Dict.pairItems (.ref b)) Q E s:=by
 obtain⟨o,ho,hc,n,hd⟩:=hb;unfold Builtin.Dict.pairItems;refine ah (jd (T:= "tuple") ⟨_,ho,hc⟩ ?_);rw[if_pos (by decide)];exact ah (uq ho hd (ay h))
theorem mL {h h':Heap}{b:Addr}{xs:Array Value}(x:IsTup h b xs)(k: ∀o,h.get? b=some o->h'.get? b=some o):IsTup h' b xs:=let⟨o,ho,r⟩:=x;⟨o,k o ho,r⟩
theorem ze_ {K:Type}[DecidableEq K]{knd:KeyKind prog w K}{D I t:Addr}{items:Array Value}{res:Value}{R:Result->Shared->Prop}(hh:A.handled=none)(hIt:I≠t)(hDt:D≠t)(hDI:D≠I):
  ∀(y2:List (K×Addr×Value)) (i:Nat) (kvs:List (K×Value)) (z:Int) (tok:Tok) (s:Shared),IsTupIter s.heap I t i->IsTup s.heap t items->s.heap.DictOf knd D kvs->
   items.toList.drop i=y2.map (λq=>Value.ref q.2.1)->(∀q∈y2,(∃key,knd.is q.1 key=true/\IsTup s.heap q.2.1 #[key,q.2.2])/\q.2.1≠I/\q.2.1≠D)->kvs.length+y2.length<=sizeLine->
   (∀h' tk,h'.DictOf knd D (merged kvs (y2.map λq=>(q.1,q.2.2)))->(∀b o,b≠I->b≠D->s.heap.get? b=some o->h'.get? b=some o)->R (.ok (.ret res)) {s with heap:=h',toks:=tk})->
   codeAny (bt prog w) A (.builtin "dict.update.loop" ⟨[.ref D,.ref I,.int z tok,res],[]⟩) R s
 | [],i,kvs,z,tok,s,hit,ht,hm,hd,hq,hsz,h=>by
  refine jo iL ?_;rw[ic pB _];have hx:items[i]?=none:=by
   rw[<- gw];have:items.toList.length<=i:=vc.mp hd;exact ql.mpr this
  show bf _ A.in1 (pyNext (.ref I) >>= _) _ _ _;refine ah (next_tuple_end (A:=A.in1) hh hit ht hx λh1 k1=> ?_);show bf _ A.in1 (Builtin.Dict.addKeywords D [] >>= λ_=>ret res) _ _ _;refine ah (ay (ay ?_));exact h h1 s.toks (hm.at λo e=>k1 D o hDI e) λb o b1 _ e=>k1 b o b1 e
 | q::y2,i,kvs,z,tok,s,hit,ht,hm,hd,hq,hsz,h=>by
  refine jo iL ?_;rw[ic pB _];obtain⟨⟨key,hk,hb⟩,hbI,hbD⟩:=hq q (.head _);have hx:items[i]?=some (Value.ref q.2.1):=by
   rw[<- gw];have:=congrArg (λl=>l[0]?) hd;simpa using this
  have hd':items.toList.drop (i+1)=y2.map (λq=>Value.ref q.2.1):=by
   have:=congrArg List.tail hd;simpa using this
  show bf _ A.in1 (pyNext (.ref I) >>= _) _ _ _;refine ah (next_tuple_item (A:=A.in1) hit ht hx λh1 it1 sb1=> ?_);have hb1:IsTup h1 q.2.1 #[key,q.2.2]:=mL hb λo e=>(sb1.2 _ hbI).trans e;have hm1:h1.DictOf knd D kvs:=hm.at λo e=>(sb1.2 D hDI).trans e;dsimp only;refine ah (du ?_);refine ah (wpAny_tryCatch (zhp (s:= {s with heap:=h1}) hb1 ?_));dsimp only;refine du (vm (s:= {s with heap:=h1}) hk hm1 (λh2 hm2 sb2=> ?_) (by have:=hsz;simp only[cg]at this;omega));refine ay ⟨ld pB _,?_⟩;have hlen:(stored kvs q.1 q.2.2).length<=kvs.length+1:=by
   unfold stored
   split <;> simp
  refine ze_ hh hIt hDt hDI y2 (i+1) (stored kvs q.1 q.2.2) _ _ _ (let⟨o,ho,r⟩:=it1;⟨o,(sb2.2 I (gb hDI)).trans ho,r⟩) ?_ hm2 hd' (λq' m=> ?_) (by simp only[cg]at hsz;omega) λh' tk a b=> ?_
  ·obtain⟨o,ho,r⟩:=ht
   exact⟨o,(sb2.2 t (gb hDt)).trans ((sb1.2 t (gb hIt)).trans ho),r⟩
  ·obtain⟨⟨key',hk',hb'⟩,hbI',hbD'⟩:=hq q' (.tail _ m)
   exact⟨⟨key',hk',mL hb' λo e=>(sb2.2 _ hbD').trans ((sb1.2 _ hbI').trans e)⟩,hbI',hbD'⟩
  ·refine h h' tk a λc o c1 c2 e=>b c o c1 c2 ((sb2.2 c c2).trans ((sb1.2 c c1).trans e))
theorem zkz {K:Type}[DecidableEq K]{knd:KeyKind prog w K}{t:Addr}{n:Nat}{sl:Array (Option Value)}{y2:List (K×Addr×Value)}{Q:Value->Shared->Prop}(hh:A.handled=none)
  (ht:s.heap.get? t=some {cls:= .type "tuple",dict:=none,data:= .seq (y2.map λq=>Value.ref q.2.1).toArray n,slots:=sl})
  (hq: ∀q∈y2,∃key,knd.is q.1 key=true/\IsTup s.heap q.2.1 #[key,q.2.2]) (hsz:y2.length<=sizeLine)
  (h: ∀h' tk,h'.DictOf knd s.heap.objs.size (merged [] (y2.map λq=>(q.1,q.2.2)))->(∀b o,s.heap.get? b=some o->h'.get? b=some o)->Q (.ref s.heap.objs.size) {s with heap:=h',toks:=tk}):
  bf (bt prog w) A (call (.type "dict") [.ref t]) Q E s:=by
 refine uk (Q₁:=λobj s₁=>obj= .ref s.heap.objs.size/\s₁= {s with heap:=s.heap.push {cls:= .type "dict",data:= .dict #[]}}) F.kt_called_dict (vd _) wu (kt_code_dict_new _ ⟨rfl,rfl⟩) ?_;rintro obj s₁ ⟨rfl,rfl⟩;have hnew:(s.heap.push {cls:= .type "dict",data:= .dict #[]}).DictOf knd s.heap.objs.size []:=su s.heap;have ht1:(s.heap.push {cls:= .type "dict",data:= .dict #[]}).get? t=some {cls:= .type "tuple",dict:=none,data:= .seq (y2.map λq=>Value.ref q.2.1).toArray n,slots:=sl} :=ar _ ht;refine⟨hnew.typeIs,wa _ _,?_⟩;unfold Builtin.«dict.__init__»;refine ah ?_;unfold Builtin.Dict.selfAndRest;refine ah (oi hnew.typeIs ?_);show bf _ _ (pure (s.heap.objs.size,[Value.ref t])) _ _ _;refine ay ?_;show bf _ _ (Builtin.Dict.updateFrom "dict.__init__" s.heap.objs.size (.ref t) [] .none) _ _ _;unfold Builtin.Dict.updateFrom;refine ah (jd (T:= "tuple") ⟨_,ht1,rfl⟩ ?_);rw[if_pos (by decide)];refine ah (zmg ht1 hh λh1 tk k1=> ?_);rw[if_pos (show(none:Option Value).isNone=true from rfl)];refine ah (ma ?_);have ht2:=k1 _ _ ht1;have hD1:h1.DictOf knd s.heap.objs.size []:=hnew.at λo e=>k1 _ o e;refine ah (iter_tuple (s:= {s with heap:=h1,toks:=tk}) ⟨_,ht2,rfl,_,rfl⟩ ?_);have lD:s.heap.objs.size < h1.objs.size:=by obtain⟨o,es,ep,ho,_⟩:=id hD1;exact ba ho
 have lt:t < s.heap.objs.size:=ba ht;refine ay ⟨ld pB _,?_⟩;refine ze_ (A:=A.in1) (knd:=knd) (t:=t) (items:=(y2.map λq=>Value.ref q.2.1).toArray) hh (cw (fc lt lD)) (cw lt) (bj lD) y2 0 [] _ _ {s with heap:=h1.push {cls:= .type "tuple_iterator",data:= .fields #[.ref t,.int 0 0]},toks:=tk} ⟨_,cb _ rfl,rfl,rfl⟩ ⟨_,ar _ ht2,rfl,_,rfl⟩ (hD1.push _) (by simp) (λq m=> ?_) (by simpa using hsz) λh' tk' a b=> ?_
 ·obtain⟨key,hk,hb⟩:=hq q m
  have lb:q.2.1 < s.heap.objs.size:=hb.lt;exact⟨⟨key,hk,mL hb λo e=>ar _ (k1 _ _ (ar _ e))⟩,bj (fc lb lD),bj lb⟩
 ·refine⟨rfl,h h' tk' a λc o e=> ?_⟩
  have lc:=ba e;exact b c o (bj (fc lc lD)) (bj lc) (ar _ (k1 _ _ (ar _ e)))
end
set_option Elab.async false
set_option linter.all false
set_option maxRecDepth 100000
set_option maxHeartbeats 4000000
section
variable {X:Cx} {pins:List (Addr×Obj)} {σ:St} {H:Hp} {s:Shared}
def jW (K:Frag)(H:Hp):List Addr->List (z8×V)->Prop:=Paired λa (q:z8×V)=>x5 K H a [kV q.1,q.2]
theorem zcL: ∀{as:List Addr} {its:List Value},zK (as.map V.ref) its->its=as.map Value.ref
 | [],_,.nil=>rfl
 | a::as,_,.cons r t=>by
  cases r;rw[zcL t];rfl
theorem zcM {pins:List (Addr×Obj)}{σ:St}(ok:z6 X pins σ H s): ∀{as:List Addr} {ps:List (z8×V)},jW X.K H as ps->
  ∃y2:List (z8×Addr×Value),y2.map (·.2.1)=as/\KV ps (y2.map λq=>(q.1,q.2.2))/\∀q∈y2,∃key,(xN X.prog X.w).is q.1 key=true/\IsTup s.heap q.2.1 #[key,q.2.2]
 | _,_,.nil=>⟨[],rfl,.nil,λ_ m=>nomatch m⟩
 | a::as,q::ps,.cons e t=>by
  obtain⟨y2,r1,r2,r3⟩:=zcM ok t;obtain⟨its,rv,tp,_⟩:=ok.tuple e;obtain⟨u1,u2,rfl,g1,g2⟩:=rv.two;refine⟨(q.1,a,u2)::y2,by rw[bb,r1],.cons ⟨rfl,g2⟩ r2,λq' m=> ?_⟩;rcases bd.mp m with rfl | m
  ·exact⟨u1,qW g1,tp⟩
  ·exact r3 q' m
theorem zky (hc:X.calm=true):xO X (.type "dict") (λxs H Q=> ∃(t:Addr) (as:List Addr) (ps:List (z8×V)),xs= [.ref t]/\x5 X.K H t (as.map V.ref)/\jW X.K H as ps/\∀p,H p=none->Q (.ref p) (zI H p (.dK (uS [] ps)))):=by
 intro pins s σ H xs us Q I r h;obtain⟨t,as,ps,rfl,ht,hp,q⟩:=h;obtain⟨u,rfl,ru⟩:=uC r;cases ru;obtain⟨its,rv,⟨o,e1,e3,n,e4,hd⟩,hz⟩:=I.tupleD ht;cases zcL rv;obtain⟨y2,r1,r2,r3⟩:=zcM I hp;have hl:=iZ r2;rw[aa]at hl;have hz':y2.length<=sizeLine:=by
  rw[aa,<- r1,aa]at hz;exact hz
 obtain⟨c,dct,dat,sl⟩:=o;dsimp only at hd e3 e4;subst hd e3 e4;have ea:as.map Value.ref=y2.map λq=>Value.ref q.2.1:=by rw[<- r1,cy];rfl
 rw[ea]at e1;refine zkz (knd:=xN X.prog X.w) (I.ok.hd hc) e1 r3 hz' λh' tk dd k=> ?_;refine⟨.ref s.heap.objs.size,_,I.laid (t':=tk) (o:= .dK (uS [] ps)) k (ak _) ?_,rfl,q _ I.fresh⟩;refine lF ?_ (beq_eq_false_iff_ne.mpr (gb (bj I.big))) (KV.merge r2 .nil) dd;have:=lV ps [];simp only[jm,lw]at this;exact bq this (by rw[hl];exact hz')
end
set_option Elab.async false
set_option linter.all false
set_option maxRecDepth 100000
set_option maxHeartbeats 4000000
set_option Elab.async false
set_option linter.all false
set_option maxRecDepth 100000
set_option maxHeartbeats 4000000
def ziQ:List (Str×Int)->Str->Int
 | [],_=>0
 | q::l,x=>if q.1=x then q.2 else ziQ l x
set_option Elab.async false
set_option linter.all false
set_option maxRecDepth 100000
set_option maxHeartbeats 4000000
set_option Elab.async false
set_option linter.all false
set_option maxRecDepth 100000
set_option maxHeartbeats 4000000
set_option Elab.async false
set_option linter.all false
set_option maxRecDepth 100000
set_option maxHeartbeats 4000000
set_option Elab.async false
set_option linter.all false
set_option maxRecDepth 100000
set_option maxHeartbeats 4000000
set_option Elab.async false
set_option linter.all false
set_option maxRecDepth 100000
set_option maxHeartbeats 4000000
set_option Elab.async false
set_option linter.all false
set_option maxRecDepth 100000
set_option maxHeartbeats 4000000
set_option Elab.async false
set_option linter.all false
set_option maxRecDepth 100000
set_option maxHeartbeats 4000000
set_option Elab.async false
set_option linter.all false
set_option maxRecDepth 100000
set_option maxHeartbeats 4000000
abbrev TJ:=St->Hp->Str->VK->Prop
set_option Elab.async false
set_option linter.all false
set_option maxRecDepth 100000
set_option maxHeartbeats 4000000
theorem z6.turnedL {X:Cx}{pins:List (Addr×Obj)}{σ:St}{H:Hp}{s:Shared}{h':Heap}{t':Nat}{fp:List Addr}(I:z6 X pins σ H s)(k: ∀b o,b∉fp->s.heap.get? b=some o->h'.get? b=some o)(hf: ∀b∈fp,uX X pins H b):
  z6 X pins σ H {s with heap:=h',toks:=t'} :=by
 have nit: ∀b u,H b=some u->b∉fp:=λb u e z=>by rw[(hf b z).1]at e;cases e
 refine I.step (g':=s.gens) (d':=s.drawn) (ch:=fp) (λb hb=>⟨(hf b hb).2.2.2.1,(hf b hb).2.1,(hf b hb).2.2.2.2.1,(hf b hb).2.2.2.2.2⟩) (λb o _ _ hc e _=>k b o hc e) (λb o _ _ hc e _=>⟨o.slots,k b o hc e⟩) (λ_ _ _ _ n=>n)
  (λb o hc e=>⟨o,k b o hc e⟩) (λ_ _ e=>e) (λ_ _ _ e=>e) (λb ps e=>⟨#[],by rw[e];simp⟩) (λm hm=> ?_) (λb u e=> ?_) I.bare
 ·obtain⟨o,es,ep,ho,r⟩:=hm
  exact⟨o,es,ep,k _ o (λz=>(hf _ z).2.1 rfl) ho,r⟩
 ·refine(I.hok b u e).stay (λc v hc q=>k c v ?_ q) (λ_ q=>q) λ_ _ q=>q
  rcases hc with z | z
  ·rw[z];exact nit b u e
  ·exact nit c _ z
def dC (K:Frag)(a:Addr):It:=
 ⟨λi H=> ∃xs x,yE K H a xs/\xs[i]?=some x,λi H y H'=> ∃p x,H p=none/\(∀xs,yE K H a xs->xs[i]?=some x)/\y= .ref p/\H'=zI H p (.tup [.int i,x]),λi H=> ∃xs,yE K H a xs/\xs.length<=i⟩
theorem zra {P:Program}{w:World}{K:Frag}{elts:List Expr}{k:Nat}{pos:Pos}(a e it:Addr)(ne:e≠it):
  rV P w K (.Tuple elts k pos) (dC K a) [e,it] e (λi h=>(∃old,IsEnum h e it i old)/\h.IsListIter it a i) where
 mem:=by simp
 obj:=λi h st b hb=>by
  obtain⟨⟨old,he⟩,o,ho,c,d⟩:=st;rcases bd.mp hb with rfl | hb
  ·exact⟨_,he,λv z=>by cases z⟩
  ·rw[aq.mp hb];exact⟨o,ho,λv z=>by rw[d]at z;cases z⟩
 keep:=λi h h' st kk=>by
  obtain⟨⟨old,he⟩,hit⟩:=st;exact⟨⟨old,kk e (by simp) _ he⟩,hit.at λo e'=>kk it (by simp) o e'⟩
 item:=by
  intro X hP hw hK hc i pins s σ H E I hf st hg;subst hP hw hK;obtain⟨xs,x,hq,hx⟩:=hg;obtain⟨its,rv,p,hz⟩:=I.list hq;obtain⟨u,hu,ru⟩:=rv.get hx;obtain⟨⟨old,he⟩,hit⟩:=st;have le:e < s.heap.objs.size:=ba he;have li:it < s.heap.objs.size:=by obtain⟨o,ho,_⟩:=hit;exact ba ho
  refine wpAny_pyNext_enum_item he hit p.isList (x:=u) (by simpa using hu) ne λh' ho hit' hT hsz kk=>⟨_,rfl,?_⟩;refine pq (s:= {s with heap:=h',toks:=s.toks+1}) ho λh2 he2 hs2=> ?_;have nT:s.heap.objs.size≠e:=cw le;have hT2:h2.get? s.heap.objs.size=some {cls:= .type "tuple",data:= .seq #[.int i s.toks,u]} :=(hs2.2 _ nT).trans hT;have I1:z6 X pins σ H {s with heap:=h2,toks:=s.toks+1} :=I.turnedL (fp:= [e,it]) (λb o hb q=>(hs2.2 b λz=>hb (by simp[z])).trans (kk b o (λz=>hb (by simp[z])) (λz=>hb (by simp[z])) q)) hf;have I2:z6 X pins σ (zI H s.heap.objs.size (.tup [.int i,x])) {s with heap:=h2,toks:=s.toks+1} :=by
   refine nL I1 I.fresh I.sz (cw I.lt) (λx' c e' z=> ?_) (λp' hp z=> ?_) ⟨(by show 2<=sizeLine;decide),[.int i s.toks,u],.cons ⟨_,rfl⟩ (.cons ru .nil),_,hT2,rfl,_,rfl,rfl⟩
   ·obtain⟨v,q⟩:=I.cell x' c e'
    have:=q.lt;rw[z]at this;exact ck _ this
   ·have:=ba (I.pin p' hp).1;rw[z]at this;exact ck _ this
  refine⟨.ref s.heap.objs.size,_,I2,rfl,⟨_,x,I.fresh,λys hy=>by rw[I.list_inj hy hq];exact hx,rfl,rfl⟩,⟨⟨u,by simpa using he2⟩,hit'.at λo e'=>(hs2.2 it ne.symm).trans e'⟩,λb hb=> ?_⟩;have nb:b≠s.heap.objs.size:=by
   rcases bd.mp hb with rfl | hb
   ·exact bj le
   ·rw[aq.mp hb];exact bj li
  rw[yO nb];exact(hf b hb).1
 done:=by
  intro X hP hw hK hc i pins s σ H E I hf st hg;subst hP hw hK;obtain⟨xs,hq,hx⟩:=hg;obtain⟨its,rv,p,hz⟩:=I.list hq;obtain⟨⟨old,he⟩,hit⟩:=st;have hl:=rv.length;exact wpAny_pyNext_enum_end (I.ok.hd hc) he hit p.isList (by simp;omega) λh' eb=>⟨rfl,I.turnedL (t':=s.toks) (fp:= [e,it]) (λb o hb q=>eb b o (λz=>hb (by simp[z])) q) hf⟩
 self:=λ_ _ _ _ _ st h=>by
  obtain⟨⟨old,he⟩,_⟩:=st;exact np he h
section
variable {X:Cx} {elts:List Expr} {k:Nat} {pos':Pos}
def zl9 (K:Frag)(ta:TA):TI:=λσ H R=>ta σ H λvs H1=> ∃a,vs= [.ref a]/\(∃xs,yE K H1 a xs)/\R (dC K a) H1
theorem zo_ {a:Expr}{ta:TA}{p pos:Pos}(hg:Gl X "enumerate")(hm:X.mg "enumerate" =none)(ha:PA X [a] ta)(hs:starEach [a] X.env= [(false,eval a X.env)]:=by rfl):PI X (.Tuple elts k pos') (.Call (.Name "enumerate" p) [a] [] pos) (zl9 X.K ta):=⟨λpins s σ H R I h=>by
 refine Call_ (tY I hg hm boot_enumerate (callWith_type1 (zR (ha pos pins s σ H _ I h) λus s1 ⟨vs,H1,I1,r1,q1⟩=> ?_) hs rfl));obtain⟨a,e,⟨xs,hq⟩,q⟩:=q1;subst e;obtain⟨u,rfl,ru⟩:=uC r1;cases ru;obtain⟨its,rv,p,hz⟩:=I1.list hq;refine call_enumerate_list p.isList λh' hE hI hsz kk=> ?_;refine np hE ?_;refine⟨s1.heap.objs.size+1,[s1.heap.objs.size+1,s1.heap.objs.size],_,_,H1,rfl,I1.kept (t':=s1.toks) kk,zra a _ _ (qw _),⟨⟨.none,by simpa using hE⟩,hI⟩,λb hb=> ?_,q⟩;rcases bd.mp hb with rfl | hb
 ·exact I1.fpOk (fw _) (I1.hok.fresh (fw _))
 ·rw[aq.mp hb];exact I1.fpOk (ak _) (I1.hok.fresh (ak _))⟩
end
end L2
set_option maxHeartbeats 4000000
namespace L3
open PySem PySem.Spec PyProof.Rows L2
abbrev St:=L2.St
structure pS where
 f:Addr
 o:Obj
 q:Str
 c:Addr
 c':Addr
 oz:Obj
 dd:Addr
 kvs:List (List Int×Int)
inductive PV where
 | non | bl (b:Bool) | int (i:Int) | str (x:Str) | ty (n:String)
 | tup (xs:List PV) | lst (xs:List PV) | dct (kvs:List (z8×PV)) | itb (kvs:List (List Int×Int)) | clo (D:pS) | obj (n:Nat)
def zdn (kvs:List (List Int×Int)):List (List z8×V):=kvs.map λp=>(p.1.map Sum.inl,V.int p.2)
inductive PO where
 | lst (xs:List PV) | dct (kvs:List (z8×PV)) | tbl (T:Addr) (pos:Pos) (q:Str) | itb (kvs:List (List Int×Int)) | rcd (kvs:List (z8×PV)) | fd (o:Obj) (kvs:List (z8×PV)) | ros (xs:List PV)
abbrev z5:=List PO
abbrev zG:=List (Option PV)
abbrev K3:=PV->z5->Prop
def zj8 (K:Frag)(a:Addr)(vs:List V):Prop:= ∃(o:Obj) (its:Array Value) (n:Nat),K.lookup a=some o/\o.cls= .type "tuple" /\o.dict=none/\o.data= .seq its n/\its.size<=sizeLine/\zK vs its.toList
def zj7 (K:Frag)(a:Addr)(vs:List V):Prop:= ∃(o:Obj) (its:Array Value) (n:Nat),K.lookup a=some o/\o.cls= .type "list" /\o.dict=none/\o.data= .seq its n/\its.size<=sizeLine/\zK vs its.toList/\o.slots= #[]
def sZ (K:Frag)(A:List Addr)(H:Hp)(a:Addr)(vs:List V):Prop:=(Rd H a (.tup vs)/\a∉A)∨zj8 K a vs
def sC (K:Frag)(A:List Addr)(H:Hp)(a:Addr)(vs:List V):Prop:=(Rd H a (.lst vs)/\a∉A)∨zj7 K a vs
def zjc (A:List Addr)(H:Hp)(a:Addr)(us:List (z8×V)):Prop:=H a=some (.dK us)/\a∉A
structure zja (A:List Addr)(H:Hp)(D:pS):Prop where
 fn:H D.f=some (.ext (zdT D.f D.o))/\D.f∉A
 cd:H D.c'=some (.ext (zdA D.c' D.q))/\D.c'∉A
 cl:H D.c=some (.ext (zdT D.c D.oz))/\D.c∉A
 dt:H D.dd=some (.dT (zdn D.kvs))/\D.dd∉A
mutual
inductive RV (K:Frag)(A:List Addr)(H:Hp):PV->V->Prop
 | non:RV K A H .non .non
 | bl (b:Bool):RV K A H (.bl b) (.bl b)
 | int (i:Int):RV K A H (.int i) (.int i)
 | str (x:Str):RV K A H (.str x) (.str x)
 | ty (n:String):RV K A H (.ty n) (.ty n)
 | tup {xs:List PV} {a:Addr} {vs:List V} :sZ K A H a vs->vs.length<=sizeLine->RVs K A H xs vs->RV K A H (.tup xs) (.ref a)
 | lst {xs:List PV} {a:Addr} {vs:List V} :sC K A H a vs->vs.length<=sizeLine->RVs K A H xs vs->RV K A H (.lst xs) (.ref a)
 | dct {kvs:List (z8×PV)} {a:Addr} {us:List (z8×V)} :zjc A H a us->us.length<=sizeLine->RKs K A H kvs us->RV K A H (.dct kvs) (.ref a)
 | itb {kvs:List (List Int×Int)} {a:Addr} :H a=some (.dT (zdn kvs))->a∉A->RV K A H (.itb kvs) (.ref a)
 | clo {D:pS} :zja A H D->RV K A H (.clo D) (.ref D.f)
inductive RVs (K:Frag)(A:List Addr)(H:Hp):List PV->List V->Prop
 | nil:RVs K A H [] []
 | cons {x:PV} {v:V} {xs:List PV} {vs:List V} :RV K A H x v->RVs K A H xs vs->RVs K A H (x::xs) (v::vs)
inductive RKs (K:Frag)(A:List Addr)(H:Hp):List (z8×PV)->List (z8×V)->Prop
 | nil:RKs K A H [] []
 | cons {k:z8} {x:PV} {v:V} {xs:List (z8×PV)} {vs:List (z8×V)} :RV K A H x v->RKs K A H xs vs->RKs K A H ((k,x)::xs) ((k,v)::vs)
end
structure zS (A:List Addr)(H:Hp)(A':List Addr)(H':Hp):Prop where
 ext: ∃B,A'=A++B/\∀b∈B,H b=none
 keep: ∀b o,H b=some o->b∉A->H' b=some o
 live: ∀b,H b≠none->H' b≠none
theorem zS.refl (A:List Addr)(H:Hp):zS A H A H:=⟨⟨[],by simp,by simp⟩,λ_ _ h _=>h,λ_ h=>h⟩
theorem zS.out {A A':List Addr}{H H':Hp}(g:zS A H A' H'){b:Addr}{o:HO}(h:H b=some o)(n:b∉A):b∉A':=by
 obtain⟨B,rfl,hB⟩:=g.ext;intro m;rcases av.mp m with m | m
 ·exact n m
 ·rw[hB b m]at h;cases h
theorem zS.trans {A A1 A2:List Addr}{H H1 H2:Hp}(g:zS A H A1 H1)(g':zS A1 H1 A2 H2):zS A H A2 H2:=by
 refine⟨?_,λb o h n=>g'.keep b o (g.keep b o h n) (g.out h n),λb h=>g'.live b (g.live b h)⟩;obtain⟨B,rfl,hB⟩:=g.ext;obtain⟨C,rfl,hC⟩:=g'.ext;refine⟨B++C,by simp,λb m=> ?_⟩;rcases av.mp m with m | m
 ·exact hB b m
 ·by_cases h:H b=none
  ·exact h
  ·exact absurd (hC b m) (g.live b h)
theorem zS.sub {A A':List Addr}{H H':Hp}(g:zS A H A' H'){i:Nat}{a:Addr}(h:A[i]?=some a):A'[i]?=some a:=by
 obtain⟨B,rfl,_⟩:=g.ext;rw[ax (ad.mp h).1];exact h
theorem zS.new {A:List Addr}{H:Hp}{p:Addr}{o:HO}(h:H p=none):zS A H A (zI H p o):=by
 refine⟨⟨[],by simp,by simp⟩,λb u e _=>by rw[yO (sK e h)];exact e,λb hb=> ?_⟩;by_cases e:b=p
 ·subst e;rw[yS];exact gc _
 ·rw[yO e];exact hb
theorem zS.newObj {A:List Addr}{H:Hp}{p:Addr}{o:HO}(h:H p=none):zS A H (A++ [p]) (zI H p o):=by
 refine⟨⟨[p],rfl,λb m=>by rw[aq.mp m];exact h⟩,(zS.new (A:=A) h).keep,(zS.new (A:=A) h).live⟩
theorem zS.put {A:List Addr}{H:Hp}{p:Addr}{o:HO}(h:p∈A):zS A H A (zI H p o):=by
 refine⟨⟨[],by simp,by simp⟩,λb u e n=>by rw[yO (λz=>n (by rw[z];exact h))];exact e,λb hb=> ?_⟩;by_cases e:b=p
 ·subst e;rw[yS];exact gc _
 ·rw[yO e];exact hb
section
variable {K:Frag} {A A':List Addr} {H H':Hp}
theorem sZ.sq {a:Addr}{vs:List V}(h:sZ K A H a vs):x5 K H a vs:=h.imp And.left id
theorem sC.sq {a:Addr}{vs:List V}(h:sC K A H a vs):yE K H a vs:=h.imp And.left id
theorem Rd.grow {a:Addr}{u:HO}(g:zS A H A' H')(h:Rd H a u/\a∉A):Rd H' a u/\a∉A':=by
 obtain⟨h | ⟨o,h⟩,n⟩:=h
 ·exact⟨.inl (g.keep _ _ h n),g.out h n⟩
 ·exact⟨.inr ⟨o,g.keep _ _ h n⟩,g.out h n⟩
theorem sZ.grow {a:Addr}{vs:List V}(g:zS A H A' H')(h:sZ K A H a vs):sZ K A' H' a vs:=h.imp (Rd.grow g) id
theorem sC.grow {a:Addr}{vs:List V}(g:zS A H A' H')(h:sC K A H a vs):sC K A' H' a vs:=h.imp (Rd.grow g) id
mutual
theorem RV.grow (g:zS A H A' H'){x:PV}{v:V} :RV K A H x v->RV K A' H' x v
 | .non=> .non
 | .bl b=> .bl b
 | .int i=> .int i
 | .str x=> .str x
 | .ty n=> .ty n
 | .tup t z r=> .tup (t.grow g) z (RVs.grow g r)
 | .lst t z r=> .lst (t.grow g) z (RVs.grow g r)
 | .dct t z r=> .dct ⟨g.keep _ _ t.1 t.2,g.out t.1 t.2⟩ z (RKs.grow g r)
 | .itb e n=> .itb (g.keep _ _ e n) (g.out e n)
 | .clo h=> .clo ⟨⟨g.keep _ _ h.fn.1 h.fn.2,g.out h.fn.1 h.fn.2⟩,⟨g.keep _ _ h.cd.1 h.cd.2,g.out h.cd.1 h.cd.2⟩,⟨g.keep _ _ h.cl.1 h.cl.2,g.out h.cl.1 h.cl.2⟩,⟨g.keep _ _ h.dt.1 h.dt.2,g.out h.dt.1 h.dt.2⟩⟩
theorem RVs.grow (g:zS A H A' H'){xs:List PV}{vs:List V} :RVs K A H xs vs->RVs K A' H' xs vs
 | .nil=> .nil
 | .cons r t=> .cons (RV.grow g r) (RVs.grow g t)
theorem RKs.grow (g:zS A H A' H'){xs:List (z8×PV)}{vs:List (z8×V)} :RKs K A H xs vs->RKs K A' H' xs vs
 | .nil=> .nil
 | .cons r t=> .cons (RV.grow g r) (RKs.grow g t)
end
theorem RVs.len {xs:List PV}{vs:List V} :RVs K A H xs vs->xs.length=vs.length
 | .nil=>rfl
 | .cons _ t=>by rw[cg,cg,RVs.len t]
theorem RKs.len {xs:List (z8×PV)}{vs:List (z8×V)} :RKs K A H xs vs->xs.length=vs.length
 | .nil=>rfl
 | .cons _ t=>by rw[cg,cg,RKs.len t]
theorem RVs.append {xs ys:List PV}{vs ws:List V} :RVs K A H xs vs->RVs K A H ys ws->RVs K A H (xs++ys) (vs++ws)
 | .nil,h=>h
 | .cons r t,h=> .cons r (RVs.append t h)
theorem RVs.get {xs:List PV}{vs:List V}{i:Nat}{x:PV}(h:RVs K A H xs vs)(e:xs[i]?=some x): ∃v,vs[i]?=some v/\RV K A H x v:=by
 induction i generalizing xs vs with
 | zero=>cases h with
  | nil=>cases e
  | cons r t=>simp at e;subst e;exact⟨_,rfl,r⟩
 | succ i ih=>cases h with
  | nil=>cases e
  | cons r t=>simpa using ih t (by simpa using e)
theorem RVs.get' {xs:List PV}{vs:List V}{i:Nat}{v:V}(h:RVs K A H xs vs)(e:vs[i]?=some v): ∃x,xs[i]?=some x/\RV K A H x v:=by
 induction i generalizing xs vs with
 | zero=>cases h with
  | nil=>cases e
  | cons r t=>simp at e;subst e;exact⟨_,rfl,r⟩
 | succ i ih=>cases h with
  | nil=>cases e
  | cons r t=>simpa using ih t (by simpa using e)
theorem RVs.drop {xs:List PV}{vs:List V}(h:RVs K A H xs vs)(n:Nat):RVs K A H (xs.drop n) (vs.drop n):=by
 induction n generalizing xs vs with
 | zero=>exact h
 | succ n ih=>cases h with
  | nil=>exact .nil
  | cons r t=>exact ih t
theorem RVs.take {xs:List PV}{vs:List V}(h:RVs K A H xs vs)(n:Nat):RVs K A H (xs.take n) (vs.take n):=by
 induction n generalizing xs vs with
 | zero=>exact .nil
 | succ n ih=>cases h with
  | nil=>exact .nil
  | cons r t=>exact .cons r (ih t)
theorem RVs.reverse {xs:List PV}{vs:List V}(h:RVs K A H xs vs):RVs K A H xs.reverse vs.reverse:=by
 induction xs generalizing vs with
 | nil=>cases h;exact .nil
 | cons x xs ih=>cases h with
  | cons r t=>rw[ni,ni];exact(ih t).append (.cons r .nil)
inductive RE (K:Frag)(A:List Addr)(H:Hp):PV->V->Prop
 | val {x:PV} {v:V} :RV K A H x v->RE K A H x v
 | obj {i:Nat} {a:Addr} :A[i]?=some a->RE K A H (.obj i) (.ref a)
theorem RE.grow (g:zS A H A' H'){x:PV}{v:V} :RE K A H x v->RE K A' H' x v
 | .val r=> .val (r.grow g)
 | .obj e=> .obj (g.sub e)
abbrev yA (K:Frag)(A:List Addr)(H:Hp):List PV->List V->Prop:=Paired (RE K A H)
theorem yA.grow (g:zS A H A' H'){xs:List PV}{vs:List V} :yA K A H xs vs->yA K A' H' xs vs
 | .nil=> .nil
 | .cons r t=> .cons (r.grow g) (yA.grow g t)
inductive RR (K:Frag)(A:List Addr)(H:Hp)(a:Addr):PV->V->Prop
 | val {x:PV} {v:V} :RV K A H x v->RR K A H a x v
 | obj {i j:Nat} {p:Addr} :A[i]?=some a->j < i->A[j]?=some p->RR K A H a (.obj j) (.ref p)
abbrev xT (K:Frag)(A:List Addr)(H:Hp)(a:Addr):List (z8×PV)->List (z8×V)->Prop:=Paired λp q=>p.1=q.1/\RR K A H a p.2 q.2
theorem RR.grow (g:zS A H A' H'){a:Addr}{x:PV}{v:V} :RR K A H a x v->RR K A' H' a x v
 | .val r=> .val (r.grow g)
 | .obj e l e'=> .obj (g.sub e) l (g.sub e')
theorem xT.grow (g:zS A H A' H'){a:Addr}{xs:List (z8×PV)}{vs:List (z8×V)} :xT K A H a xs vs->xT K A' H' a xs vs
 | .nil=> .nil
 | .cons r t=> .cons ⟨r.1,r.2.grow g⟩ (xT.grow g t)
abbrev wW (K:Frag)(A:List Addr)(H:Hp)(a:Addr):List PV->List V->Prop:=Paired (RR K A H a)
theorem wW.grow (g:zS A H A' H'){a:Addr}{xs:List PV}{vs:List V} :wW K A H a xs vs->wW K A' H' a xs vs
 | .nil=> .nil
 | .cons r t=> .cons (r.grow g) (wW.grow g t)
def OA (K:Frag)(A:List Addr)(H:Hp)(a:Addr):PO->Prop
 | .lst xs=> ∃vs,H a=some (.lst vs)/\RVs K A H xs vs/\vs.length<=sizeLine
 | .dct kvs=> ∃us,H a=some (.dK us)/\RKs K A H kvs us/\us.length<=sizeLine
 | .tbl T pos q=>a=T/\∃ps,H a=some (.tbl ps)/\(ps= #[]∨∃c',ps= #[rawInt pos.line,rawInt pos.col,.ref c']/\H c'=some (.ext (zdA c' q))/\c'∉A)
 | .itb kvs=>H a=some (.dT (zdn kvs))
 | .rcd kvs=> ∃us,H a=some (.dK us)/\xT K A H a kvs us/\us.length<=sizeLine
 | .fd ob kvs=> ∃us,H a=some (.frz ob (.dK us))/\RKs K A H kvs us/\us.length<=sizeLine
 | .ros xs=> ∃vs,H a=some (.lst vs)/\wW K A H a xs vs/\vs.length<=sizeLine
structure RS (K:Frag)(A:List Addr)(H:Hp)(st:z5):Prop where
 nd:A.Nodup
 len:A.length=st.length
 at_: ∀(i:Nat) (a:Addr) (o:PO),A[i]?=some a->st[i]?=some o->OA K A H a o
structure yU (K:Frag)(A:List Addr)(H:Hp)(σ:St)(env:zG)(st:z5):Prop where
 rs:RS K A H st
 len:env.length=σ.length
 at_: ∀(i:Nat) (x:PV),env[i]?=some (some x)->∃v,σ[i]?=some (some v)/\RE K A H x v
theorem yU.grow {σ:St}{env:zG}{st st':z5}(r:yU K A H σ env st)(g:zS A H A' H')(s:RS K A' H' st'):yU K A' H' σ env st':=
 ⟨s,r.len,λi x e=>let⟨v,e1,r1⟩:=r.at_ i x e;⟨v,e1,r1.grow g⟩⟩
theorem OA.move {a:Addr}{o:PO}(h:OA K A H a o)(g:zS A H A' H')(e:H' a=H a):OA K A' H' a o:=by
 cases o with
 | lst xs=>obtain⟨vs,h,r,z⟩:=h;exact⟨vs,by rw[e];exact h,r.grow g,z⟩
 | dct xs=>obtain⟨vs,h,r,z⟩:=h;exact⟨vs,by rw[e];exact h,r.grow g,z⟩
 | tbl T pos q=>
  obtain⟨ea,ps,h,r⟩:=h;refine⟨ea,ps,by rw[e];exact h,r.imp id ?_⟩;rintro⟨c',e1,e2,e3⟩;exact⟨c',e1,g.keep _ _ e2 e3,g.out e2 e3⟩
 | itb kvs=>exact e.trans h
 | rcd xs=>obtain⟨vs,h,r,z⟩:=h;exact⟨vs,by rw[e];exact h,xT.grow g r,z⟩
 | fd ob xs=>obtain⟨vs,h,r,z⟩:=h;exact⟨vs,by rw[e];exact h,r.grow g,z⟩
 | ros xs=>obtain⟨vs,h,r,z⟩:=h;exact⟨vs,by rw[e];exact h,wW.grow g r,z⟩
theorem OA.some {a:Addr}{o:PO}(h:OA K A H a o):H a≠none:=by
 cases o with
 | lst xs=>obtain⟨vs,h,r⟩:=h;rw[h];exact gc _
 | dct xs=>obtain⟨vs,h,r⟩:=h;rw[h];exact gc _
 | tbl T pos q=>obtain⟨_,ps,h,r⟩:=h;rw[h];exact gc _
 | itb kvs=>rw[show H a=_ from h];exact gc _
 | rcd xs=>obtain⟨vs,h,r⟩:=h;rw[h];exact gc _
 | fd ob xs=>obtain⟨vs,h,r⟩:=h;rw[h];exact gc _
 | ros xs=>obtain⟨vs,h,r⟩:=h;rw[h];exact gc _
theorem RS.has {st:z5}(r:RS K A H st){a:Addr}(h:a∈A): ∃(i:Nat) (o:PO),A[i]?=some a/\st[i]?=some o/\OA K A H a o:=by
 obtain⟨i,hi,e⟩:=kl h;have hs:i < st.length:=by rw[<- r.len];exact hi
 have e1:A[i]?=some a:=by rw[am hi,e]
 have e2:st[i]?=some st[i]:=am hs;exact⟨i,st[i],e1,e2,r.at_ i a _ e1 e2⟩
theorem RS.live {st:z5}(r:RS K A H st){a:Addr}(h:a∈A):H a≠none:=let⟨_,_,_,_,o⟩:=r.has h;o.some
theorem RS.move {st:z5}(r:RS K A H st)(g:zS A H A H')(e: ∀a∈A,H' a=H a):RS K A H' st:=
 ⟨r.nd,r.len,λi a o h1 h2=>(r.at_ i a o h1 h2).move g (e a (cj h1))⟩
theorem RS.fresh {st:z5}(r:RS K A H st){p:Addr}(h:H p=none):p∉A:=λm=>r.live m h
theorem RS.new {st:z5}(r:RS K A H st){p:Addr}{o:HO}(h:H p=none):RS K A (zI H p o) st:=
 r.move (.new h) λa m=>yO λz=>r.fresh h (z▸m)
theorem RS.newObj {st:z5}(r:RS K A H st){p:Addr}{o:HO}{q:PO}(h:H p=none)(hq:OA K (A++ [p]) (zI H p o) p q):RS K (A++ [p]) (zI H p o) (st++ [q]):=by
 refine⟨?_,by rw[af,af,r.len];rfl,λi a u h1 h2=> ?_⟩
 ·refine bp.mpr ⟨r.nd,by simp,λa ha b hb=> ?_⟩
  rw[aq.mp hb];exact λz=>r.fresh h (z▸ha)
 ·by_cases hi:i < A.length
  ·rw[ax hi]at h1
   rw[ax (by rw[<- r.len];exact hi)]at h2;exact(r.at_ i a u h1 h2).move (.newObj h) (yO λz=>r.fresh h (z▸cj h1))
  ·have hi':i=A.length:=by
    have:=(ad.mp h1).1;rw[af,bi]at this;omega
   subst hi';rw[aj (ak _),cv]at h1;rw[r.len,aj (ak _),cv]at h2;cases h1;cases h2;exact hq
theorem RS.put {st:z5}(r:RS K A H st){i:Nat}{p:Addr}{o:HO}{q:PO}(h:A[i]?=some p)(hq:OA K A (zI H p o) p q):RS K A (zI H p o) (st.set i q):=by
 have hp:=cj h;refine⟨r.nd,by rw[ci];exact r.len,λj a u h1 h2=> ?_⟩;by_cases hij:i=j
 ·subst hij
  rw[h]at h1;cases h1;rw[dh (by rw[<- r.len];exact(ad.mp h).1)]at h2;cases h2;exact hq
 ·rw[jz hij]at h2
  refine(r.at_ j a u h1 h2).move (.put hp) (yO λz=>hij ?_);subst z;exact(da (ad.mp h).1 r.nd).mp (h.trans h1.symm)
end
set_option Elab.async false
set_option linter.all false
set_option maxRecDepth 100000
set_option maxHeartbeats 4000000
abbrev zB:=zG->z5->K3->Prop
abbrev yT:=zG->z5->(Bool->z5->Prop)->Prop
abbrev yD:=zG->z5->(List PV->z5->Prop)->Prop
structure xV where
 nx:zG->z5->Prop
 rt:K3
 bk:zG->z5->Prop:=λ_ _=>False
 ct:zG->z5->Prop:=λ_ _=>False
abbrev yV:=xV->zG->z5->Prop
abbrev xL:=PV->zG->z5->(zG->z5->Prop)->Prop
abbrev tV:=List PV->zG->z5->(zG->z5->Prop)->Prop
abbrev x6:=Option (Nat×PO)
abbrev wX:=zG->z5->(x6->List PV->z5->Prop)->Prop
abbrev R3:=PV->PV->z5->K3->Prop
abbrev zV:=List PV->z5->K3->Prop
def xP (K:Frag)(A:List Addr)(H:Hp)(Q3:K3)(Q:VK):Prop:= ∀A' H' st' r v,zS A H A' H'->RS K A' H' st'->RE K A' H' r v->Q3 r st'->Q v H'
def jL (K:Frag)(A:List Addr)(H:Hp)(Q3:Bool->z5->Prop)(Q:Bool->Hp->Prop):Prop:= ∀A' H' st' b,zS A H A' H'->RS K A' H' st'->Q3 b st'->Q b H'
def zjh (K:Frag)(A:List Addr)(H:Hp)(Q3:List PV->z5->Prop)(Q:List V->Hp->Prop):Prop:= ∀A' H' st' rs vs,zS A H A' H'->RS K A' H' st'->yA K A' H' rs vs->Q3 rs st'->Q vs H'
def qO (K:Frag)(A:List Addr)(H:Hp)(P3:zG->z5->Prop)(P:St->Hp->Prop):Prop:= ∀A' H' σ' env' st',zS A H A' H'->yU K A' H' σ' env' st'->P3 env' st'->P σ' H'
structure jK (K:Frag)(A:List Addr)(H:Hp)(D3:xV)(D:sX):Prop where
 nx:qO K A H D3.nx D.nx
 rt:xP K A H D3.rt D.rt
 bk:qO K A H D3.bk D.bk
 ct:qO K A H D3.ct D.ct
section
variable {K:Frag} {A A1:List Addr} {H H1:Hp}
theorem xP.after {Q3:K3}{Q:VK}(f:xP K A H Q3 Q)(g:zS A H A1 H1):xP K A1 H1 Q3 Q:=λA' H' st' r v g'=>f A' H' st' r v (g.trans g')
theorem jL.after {Q3:Bool->z5->Prop}{Q:Bool->Hp->Prop}(f:jL K A H Q3 Q)(g:zS A H A1 H1):jL K A1 H1 Q3 Q:=λA' H' st' r g'=>f A' H' st' r (g.trans g')
theorem qO.after {Q3:zG->z5->Prop}{Q:St->Hp->Prop}(f:qO K A H Q3 Q)(g:zS A H A1 H1):qO K A1 H1 Q3 Q:=λA' H' σ' e' st' g'=>f A' H' σ' e' st' (g.trans g')
theorem jK.after {D3:xV}{D:sX}(f:jK K A H D3 D)(g:zS A H A1 H1):jK K A1 H1 D3 D:=⟨f.nx.after g,f.rt.after g,f.bk.after g,f.ct.after g⟩
theorem xP.now {Q3:K3}{Q:VK}(f:xP K A H Q3 Q){st:z5}{r:PV}{v:V}(s:RS K A H st)(e:RE K A H r v)(q:Q3 r st):Q v H:=f A H st r v (.refl _ _) s e q
end
def zP (K:Frag)(T:zB):TE:=λσ H Q=> ∃A env st Q3,yU K A H σ env st/\T env st Q3/\xP K A H Q3 Q
def yZ (K:Frag)(T:yT):TT:=λσ H Q=> ∃A env st Q3,yU K A H σ env st/\T env st Q3/\jL K A H Q3 Q
def wY (K:Frag)(T:yD):TA:=λσ H Q=> ∃A env st Q3,yU K A H σ env st/\T env st Q3/\zjh K A H Q3 Q
def yY (K:Frag)(T:yV):TS:=λD σ H=> ∃A env st D3,yU K A H σ env st/\T D3 env st/\jK K A H D3 D
def vI (K:Frag)(G:xL):TG:=λv σ H Q=> ∃A env st x Q3,yU K A H σ env st/\RE K A H x v/\G x env st Q3/\qO K A H Q3 Q
def l7 (K:Frag)(G:tV):uP:=λvs σ H Q=> ∃A env st xs Q3,yU K A H σ env st/\yA K A H xs vs/\G xs env st Q3/\qO K A H Q3 Q
def xQ (K:Frag)(R:R3):R2:=λv w H Q=> ∃A st x y Q3,RS K A H st/\RE K A H x v/\RE K A H y w/\R x y st Q3/\xP K A H Q3 Q
def cN (K:Frag)(R:PV->z5->K3->Prop):V->Hp->VK->Prop:=λv H Q=> ∃A st x Q3,RS K A H st/\RE K A H x v/\R x st Q3/\xP K A H Q3 Q
def vV (K:Frag)(R:zV):List V->Hp->VK->Prop:=λvs H Q=> ∃A st xs Q3,RS K A H st/\yA K A H xs vs/\R xs st Q3/\xP K A H Q3 Q
def yC (K:Frag)(S:zV):Sp:=λvs H Q _=>vV K S vs H Q
section
variable {X:Cx} {a b c e:Expr} {es:List Expr} {pos p p2:Pos} {Ta Tb Tc:zB} {TA:yD} {tc td:yT}
theorem xU {t t':TE}(h:PE X e t)(w: ∀σ H Q,t' σ H Q->t σ H Q):PE X e t':=⟨λpins s σ H Q I q=>h pins s σ H Q I (w σ H Q q)⟩
theorem zcu {t t':TT}(h:PT X e t)(w: ∀σ H Q,t' σ H Q->t σ H Q):PT X e t':=⟨λpins s σ H Q I q=>h pins s σ H Q I (w σ H Q q)⟩
theorem zh7 {t t':TT}(h:PW X e t)(w: ∀σ H Q,t' σ H Q->t σ H Q):PW X e t':=⟨λwh pins s σ H Q I q=>h wh pins s σ H Q I (w σ H Q q)⟩
theorem zho {t t':L2.TA}(h:PA X es t)(w: ∀σ H Q,t' σ H Q->t σ H Q):PA X es t':=⟨λpos pins s σ H Q I q=>h pos pins s σ H Q I (w σ H Q q)⟩
theorem zo1 {t t':TT}(h:PF X es t)(w: ∀σ H Q,t' σ H Q->t σ H Q):PF X es t':=⟨λpins s σ H Q I q=>h pins s σ H Q I (w σ H Q q)⟩
theorem tZ {st:Stmt}{t t':TS}(h:PS X st t)(w: ∀D σ H,t' D σ H->t D σ H):PS X st t':=⟨λpins s σ H D I q=>h pins s σ H D I (w D σ H q)⟩
theorem k9 {st:List Stmt}{t t':TS}(h:xB X st t)(w: ∀D σ H,t' D σ H->t D σ H):xB X st t':=⟨λpins s σ H D I q=>h pins s σ H D I (w D σ H q)⟩
theorem zcs {tg:Expr}{t t':TG}(h:PG X tg t)(w: ∀v σ H Q,t' v σ H Q->t v σ H Q):PG X tg t':=⟨λpins s σ H v u Q I r q=>h pins s σ H v u Q I r (w v σ H Q q)⟩
theorem zhz {tg:List Expr}{t t':uP}(h:uD X tg t)(w: ∀v σ H Q,t' v σ H Q->t v σ H Q):uD X tg t':=⟨λpins s σ H v u Q I r q=>h pins s σ H v u Q I r (w v σ H Q q)⟩
def uA (i:Nat):zB:=λenv st Q=>match env[i]? with | some (some x)=>Q x st | _=>False
theorem zkF {K:Frag}{i:Nat}{σ:St}{H:Hp}{Q:VK} :zP K (uA i) σ H Q->fR i σ H Q:=by
 rintro⟨A,env,st,Q3,rel,h,k⟩;unfold uA at h
 split at h
 ·rename_i x e
  obtain⟨v,e1,r⟩:=rel.at_ i x e;exact⟨v,e1,k.now rel.rs r h⟩
 ·exact h.elim
theorem qv (i:Nat){x:Str}{pos:Pos}(hN:X.N[i]?=some x:=by rfl)(hv:dX X.env.scope x:=by first | exact Or.inl rfl | exact Or.inr (Or.inl rfl) | exact Or.inr (Or.inr rfl))(hd:(x==("__debug__" :Str))=false:=by decide)
  (hcd:(x==("__classdict__" :Str))=false:=by decide):PE X (.Name x pos) (zP X.K (uA i)):=xU (zcq hN hv hd hcd) λ_ _ _=>zkF
def vC (x:PV):zB:=λ_ st Q=>Q x st
theorem l9 {K:Frag}{x:PV}{v:V}(hr: ∀A H,RE K A H x v){σ:St}{H:Hp}{Q:VK} :zP K (vC x) σ H Q->tC v σ H Q:=by
 rintro⟨A,env,st,Q3,rel,h,k⟩;exact k.now rel.rs (hr A H) h
theorem z7 {i j pos} :PE X (.Constant (.int i) j pos) (zP X.K (vC (.int i))):=xU zon λ_ _ _=>l9 λ_ _=> .val (.int i)
theorem zJ {x j pos} :PE X (.Constant (.str x) j pos) (zP X.K (vC (.str x))):=xU zcp λ_ _ _=>l9 λ_ _=> .val (.str x)
theorem vB {b j pos} :PE X (.Constant (.bool b) j pos) (zP X.K (vC (.bl b))):=xU zod λ_ _ _=>l9 λ_ _=> .val (.bl b)
theorem zh9 {j pos} :PE X (.Constant .none j pos) (zP X.K (vC .non)):=xU zor λ_ _ _=>l9 λ_ _=> .val .non
theorem kA {x:Str}{n:String}{pos:Pos}(hg:Gl X x)(hm:X.mg x=none)(hv:bootBuiltins x=some (.type n))(hn:x≠ "__name__" :=by decide)(hd:(x==("__debug__" :Str))=false:=by decide):PE X (.Name x pos) (zP X.K (vC (.ty n))):=
 xU (zoe (v:= .ty n) hg hm hv rfl hn hd) λ_ _ _=>l9 λ_ _=> .val (.ty n)
def sU (R:R3)(Ta Tb:zB):zB:=λenv st Q=>Ta env st λx st1=>Tb env st1 λy st2=>R x y st2 Q
theorem iF {K:Frag}{R:R3}{σ:St}{H:Hp}{Q:VK} :zP K (sU R Ta Tb) σ H Q->j7 (xQ K R) (zP K Ta) (zP K Tb) σ H Q:=by
 rintro⟨A,env,st,Q3,rel,h,k⟩;exact⟨A,env,st,_,rel,h,λA1 H1 st1 x v g1 s1 e1 h1=>⟨A1,env,st1,_,rel.grow g1 s1,h1,λA2 H2 st2 y w g2 s2 e2 h2=>⟨A2,st2,x,y,Q3,s2,e1.grow g2,e2,h2,k.after (g1.trans g2)⟩⟩⟩
theorem zM {op:Operator}{R:R3}(ho:yI X (binaryOp op) (xQ X.K R))(ha:PE X a (zP X.K Ta))(hb:PE X b (zP X.K Tb)):PE X (.BinOp a op b pos) (zP X.K (sU R Ta Tb)):=xU (zou ho ha hb) λ_ _ _=>iF
theorem vZ {op:CmpOp}{R:R3}(ho:yI X (compareOp op) (xQ X.K R))(ha:PE X a (zP X.K Ta))(hb:PE X b (zP X.K Tb))(hm:behindInMarks op b=false):PE X (.Compare a [op] [b] pos) (zP X.K (sU R Ta Tb)):=xU (zok ho ha hb hm) λ_ _ _=>iF
theorem wN {R:R3}(hr:rS X (xQ X.K R))(ha:PE X a (zP X.K Ta))(hb:PE X b (zP X.K Tb))(hs:dN b):PE X (.Subscript a b pos) (zP X.K (sU R Ta Tb)):=xU (zoo hr ha hb hs) λ_ _ _=>iF
def vUn (R:PV->z5->K3->Prop)(Ta:zB):zB:=λenv st Q=>Ta env st λx st1=>R x st1 Q
theorem zkE {K:Frag}{R:PV->z5->K3->Prop}{σ:St}{H:Hp}{Q:VK} :zP K (vUn R Ta) σ H Q->tUn (cN K R) (zP K Ta) σ H Q:=by
 rintro⟨A,env,st,Q3,rel,h,k⟩;exact⟨A,env,st,_,rel,h,λA1 H1 st1 x v g1 s1 e1 h1=>⟨A1,st1,x,Q3,s1,e1,h1,k.after g1⟩⟩
theorem pC {op:UnaryOp}{R:PV->z5->K3->Prop}(ho:mY X (unaryOp op) (cN X.K R))(ha:PE X a (zP X.K Ta)):PE X (.UnaryOp op a pos) (zP X.K (vUn R Ta)):=xU (zoy ho ha) λ_ _ _=>zkE
def mM (T:zB):yT:=λenv st Q=>T env st λx st1=>match x with | .bl k=>Q k st1 | _=>False
theorem zkD {K:Frag}{T:zB}{σ:St}{H:Hp}{Q:Bool->Hp->Prop} :yZ K (mM T) σ H Q->ziv (zP K T) σ H Q:=by
 rintro⟨A,env,st,Q3,rel,h,k⟩;refine⟨A,env,st,_,rel,h,λA1 H1 st1 x v g1 s1 e1 h1=> ?_⟩;cases x with
 | bl b=>
  cases e1 with
  | val e1=>cases e1;exact⟨b,rfl,k A1 H1 st1 b g1 s1 h1⟩
 | _=>exact False.elim h1
theorem pE {op:CmpOp}{R:R3}(ho:yI X (compareOp op) (xQ X.K R))(ha:PE X a (zP X.K Ta))(hb:PE X b (zP X.K Tb))(hm:behindInMarks op b=false):PT X (.Compare a [op] [b] pos) (yZ X.K (mM (sU R Ta Tb))):=by
 refine zcu (zoZ ho ha hb hm) λσ H Q h=> ?_;have:=zkD h;exact iF this
def sA:PV->z5->(Bool->Prop)->Prop
 | .non,_,k=>k false
 | .bl b,_,k=>k b
 | .int i,_,k=>k (i !=0)
 | .str x,_,k=>x.length<=sizeLine/\k ((x.length:Int) !=0)
 | .tup xs,_,k=>k (!xs.isEmpty)
 | .lst xs,_,k=>k (!xs.isEmpty)
 | .dct xs,_,k=>k (!xs.isEmpty)
 | .obj i,st,k=>match st[i]? with | some (.lst xs)=>k (!xs.isEmpty) | some (.dct xs)=>k (!xs.isEmpty) | _=>False
 | _,_,_=>False
def ziO (T:zB):yT:=λenv st Q=>T env st λx st1=>sA x st1 λk=>Q k st1
theorem RVs.empty {K:Frag}{A:List Addr}{H:Hp}{xs:List PV}{vs:List V}(h:RVs K A H xs vs):vs.isEmpty=xs.isEmpty:=by
 cases h <;> rfl
theorem RKs.empty {K:Frag}{A:List Addr}{H:Hp}{xs:List (z8×PV)}{vs:List (z8×V)}(h:RKs K A H xs vs):vs.isEmpty=xs.isEmpty:=by
 cases h <;> rfl
theorem zqX {K:Frag}{A:List Addr}{H:Hp}{st:z5}{x:PV}{v:V}{P:Bool->Prop}(s:RS K A H st)(e:RE K A H x v)(h:sA x st P): ∃k,dW K v H k/\P k:=by
 cases e with
 | obj e=>
  dsimp only[sA]at h
  split at h
  ·rename_i xs q
   obtain⟨vs,h1,h2,_⟩:=s.at_ _ _ _ e q;exact⟨_,.inl ⟨vs,.of h1,by rw[h2.empty]⟩,h⟩
  ·rename_i xs q
   obtain⟨vs,h1,h2,_⟩:=s.at_ _ _ _ e q;exact⟨_,.inr (.inr ⟨vs,h1,by rw[h2.empty]⟩),h⟩
  ·exact h.elim
 | val e=>
  cases e with
  | non=>exact⟨_,rfl,h⟩
  | bl b=>exact⟨_,rfl,h⟩
  | int i=>exact⟨_,rfl,h⟩
  | str y=>exact⟨_,⟨h.1,rfl⟩,h.2⟩
  | ty n=>exact False.elim h
  | tup t z r=>exact⟨_,.inr (.inl ⟨_,t.sq,by rw[r.empty]⟩),h⟩
  | lst t z r=>exact⟨_,.inl ⟨_,t.sq,by rw[r.empty]⟩,h⟩
  | dct t z r=>exact⟨_,.inr (.inr ⟨_,t.1,by rw[r.empty]⟩),h⟩
  | itb e n=>exact False.elim h
  | clo e=>exact False.elim h
theorem tK (ha:PE X a (zP X.K Ta))(he: ∀whole,isTrue a X.env whole=(do let v <- whole;standAt a.pos;holding [v] (truthy v)):=by intro _;rfl):PT X a (yZ X.K (ziO Ta)):=by
 refine zcu (zpb ha he) λσ H Q ⟨A,env,st,Q3,rel,h,k⟩=> ?_;refine⟨A,env,st,_,rel,h,λA1 H1 st1 x v g1 s1 e1 h1=> ?_⟩;obtain⟨b,hb,q⟩:=zqX s1 e1 h1;exact⟨b,hb,k A1 H1 st1 b g1 s1 q⟩
def fW (t u:yT):yT:=λenv st Q=>t env st λc st1=>if c=true then u env st1 Q else Q false st1
def vOr (t u:yT):yT:=λenv st Q=>t env st λc st1=>if c=true then Q true st1 else u env st1 Q
def ziH (t:yT):yT:=λenv st Q=>t env st λc st1=>Q (!c) st1
theorem zkB {K:Frag}{t u:yT}{σ:St}{H:Hp}{Q:Bool->Hp->Prop} :yZ K (fW t u) σ H Q->ziq (yZ K t) (yZ K u) σ H Q:=by
 rintro⟨A,env,st,Q3,rel,h,k⟩;refine⟨A,env,st,_,rel,h,λA1 H1 st1 c g1 s1 h1=> ?_⟩;cases c with
 | true=>exact⟨A1,env,st1,Q3,rel.grow g1 s1,h1,k.after g1⟩
 | false=>exact k A1 H1 st1 false g1 s1 h1
theorem zkC {K:Frag}{t u:yT}{σ:St}{H:Hp}{Q:Bool->Hp->Prop} :yZ K (vOr t u) σ H Q->tOr (yZ K t) (yZ K u) σ H Q:=by
 rintro⟨A,env,st,Q3,rel,h,k⟩;refine⟨A,env,st,_,rel,h,λA1 H1 st1 c g1 s1 h1=> ?_⟩;cases c with
 | false=>exact⟨A1,env,st1,Q3,rel.grow g1 s1,h1,k.after g1⟩
 | true=>exact k A1 H1 st1 true g1 s1 h1
variable {y2:List Expr}
theorem rO (ha:PT X a (yZ X.K tc)):PW X (.BoolOp .And [a] pos) (yZ X.K tc):=zpd ha
theorem nZ (ha:PT X a (yZ X.K tc)):PW X (.BoolOp .Or [a] pos) (yZ X.K tc):=zpf ha
theorem rN (ha:PT X a (yZ X.K tc))(hb:PW X (.BoolOp .And (b::y2) pos) (yZ X.K td)):PW X (.BoolOp .And (a::b::y2) pos) (yZ X.K (fW tc td)):=zh7 (zpc ha hb) λ_ _ _=>zkB
theorem oG (ha:PT X a (yZ X.K tc))(hb:PW X (.BoolOp .Or (b::y2) pos) (yZ X.K td)):PW X (.BoolOp .Or (a::b::y2) pos) (yZ X.K (vOr tc td)):=zh7 (zpe ha hb) λ_ _ _=>zkC
theorem qH (ha:PT X a (yZ X.K tc)):PT X (.UnaryOp .Not a pos) (yZ X.K (ziH tc)):=zcu (zpa ha) λσ H Q ⟨A,env,st,Q3,rel,h,k⟩=>⟨A,env,st,_,rel,h,λA1 H1 st1 c g1 s1 h1=>k A1 H1 st1 (!c) g1 s1 h1⟩
def zi_ (Ta Tb:zB):zB:=λenv st Q=>Ta env st λx st1=>match x with | .bl c=>if c=true then Tb env st1 Q else Q (.bl false) st1 | _=>False
def zrw (Ta Tb:zB):zB:=λenv st Q=>Ta env st λx st1=>match x with | .bl c=>if c=true then Q (.bl true) st1 else Tb env st1 Q | _=>False
def ziI (Ta:zB):zB:=λenv st Q=>Ta env st λx st1=>match x with | .bl c=>Q (.bl (!c)) st1 | _=>False
theorem zc0 {op}(h:PE X a (zP X.K Ta)):PE X (.BoolOp op [a] pos) (zP X.K Ta):=zot h
theorem zcy (ha:PE X a (zP X.K Ta))(hb:PE X (.BoolOp .And (b::y2) pos) (zP X.K Tb)):PE X (.BoolOp .And (a::b::y2) pos) (zP X.K (zi_ Ta Tb)):=by
 refine xU (zoc ha hb) λσ H Q ⟨A,env,st,Q3,rel,h,k⟩=>⟨A,env,st,_,rel,h,λA1 H1 st1 x v g1 s1 e1 h1=> ?_⟩;cases x with
 | bl c=>
  cases e1 with
  | val e1=>
   cases e1;refine⟨c,rfl,?_⟩;cases c with
   | true=>exact⟨A1,env,st1,Q3,rel.grow g1 s1,h1,k.after g1⟩
   | false=>exact k A1 H1 st1 _ _ g1 s1 (.val (.bl _)) h1
 | _=>exact False.elim h1
theorem zpi (ha:PE X a (zP X.K Ta)):PE X (.UnaryOp .Not a pos) (zP X.K (ziI Ta)):=by
 refine xU (zos ha) λσ H Q ⟨A,env,st,Q3,rel,h,k⟩=>⟨A,env,st,_,rel,h,λA1 H1 st1 x v g1 s1 e1 h1=> ?_⟩;cases x with
 | bl c=>
  cases e1 with
  | val e1=>
   cases e1;exact⟨c,rfl,k A1 H1 st1 _ _ g1 s1 (.val (.bl _)) h1⟩
 | _=>exact False.elim h1
def vIf (t:yT)(Ta Tb:zB):zB:=λenv st Q=>t env st λc st1=>if c=true then Ta env st1 Q else Tb env st1 Q
def pR:yD:=λ_ st Q=>Q [] st
def tO (Ta:zB)(Tr:yD):yD:=λenv st Q=>Ta env st λx st1=>Tr env st1 λxs st2=>Q (x::xs) st2
theorem z4:PA X [] (wY X.K pR):=zho zhn λσ H Q ⟨A,env,st,Q3,rel,h,k⟩=>k A H st [] [] (.refl _ _) rel.rs .nil h
theorem z3 (ha:PE X e (zP X.K Ta))(hr:PA X es (wY X.K TA))(hs:starEach (e::es) X.env=(false,eval e X.env)::starEach es X.env:=by rfl):PA X (e::es) (wY X.K (tO Ta TA)):=
 zho (zcm ha hr hs) λσ H Q ⟨A,env,st,Q3,rel,h,k⟩=>⟨A,env,st,_,rel,h,λA1 H1 st1 x v g1 s1 e1 h1=>⟨A1,env,st1,_,rel.grow g1 s1,h1,λA2 H2 st2 xs vs g2 s2 e2 h2=>k A2 H2 st2 _ _ (g1.trans g2) s2 (.cons (e1.grow g2) e2) h2⟩⟩
def yR:PV->Bool
 | .obj _=>false
 | _=>true
def uT (xs:List PV):Bool:=xs.all yR&&Nat.ble xs.length 1000
theorem RE.rv {K:Frag}{A:List Addr}{H:Hp}{x:PV}{v:V}(e:RE K A H x v)(h:yR x=true):RV K A H x v:=by
 cases e with
 | val e=>exact e
 | obj e=>cases h
theorem yA.rvs {K:Frag}{A:List Addr}{H:Hp} : ∀{xs:List PV} {vs:List V},yA K A H xs vs->xs.all yR=true->RVs K A H xs vs
 | _,_,.nil,_=> .nil
 | _,_,.cons r t,h=>by
  rw[kz,fe]at h;exact .cons (r.rv h.1) (yA.rvs t h.2)
theorem uT.both {xs:List PV}(h:uT xs=true):xs.all yR=true/\xs.length<=sizeLine:=by
 unfold uT at h;rw[fe]at h;exact⟨h.1,bq (Nat.le_of_ble_eq_true h.2) (by decide)⟩
def ziP (T:yD):zB:=λenv st Q=>T env st λxs st1=>uT xs=true/\Q (.tup xs) st1
def ziE (T:yD):zB:=λenv st Q=>T env st λxs st1=>uT xs=true/\Q (.lst xs) st1
def zd0 (T:yD):zB:=λenv st Q=>T env st λxs st1=>uT xs=true/\Q (.obj st1.length) (st1++ [.lst xs])
theorem yJ {x1}(h:PA X es (wY X.K TA)):PE X (.Tuple es x1 pos) (zP X.K (ziP TA)):=by
 refine xU (zhv h) λσ H Q ⟨A,env,st,Q3,rel,h,k⟩=>⟨A,env,st,_,rel,h,λA1 H1 st1 xs vs g1 s1 e1 h1=> ?_⟩;obtain⟨o1,o2⟩:=uT.both h1.1;have hr:=e1.rvs o1;have hl:=hr.len;refine⟨by rw[<- hl];exact o2,λp hp=>k A1 _ st1 _ _ (g1.trans (.new hp)) (s1.new hp) (.val (.tup (.inl ⟨.inl yS,s1.fresh hp⟩) (by rw[<- hl];exact o2) (hr.grow (.new hp)))) h1.2⟩
theorem u3 (h:PA X es (wY X.K TA)):PE X (.List es pos) (zP X.K (ziE TA)):=by
 refine xU (zhu h) λσ H Q ⟨A,env,st,Q3,rel,h,k⟩=>⟨A,env,st,_,rel,h,λA1 H1 st1 xs vs g1 s1 e1 h1=> ?_⟩;obtain⟨o1,o2⟩:=uT.both h1.1;have hr:=e1.rvs o1;have hl:=hr.len;refine⟨by rw[<- hl];exact o2,λp hp=>k A1 _ st1 _ _ (g1.trans (.new hp)) (s1.new hp) (.val (.lst (.inl ⟨.inl yS,s1.fresh hp⟩) (by rw[<- hl];exact o2) (hr.grow (.new hp)))) h1.2⟩
theorem o9 {A:List Addr}{n:Nat}{p:Addr}(h:A.length=n):(A++ [p])[n]?=some p:=by
 subst h;rw[aj (ak _),cv];rfl
theorem u5 (h:PA X es (wY X.K TA)):PE X (.List es pos) (zP X.K (zd0 TA)):=by
 refine xU (zhu h) λσ H Q ⟨A,env,st,Q3,rel,h,k⟩=>⟨A,env,st,_,rel,h,λA1 H1 st1 xs vs g1 s1 e1 h1=> ?_⟩;obtain⟨o1,o2⟩:=uT.both h1.1;have hr:=e1.rvs o1;have hl:=hr.len;refine⟨by rw[<- hl];exact o2,λp hp=>k (A1++ [p]) _ _ _ _ (g1.trans (.newObj hp)) (s1.newObj (q:= .lst xs) hp ⟨vs,yS,hr.grow (.newObj hp),by rw[<- hl];exact o2⟩) (.obj (o9 s1.len)) h1.2⟩
def rR (R:zV)(T:yD):zB:=λenv st Q=>T env st λxs st1=>R xs st1 Q
theorem cO {K:Frag}{R:zV}{σ:St}{H:Hp}{Q:VK} :zP K (rR R TA) σ H Q->tCB (vV K R) (wY K TA) σ H Q:=by
 rintro⟨A,env,st,Q3,rel,h,k⟩;exact⟨A,env,st,_,rel,h,λA1 H1 st1 xs vs g1 s1 e1 h1=>⟨A1,st1,xs,Q3,s1,e1,h1,k.after g1⟩⟩
theorem yB {x:Str}{id:String}{R:zV}(hc:xO X (.builtin id) (vV X.K R))(hg:Gl X x)(hm:X.mg x=none)(hv:bootBuiltins x=some (.builtin id))(ha:PA X (e::es) (wY X.K TA))(hn:x≠ "__name__" :=by decide)(hdb:(x==("__debug__" :Str))=false:=by decide)
  (he:starEach (e::es) X.env=(false,eval e X.env)::starEach es X.env:=by rfl) (hpl:(backTo pos (starEach es X.env)).any (·.1)=false:=by rfl):PE X (.Call (.Name x p) (e::es) [] pos) (zP X.K (rR R TA)):=
 xU (zoi hc hg hm hv ha hn hdb he hpl) λ_ _ _=>cO
theorem vK {x:Str}{T:String}{R:zV}(hc:xO X (.type T) (vV X.K R))(hg:Gl X x)(hm:X.mg x=none)(hv:bootBuiltins x=some (.type T))(ha:PA X (e::es) (wY X.K TA))(hn:x≠ "__name__" :=by decide)(hdb:(x==("__debug__" :Str))=false:=by decide)
  (he:starEach (e::es) X.env=(false,eval e X.env)::starEach es X.env:=by rfl) (hpl:(backTo pos (starEach es X.env)).any (·.1)=false:=by rfl):PE X (.Call (.Name x p) (e::es) [] pos) (zP X.K (rR R TA)):=
 xU (zoj hc hg hm hv ha hn hdb he hpl) λ_ _ _=>cO
theorem zpg {x:Str}{S:zV}{k:Nat}{f:Addr}{fd:FuncData}{ps:List Str}(F:yG X.prog X.w X.K X.mg X.base yH k f fd ps (yC X.K S))(hr:zU k X.A)(hg:Gl X x)(hm:X.mg x=some (.ref f))(hk:keepIn X.K (.ref f)=true)(hb:tP X.K fd ps [])
  (ha:PA X (e::es) (wY X.K TA)) (hdb:(x==("__debug__" :Str))=false:=by decide) (he:starEach (e::es) X.env=(false,eval e X.env)::starEach es X.env:=by rfl) (hpl:(backTo pos (starEach es X.env)).any (·.1)=false:=by rfl):
  PE X (.Call (.Name x p) (e::es) [] pos) (zP X.K (rR S TA)):=by
 refine xU (zoh F hr hg hm hk hb .nil zoa ha hdb he hpl) λσ H Q h=> ?_;obtain⟨A,env,st,Q3,rel,h,k⟩:=cO h;refine⟨A,env,st,Q3,rel,h,λA1 H1 st1 rs vs g1 s1 e1 h1=> ?_⟩;show yC X.K S (vs++ []) H1 Q E0;rw[db];exact k A1 H1 st1 rs vs g1 s1 e1 h1
variable {sts rst:List Stmt} {stm:Stmt} {Ts Tu:yV}
def zd1:yV:=λD env st=>D.nx env st
def u9 (t u:yV):yV:=λD env st=>t {D with nx:=u D} env st
theorem yN:xB X [] (yY X.K zd1):=k9 zoX λD σ H ⟨A,env,st,D3,rel,h,k⟩=>k.nx A H σ env st (.refl _ _) rel h
theorem zH (h:PS X stm (yY X.K Ts)):xB X [stm] (yY X.K Ts):=zoY h
theorem zA (h1:PS X stm (yY X.K Ts))(h2:xB X rst (yY X.K Tu)):xB X (stm::rst) (yY X.K (u9 Ts Tu)):=
 k9 (oE h1 h2) λD σ H ⟨A,env,st,D3,rel,h,k⟩=>⟨A,env,st,_,rel,h,λA1 H1 σ1 env1 st1 g1 r1 h1=>⟨A1,env1,st1,D3,r1,h1,k.after g1⟩,k.rt,k.bk,k.ct⟩
def zrm:yV:=λD env st=>D.bk env st
def ziB:yV:=λD env st=>D.ct env st
theorem zpo:PS X (.Continue pos) (yY X.K ziB):=tZ zoP λD σ H ⟨A,env,st,D3,rel,h,k⟩=>k.ct A H σ env st (.refl _ _) rel h
def fX (T:zB):yV:=λD env st=>T env st λ_ st1=>D.nx env st1
theorem x9 (he:PE X e (zP X.K Ta))(hs:swapsWith e none pos.line X.env=pure false:=by rfl):PS X (.Expr e pos) (yY X.K (fX Ta)):=
 tZ (zoQ he hs) λD σ H ⟨A,env,st,D3,rel,h,k⟩=>⟨A,env,st,_,rel,h,λA1 H1 st1 x v g1 s1 e1 h1=>k.nx A1 H1 σ env st1 g1 (rel.grow g1 s1) h1⟩
def ziK (T:zB):yV:=λD env st=>T env st D.rt
theorem y3 (he:PE X e (zP X.K Ta)):PS X (.Return (some e) pos) (yY X.K (ziK Ta)):=tZ (zoU he) λD σ H ⟨A,env,st,D3,rel,h,k⟩=>⟨A,env,st,_,rel,h,k.rt⟩
def zrz:yV:=λD _ st=>D.rt .non st
def fY (c:yT)(t u:yV):yV:=λD env st=>c env st λb st1=>if b=true then t D env st1 else u D env st1
theorem yF (hc:PT X c (yZ X.K tc))(ha:xB X sts (yY X.K Ts))(hb:xB X rst (yY X.K Tu)):PS X (.If c sts rst pos) (yY X.K (fY tc Ts Tu)):=by
 refine tZ (zoS hc ha hb) λD σ H ⟨A,env,st,D3,rel,h,k⟩=>⟨A,env,st,_,rel,h,λA1 H1 st1 b g1 s1 h1=> ?_⟩;cases b with
 | true=>exact⟨A1,env,st1,D3,rel.grow g1 s1,h1,k.after g1⟩
 | false=>exact⟨A1,env,st1,D3,rel.grow g1 s1,h1,k.after g1⟩
variable {Tg:xL} {Tgs:tV}
def gN (i:Nat):xL:=λx env st Q=>Q (env.set i (some x)) st
theorem yU.set {K:Frag}{A:List Addr}{H:Hp}{σ:St}{env:zG}{st:z5}(r:yU K A H σ env st)(i:Nat){x:PV}{v:V}(e:RE K A H x v):yU K A H (σ.set i (some v)) (env.set i (some x)) st:=by
 refine⟨r.rs,by rw[ci,ci];exact r.len,λj y h=> ?_⟩;by_cases hij:i=j
 ·subst hij
  have hl:i < env.length:=by have:=(ad.mp h).1;simpa using this
  rw[dh hl]at h;cases h;exact⟨v,dh (by rw[<- r.len];exact hl),e⟩
 ·rw[jz hij]at h
  rw[jz hij];exact r.at_ j y h
theorem lA {K:Frag}{i:Nat}{v:V}{σ:St}{H:Hp}{Q:St->Hp->Prop} :vI K (gN i) v σ H Q->lO i v σ H Q:=by
 rintro⟨A,env,st,x,Q3,rel,e,h,k⟩;exact k A H _ _ st (.refl _ _) (rel.set i e) h
theorem pD {i:Nat}{x:Str}(hN:X.N.Nodup)(hi:X.N[i]?=some x)(hx:uN X.env.scope x)(hf:X.fn x=true∨X.env.scope.names.lookup x=some .local:=by first | exact .inl rfl | exact .inr rfl | assumption):PG X (.Name x pos) (vI X.K (gN i)):=
 zcs (zo3 hN hi hx hf) λ_ _ _ _=>lA
def gsN:tV:=λxs env st Q=>match xs with | []=>Q env st | _=>False
def gsC (g:xL)(gs:tV):tV:=λxs env st Q=>match xs with | x::r=>g x env st λenv1 st1=>gs r env1 st1 Q | []=>False
theorem u6:uD X [] (l7 X.K gsN):=by
 refine zhz zhy λvs σ H Q ⟨A,env,st,xs,Q3,rel,e,h,k⟩=> ?_;cases e with
 | nil=>exact⟨rfl,k A H σ env st (.refl _ _) rel h⟩
 | cons r t=>exact False.elim h
theorem yX (h1:PG X e (vI X.K Tg))(h2:uD X es (l7 X.K Tgs))(hs:(assignEach (e::es) X.env).map (·.2)=assign e X.env::(assignEach es X.env).map (·.2):=by rfl):uD X (e::es) (l7 X.K (gsC Tg Tgs)):=by
 refine zhz (zct h1 h2 hs) λvs σ H Q ⟨A,env,st,xs,Q3,rel,e,h,k⟩=> ?_;cases e with
 | nil=>exact False.elim h
 | cons r t=>exact⟨_,_,rfl,A,env,st,_,_,rel,r,h,λA1 H1 σ1 env1 st1 g1 r1 h1=>⟨A1,env1,st1,_,Q3,r1,yA.grow g1 t,h1,k.after g1⟩⟩
def gT (n:Nat)(gs:tV):xL:=λx env st Q=>match x with | .tup xs=>xs.length=n/\gs xs env st Q | .lst xs=>xs.length=n/\gs xs env st Q | _=>False
theorem RVs.res {K:Frag}{A:List Addr}{H:Hp}{xs:List PV}{vs:List V} :RVs K A H xs vs->yA K A H xs vs
 | .nil=> .nil
 | .cons r t=> .cons (.val r) (RVs.res t)
theorem uL {k:Nat}{n:Nat}(hc:X.calm=true)(h:uD X es (l7 X.K Tgs))(hn:(assignEach es X.env).length=n:=by rfl)(hst:(assignEach es X.env).findIdx? (·.1)=none:=by rfl)
  (hn2:(assignEach es X.env).length=n:=by rfl) (hst2:(assignEach es X.env).findIdx? (·.1)=none:=by rfl):PG X (.Tuple es k pos) (vI X.K (gT n Tgs)):=by
 refine⟨λpins s σ H v u Q I r ⟨A,env,st,x,Q3,rel,e,q,k⟩=> ?_⟩;cases e with
 | obj e=>exact False.elim q
 | val e=>
  cases e with
  | tup t z rs=>exact(zhx hc h hn hst) pins s σ H _ u Q I r ⟨_,_,rfl,t.sq,by rw[<- rs.len];exact q.1,A,env,st,_,Q3,rel,rs.res,q.2,k⟩
  | lst t z rs=>exact(zo2 hc h hn hst) pins s σ H _ u Q I r ⟨_,_,rfl,t.sq,by rw[<- rs.len];exact q.1,A,env,st,_,Q3,rel,rs.res,q.2,k⟩
  | _=>exact False.elim q
def pQ (T:zB)(g:xL):yV:=λD env st=>T env st λx st1=>g x env st1 D.nx
theorem l8 {K:Frag}{D:sX}{σ:St}{H:Hp} :yY K (pQ Ta Tg) D σ H->mI (zP K Ta) (vI K Tg) D σ H:=by
 rintro⟨A,env,st,D3,rel,h,k⟩;exact⟨A,env,st,_,rel,h,λA1 H1 st1 x v g1 s1 e1 h1=>⟨A1,env,st1,x,D3.nx,rel.grow g1 s1,e1,h1,k.nx.after g1⟩⟩
theorem tJ {tg:Expr}(he:PE X e (zP X.K Ta))(hg:PG X tg (vI X.K Tg))(hs:swapsWithSole [tg] e pos.line X.env=pure false:=by rfl)(hw:swappedStores [tg] e X.env=pure none:=by rfl)
  (h1:(assignEach [tg] X.env).map (·.2)= [assign tg X.env]:=by rfl):PS X (.Assign [tg] e pos) (yY X.K (pQ Ta Tg)):=tZ (zh2 he hg hs hw h1) λ_ _ _=>l8
theorem nX {i:Nat}{x:Str}{pos':Pos}(hN:X.N.Nodup)(hi:X.N[i]?=some x)(hx:uN X.env.scope x)(he:PE X e (zP X.K Ta))(hs:swapsWith e (some (.Name x pos')) pos.line X.env=pure false:=by rfl)(hf:X.fn x=true∨X.env.scope.names.lookup x=some .local:=by first | exact .inl rfl | exact .inr rfl | assumption):
  PS X (.Assign [.Name x pos'] e pos) (yY X.K (pQ Ta (gN i))):=by
 refine tZ (zh3 hN hi hx he hs hf) λD σ H h=> ?_;obtain⟨A,env,st,Q3,rel,h,k⟩:=l8 h;exact⟨A,env,st,Q3,rel,h,λA1 H1 st1 r v g s e q=>lA (k A1 H1 st1 r v g s e q)⟩
def ziJ (i j:Nat)(T:yD):yV:=λD env st=>T env st λxs st1=>match xs with | [x,y]=>D.nx ((env.set i (some x)).set j (some y)) st1 | _=>False
theorem zhB {i j:Nat}{x y:Str}{px py pt:Pos}{kt k2 pt2}(hc:X.calm=true)(hN:X.N.Nodup)(hi:X.N[i]?=some x)(hj:X.N[j]?=some y)(hij:i≠j)
  (hx:X.env.scope.names.lookup x=some .local) (hy:X.env.scope.names.lookup y=some .local) (ha:PA X [a,b] (wY X.K TA))
  (hw:swappedStores [.Tuple [.Name x px,.Name y py] kt pt] (.Tuple [a,b] k2 pt2) X.env=pure (some [x,y]))
  (hs:swapsWithSole [.Tuple [.Name x px,.Name y py] kt pt] (.Tuple [a,b] k2 pt2) pos.line X.env=pure false:=by rfl):
  PS X (.Assign [.Tuple [.Name x px,.Name y py] kt pt] (.Tuple [a,b] k2 pt2) pos) (yY X.K (ziJ i j TA)):=by
 refine tZ (zoT hc hN hi hj hij hx hy ha hw hs) λD σ H ⟨A,env,st,D3,rel,h,k⟩=>⟨A,env,st,_,rel,h,λA1 H1 st1 xs vs g1 s1 e1 h1=> ?_⟩
 split at h1
 ·rename_i x y
  cases e1 with
  | cons r1 t=>
   cases t with
   | cons r2 t2=>
    cases t2;exact⟨_,_,rfl,k.nx A1 H1 _ _ st1 g1 (((rel.grow g1 s1).set i r1).set j r2) h1⟩
 ·exact h1.elim
end
set_option Elab.async false
set_option linter.all false
set_option maxRecDepth 100000
set_option maxHeartbeats 4000000
def vL:x6->z5->Prop->Prop
 | none,_,P=>P
 | some (i,o),st,P=>st[i]?=some o/\P
theorem vL.of {src:x6}{st:z5}{P:Prop}(h:vL src st P):P:=by
 cases src with
 | none=>exact h
 | some q=>exact h.2
def pA:x6->z5->Prop
 | none,_=>True
 | some (i,o),st=>st[i]?=some o
theorem vL.ok {src:x6}{st:z5}{P:Prop}(h:vL src st P):pA src st:=by
 cases src with
 | none=>exact trivial
 | some q=>exact h.1
structure sB (K:Frag)(A:List Addr)(H:Hp)(src:x6)(J:It)(xs:List PV):Prop where
 go: ∀(i:Nat) A' H' st,zS A H A' H'->RS K A' H' st->pA src st->i < xs.length->J.go i H'
 yld: ∀(i:Nat) (x:PV) A' H' st v H2,xs[i]?=some x->zS A H A' H'->RS K A' H' st->pA src st->J.yld i H' v H2->zS A' H' A' H2/\RS K A' H2 st/\RE K A' H2 x v
 stop: ∀A' H' st,zS A H A' H'->RS K A' H' st->pA src st->J.stop xs.length H'
 small:xs.length<=sizeLine
def t6 (K:Frag)(I:wX):TI:=λσ H R=> ∃A env st Q3,yU K A H σ env st/\I env st Q3/\∀A' H' st' src xs J,zS A H A' H'->RS K A' H' st'->sB K A' H' src J xs->Q3 src xs st'->R J H'
def eO (g:xL)(b:yV)(src:x6)(xs:List PV)(D:xV)(env:zG)(st:z5):Prop:= ∃P:Nat->zG->z5->Prop,P 0 env st/\
 (∀i x env st,xs[i]?=some x->P i env st->vL src st (g x env st λe s=>b {D with nx:=P (i+1),ct:=P (i+1),bk:=D.nx} e s))/\(∀env st,P xs.length env st->vL src st (D.nx env st))
def ziD (I:wX)(g:xL)(b:yV):yV:=λD env st=>I env st λsrc xs st1=>eO g b src xs D env st1
def zr1 (c:yT)(b:yV):yV:=λD env st=> ∃W:Nat->zG->z5->Prop,(∃m,W m env st)/\∀m env st,W m env st->
 c env st λt st1=>if t=true then ∃N:zG->z5->Prop,(∀e s,N e s->∃m',m' < m/\W m' e s)/\b {D with nx:=N,ct:=N,bk:=D.nx} env st1 else D.nx env st1
section
variable {X:Cx} {a b c e tg iter:Expr} {es:List Expr} {pos p:Pos} {Ta Tb:zB} {TA:yD} {tc:yT} {Ti:wX} {Tg:xL} {Ts:yV} {body:List Stmt}
theorem nV {wi wi':TI}(h:PI X tg iter wi)(w: ∀σ H R,wi' σ H R->wi σ H R):PI X tg iter wi':=⟨λpins s σ H R I q=>h pins s σ H R I (w σ H R q)⟩
theorem wO (hp:PassesOwn (bt X.prog X.w) X.A X.env X.xe)(hc:X.calm=true)(hi:PI X tg iter (t6 X.K Ti))(hg:PG X tg (vI X.K Tg))(hb:xB X body (yY X.K Ts))
  (hs: ∀x,foldedSetIterable iter X.env x=pure x:=by intro _;rfl):PS X (.For tg iter body [] pos) (yY X.K (ziD Ti Tg Ts)):=by
 refine tZ (zoR hp hc hi hg hb hs) λD σ H ⟨A,env,st,D3,rel,h,k⟩=>⟨A,env,st,_,rel,h,λA1 H1 st1 src xs J g1 s1 it h1=> ?_⟩;obtain⟨P,p0,hP,hE⟩:=h1;refine⟨λi m σ' H'=>m=xs.length - i/\i<=xs.length/\∃A' env' st',zS A1 H1 A' H'/\yU X.K A' H' σ' env' st'/\P i env' st',⟨_,rfl,eh _,A1,env,st1,.refl _ _,rel.grow g1 s1,p0⟩,?_⟩;rintro i m σ' H' ⟨rfl,hi,A',env',st',g',rel',p'⟩;by_cases hlt:i < xs.length
 ·have hx:xs[i]?=some xs[i]:=am hlt
  have hw:=hP i _ env' st' hx p';refine .inr ⟨it.go i A' H' st' g' rel'.rs hw.ok hlt,λσ2 H2=>i+1<=xs.length/\∃A' env' st',zS A1 H1 A' H2/\yU X.K A' H2 σ2 env' st'/\P (i+1) env' st',λσ2 H2 q=>⟨_,by omega,rfl,q⟩,λv H2 y=> ?_⟩;obtain⟨g2,s2,e2⟩:=it.yld i _ A' H' st' v H2 hx g' rel'.rs hw.ok y;refine⟨A',env',st',_,_,rel'.grow g2 s2,e2,hw.of,λA3 H3 σ3 env3 st3 g3 r3 h3=> ?_⟩;have gg:=g'.trans (g2.trans g3);have k3:=k.after (g1.trans gg);exact⟨A3,env3,st3,_,r3,h3,λA4 H4 σ4 env4 st4 g4 r4 h4=>⟨hlt,A4,env4,st4,gg.trans g4,r4,h4⟩,k3.rt,k3.nx,λA4 H4 σ4 env4 st4 g4 r4 h4=>⟨hlt,A4,env4,st4,gg.trans g4,r4,h4⟩⟩
 ·have e:i=xs.length:=by omega
  subst e;have hw:=hE env' st' p';exact .inl ⟨it.stop A' H' st' g' rel'.rs hw.ok,k.nx A' H' σ' env' st' (g1.trans g') rel' hw.of⟩
theorem gJ (hp:PassesOwn (bt X.prog X.w) X.A X.env X.xe)(hc:PT X c (yZ X.K tc))(hb:xB X body (yY X.K Ts)):PS X (.While c body [] pos) (yY X.K (zr1 tc Ts)):=by
 refine tZ (zoW hp hc hb) λD σ H ⟨A,env,st,D3,rel,h,k⟩=> ?_;obtain⟨W,⟨m0,w0⟩,hW⟩:=h;refine⟨λm σ' H'=> ∃A' env' st',zS A H A' H'/\yU X.K A' H' σ' env' st'/\W m env' st',⟨m0,A,env,st,.refl _ _,rel,w0⟩,?_⟩;rintro m σ' H' ⟨A',env',st',g',rel',w'⟩;refine⟨A',env',st',_,rel',hW m env' st' w',λA1 H1 st1 t g1 s1 h1=> ?_⟩;have gg:=g'.trans g1;have kk:=k.after gg;cases t with
 | false=>exact k.nx A1 H1 σ' env' st1 gg (rel'.grow g1 s1) h1
 | true=>
  obtain⟨N,hN,hb1⟩:=h1;refine⟨λσ2 H2=> ∃A2 env2 st2,zS A H A2 H2/\yU X.K A2 H2 σ2 env2 st2/\N env2 st2,?_,?_⟩
  ·rintro σ2 H2 ⟨A2,env2,st2,g2,r2,n2⟩
   obtain⟨m',hm,w2⟩:=hN env2 st2 n2;exact⟨m',hm,A2,env2,st2,g2,r2,w2⟩
  ·exact⟨A1,env',st1,_,rel'.grow g1 s1,hb1,λA4 H4 σ4 env4 st4 g4 r4 h4=>⟨A4,env4,st4,gg.trans g4,r4,h4⟩,kk.rt,kk.nx,λA4 H4 σ4 env4 st4 g4 r4 h4=>⟨A4,env4,st4,gg.trans g4,r4,h4⟩⟩
def pU (own:Nat)(g:xL)(tt:yT)(el:zB)(src:x6)(xs:List PV)(Q:List PV->z5->Prop)(env:zG)(st:z5):Prop:= ∃P:Nat->List PV->zG->z5->Prop,P 0 [] (env++List.replicate own none) st/\
 (∀i x ys env st,xs[i]?=some x->P i ys env st->vL src st (g x env st λe s=>tt e s λb s2=>if b=true then el e s2 λy s3=>yR y=true/\P (i+1) (ys++ [y]) e s3 else P (i+1) ys e s2))/\
 (∀ys env st,P xs.length ys env st->vL src st (Q ys st))
def j9 (own:Nat)(I:wX)(g:xL)(tt:yT)(el:zB):zB:=λenv st Q=>I env st λsrc xs st1=>pU own g tt el src xs (λys st2=>Q (.lst ys) st2) env st1
def zrp (own:Nat)(I:wX)(g:xL)(tt:yT)(el:zB):zB:=λenv st Q=>I env st λsrc xs st1=>pU own g tt el src xs (λys st2=>Q (.obj st2.length) (st2++ [.lst ys])) env st1
def zd5:yT:=λ_ st Q=>Q true st
theorem sO:PF X [] (yZ X.K zd5):=zo1 zoz λσ H Q ⟨A,env,st,Q3,rel,h,k⟩=>k A H st true (.refl _ _) rel.rs h
theorem kB (h:PT X c (yZ X.K tc)):PF X [c] (yZ X.K tc):=zo0 h
theorem yU.more {K:Frag}{A:List Addr}{H:Hp}{σ:St}{env:zG}{st:z5}(r:yU K A H σ env st)(n:Nat):yU K A H (σ++List.replicate n none) (env++List.replicate n none) st:=by
 refine⟨r.rs,by rw[af,af,r.len,dq,dq],λi x h=> ?_⟩;by_cases hi:i < env.length
 ·rw[ax hi]at h
  rw[ax (by rw[<- r.len];exact hi)];exact r.at_ i x h
 ·rw[aj (by omega),gk]at h
  split at h <;> cases h
theorem zk_ {K:Frag}{own:Nat}{g:xL}{tt:yT}{el:zB}{src:x6}{xs:List PV}{Q3:List PV->z5->Prop}{Q:VK}{A:List Addr}{H:Hp}{σ:St}{env:zG}{st:z5}{J:It}(rel:yU K A H σ env st)(it:sB K A H src J xs)
  (h:pU own g tt el src xs Q3 env st) (k: ∀A' H' st' ys vs,zS A H A' H'->RS K A' H' st'->RVs K A' H' ys vs->vs.length<=sizeLine->Q3 ys st'->∀D,H' D=none->Q (.ref D) (zI H' D (.lst vs))):eF own J (vI K g) (yZ K tt) (zP K el) Q σ H:=by
 obtain⟨P,p0,hP,hE⟩:=h;refine⟨λi m vs σ' H'=>m=xs.length - i/\i<=xs.length/\vs.length<=i/\∃A' env' st' ys,zS A H A' H'/\yU K A' H' σ' env' st'/\RVs K A' H' ys vs/\P i ys env' st',⟨_,rfl,eh _,ak _,A,_,st,[],.refl _ _,rel.more own,.nil,p0⟩,?_⟩;rintro i m vs σ' H' ⟨rfl,hi,hv,A',env',st',ys,g',rel',rv,p'⟩;by_cases hlt:i < xs.length
 ·have hx:xs[i]?=some xs[i]:=am hlt
  have hw:=hP i _ ys env' st' hx p';refine .inr ⟨it.go i A' H' st' g' rel'.rs hw.ok hlt,bc (lm hv hlt) it.small,λvs σ2 H2=>i+1<=xs.length/\vs.length<=i+1/\∃A' env' st' ys,zS A H A' H2/\yU K A' H2 σ2 env' st'/\RVs K A' H2 ys vs/\P (i+1) ys env' st',λvs σ2 H2 q=>⟨_,by omega,rfl,q⟩,λv H2 y=> ?_⟩;obtain⟨g2,s2,e2⟩:=it.yld i _ A' H' st' v H2 hx g' rel'.rs hw.ok y;refine⟨A',env',st',_,_,rel'.grow g2 s2,e2,hw.of,λA3 H3 σ3 env3 st3 g3 r3 h3=>⟨A3,env3,st3,_,r3,h3,λA4 H4 st4 b g4 s4 h4=> ?_⟩⟩;have gg:=g2.trans (g3.trans g4);cases b with
  | false=>exact⟨hlt,by omega,A4,env3,st4,ys,g'.trans gg,r3.grow g4 s4,rv.grow gg,h4⟩
  | true=>
   refine⟨A4,env3,st4,_,r3.grow g4 s4,h4,λA5 H5 st5 y v5 g5 s5 e5 h5=>⟨hlt,by rw[af,bi];omega,A5,env3,st5,ys++ [y],g'.trans (gg.trans g5),(r3.grow g4 s4).grow g5 s5,?_,h5.2⟩⟩;exact(rv.grow (gg.trans g5)).append (.cons (e5.rv h5.1) .nil)
 ·have e:i=xs.length:=by omega
  subst e;have hw:=hE ys env' st' p';have hz:=bq hv it.small;exact .inl ⟨it.stop A' H' st' g' rel'.rs hw.ok,hz,k A' H' st' ys vs g' rel'.rs rv hz hw.of⟩
variable {N' own:List Str} {scope:Scope} {ifs:List Expr} {target:Expr} {te:zB} {tt:yT}
theorem cP {K:Frag}{own:Nat}{σ:St}{H:Hp}{Q:VK} :zP K (j9 own Ti Tg tt te) σ H Q->j6 own (t6 K Ti) (vI K Tg) (yZ K tt) (zP K te) σ H Q:=by
 rintro⟨A,env,st,Q3,rel,h,k⟩;refine⟨A,env,st,_,rel,h,λA1 H1 st1 src xs J g1 s1 it h1=>zk_ (rel.grow g1 s1) it h1 λA2 H2 st2 ys vs g2 s2 r2 hz q D hD=> ?_⟩;exact k A2 _ st2 _ _ (g1.trans (g2.trans (.new hD))) (s2.new hD) (.val (.lst (.inl ⟨.inl yS,s2.fresh hD⟩) hz (r2.grow (.new hD)))) q
theorem oF {pos:Pos}(S:sW X scope N' own)(hc:X.calm=true)(hi:PI X target iter (t6 X.K Ti))
  (hg: ∀C s H fp pins,PG (xM X scope (N'++own) C s H fp pins) target (vI X.K Tg)) (ht: ∀C s H fp pins,PF (xM X scope (N'++own) C s H fp pins) ifs (yZ X.K tt)) (he: ∀C s H fp pins,PE (xM X scope (N'++own) C s H fp pins) a (zP X.K te))
  (hs: ∀x,foldedSetIterable iter X.env x=pure x:=by intro _;rfl):PE X (.ListComp a [⟨target,iter,ifs,0⟩] scope pos) (zP X.K (j9 own.length Ti Tg tt te)):=xU (zol S hc hi hg ht he hs) λ_ _ _=>cP
theorem zlN {K:Frag}{A:List Addr}{H:Hp}{a:Addr}{xs:List PV}{vs:List V}(t:sC K A H a vs)(hz:vs.length<=sizeLine)(r:RVs K A H xs vs):sB K A H none (jQ K a) xs where
 go:=λi A' H' st g s _ hi=>by
  rw[r.len]at hi;exact⟨vs,vs[i],(t.grow g).sq,by simp[hi]⟩
 yld:=λi x A' H' st v H2 hx g s _ y=>by
  obtain⟨rfl,y⟩:=y;obtain⟨w,ew,rw'⟩:=r.get hx;have:=y vs (t.grow g).sq;rw[ew]at this;cases this;exact⟨.refl _ _,s,.val (rw'.grow g)⟩
 stop:=λA' H' st g s _=>⟨vs,(t.grow g).sq,by rw[r.len];exact ak _⟩
 small:=by rw[r.len];exact hz
theorem zlQ {K:Frag}{A:List Addr}{H:Hp}{a:Addr}{xs:List PV}{vs:List V}(t:sZ K A H a vs)(hz:vs.length<=sizeLine)(r:RVs K A H xs vs):sB K A H none (dE K a) xs where
 go:=λi A' H' st g s _ hi=>by
  rw[r.len]at hi;exact⟨vs,vs[i],(t.grow g).sq,by simp[hi]⟩
 yld:=λi x A' H' st v H2 hx g s _ y=>by
  obtain⟨rfl,y⟩:=y;obtain⟨w,ew,rw'⟩:=r.get hx;have:=y vs (t.grow g).sq;rw[ew]at this;cases this;exact⟨.refl _ _,s,.val (rw'.grow g)⟩
 stop:=λA' H' st g s _=>⟨vs,(t.grow g).sq,by rw[r.len];exact ak _⟩
 small:=by rw[r.len];exact hz
theorem zlO {K:Frag}{A:List Addr}{H:Hp}{i:Nat}{a:Addr}{xs:List PV}(e:A[i]?=some a)(hz:xs.length<=sizeLine):sB K A H (some (i,.lst xs)) (jQ K a) xs where
 go:=λj A' H' st g s ok hi=>by
  obtain⟨vs,h,r,_⟩:=s.at_ i a _ (g.sub e) ok;rw[r.len]at hi;exact⟨vs,vs[j],.of h,by simp[hi]⟩
 yld:=λj x A' H' st v H2 hx g s ok y=>by
  obtain⟨rfl,y⟩:=y;obtain⟨vs,h,r,_⟩:=s.at_ i a _ (g.sub e) ok;obtain⟨w,ew,rw'⟩:=r.get hx;have:=y vs (.of h);rw[ew]at this;cases this;exact⟨.refl _ _,s,.val rw'⟩
 stop:=λA' H' st g s ok=>by
  obtain⟨vs,h,r,_⟩:=s.at_ i a _ (g.sub e) ok;exact⟨vs,.of h,by rw[r.len];exact ak _⟩
 small:=hz
def wD (lo:Int)(n:Nat):List PV:=(List.range n).map λi:Nat=> .int (lo+(i:Int))
theorem tL (lo:Int)(n:Nat):(wD lo n).length=n:=by unfold wD;rw[aa,dz]
theorem u8 {lo:Int}{n i:Nat}{x:PV}(h:(wD lo n)[i]?=some x):i < n/\x= .int (lo+i):=by
 have hi:=(ad.mp h).1;rw[tL]at hi;unfold wD at h;rw[aw,il hi]at h;exact⟨hi,(bx h).symm⟩
theorem zgx {K:Frag}{A:List Addr}{H:Hp}{lo:Int}{n:Nat}(hz:n<=sizeLine):sB K A H none (mT lo n) (wD lo n) where
 go:=λi A' H' st g s _ hi=>by rw[tL]at hi;exact hi
 yld:=λi x A' H' st v H2 hx g s _ y=>by
  obtain⟨rfl,rfl⟩:=y;obtain⟨_,rfl⟩:=u8 hx;exact⟨.refl _ _,s,.val (.int _)⟩
 stop:=λA' H' st g s _=>by rw[tL];exact ak n
 small:=by rw[tL];exact hz
def zgn (T:yD):wX:=λenv st Q=>T env st λxs st1=>match xs with
 | [.int j]=>(-1000000<=j/\j<=1000000)/\Q none (wD 0 j.toNat) st1
 | _=>False
def zgo (T:yD):wX:=λenv st Q=>T env st λxs st1=>match xs with
 | [.int i,.int j]=>(-1000000<=i/\i<=1000000/\ -1000000<=j/\j<=1000000)/\Q none (wD i (j - i).toNat) st1
 | _=>False
end
set_option Elab.async false
set_option linter.all false
set_option maxRecDepth 100000
set_option maxHeartbeats 4000000
section
variable {X:Cx}
theorem uK {f:Value->Value->Sem Value}{R:R3}
  (h: ∀pins s σ H A st x y v w vv ww Q3 Q,z6 X pins σ H s->RS X.K A H st->RE X.K A H x v->RE X.K A H y w->zT v vv->zT w ww->R x y st Q3->xP X.K A H Q3 Q->bf (bt X.prog X.w) X.A (f vv ww) (EP X pins σ Q) X.xe s):yI X f (xQ X.K R):=by
 rintro pins s σ H v w vv ww Q I rv rw ⟨A,st,x,y,Q3,rs,ex,ey,hR,k⟩;exact h pins s σ H A st x y v w vv ww Q3 Q I rs ex ey rv rw hR k
def zcI:R3:=λx y st Q=>match x,y with | .int i,.int j=>Q (.int (i - j)) st | _,_=>False
def gQ:R3:=λx y st Q=>match x,y with
 | .int i,.int j=>((-(2 ^ 64) < i/\i < 2 ^ 64)∨(-(2 ^ 64) < j/\j < 2 ^ 64))/\Q (.int (i * j)) st
 | .str z,.int n=>if n=0 then Q (.str Str.empty) st else n=1/\Q (.str z) st
 | _,_=>False
def zcB:R3:=λx y st Q=>match x,y with | .int i,.int j=>0 < j/\Q (.int (i % j)) st | _,_=>False
def zc5:R3:=λx y st Q=>match x,y with | .int i,.int j=>(0 < j/\j < 1099511627776)/\Q (.int (i / j)) st | _,_=>False
def zcF:R3:=λx y st Q=>match x,y with | .int i,.int j=>jD i j/\Q (.int (i ^ j.toNat)) st | _,_=>False
theorem znJ {X:Cx} :yI X (binaryOp .FloorDiv) (rI (λ_ j=>0 < j/\j < 1099511627776) λi j=> .int (i / j)):=gF λi j _ _ _ _ _ hc q=>by
 have e:i.fdiv j=i / j:=Int.fdiv_eq_ediv_of_nonneg _ (by omega);rw[<- e]at q;refine PyProof.Rows.floordiv_int (by omega) q (.inl (PyProof.noPylong_of_log2 ?_));by_cases z:j.natAbs=0
 ·rw[z];decide
 ·have:=(Nat.log2_lt z).mpr (show j.natAbs < 2 ^ 40 by omega)
  omega
theorem xF {K:Frag}{A:List Addr}{H:Hp}{i:Int}{v:V}(e:RE K A H (.int i) v):v= .int i:=by
 cases e with | val e=>cases e;rfl
theorem sS {K:Frag}{A:List Addr}{H:Hp}{i:Str}{v:V}(e:RE K A H (.str i) v):v= .str i:=by
 cases e with | val e=>cases e;rfl
theorem zex {K:Frag}{A:List Addr}{H:Hp}{i:Bool}{v:V}(e:RE K A H (.bl i) v):v= .bl i:=by
 cases e with | val e=>cases e;rfl
theorem sN:yI X (binaryOp .Sub) (xQ X.K zcI):=uK λpins s σ H A st x y v w vv ww Q3 Q I rs ex ey rv rw h k=>by
 unfold zcI at h
 split at h
 ·cases xF ex;cases xF ey
  exact znV pins s σ H _ _ vv ww Q I rv rw ⟨_,_,rfl,rfl,k.now rs (.val (.int _)) h⟩
 ·exact h.elim
theorem rL:yI X (binaryOp .Mult) (xQ X.K gQ):=uK λpins s σ H A st x y v w vv ww Q3 Q I rs ex ey rv rw h k=>by
 unfold gQ at h
 split at h
 ·cases xF ex;cases xF ey
  exact znR pins s σ H _ _ vv ww Q I rv rw ⟨_,_,rfl,rfl,h.1,k.now rs (.val (.int _)) h.2⟩
 ·cases sS ex;cases xF ey
  rename_i z n;by_cases hn:n=0
  ·rw[if_pos hn]at h
   exact zhh pins s σ H _ _ vv ww Q I rv rw ⟨_,_,rfl,rfl,.inl ⟨hn,k.now rs (.val (.str _)) h⟩⟩
  ·rw[if_neg hn]at h
   exact zhh pins s σ H _ _ vv ww Q I rv rw ⟨_,_,rfl,rfl,.inr ⟨h.1,k.now rs (.val (.str _)) h.2⟩⟩
 ·exact h.elim
theorem rK:yI X (binaryOp .Mod) (xQ X.K zcB):=uK λpins s σ H A st x y v w vv ww Q3 Q I rs ex ey rv rw h k=>by
 unfold zcB at h
 split at h
 ·cases xF ex;cases xF ey
  exact znQ pins s σ H _ _ vv ww Q I rv rw ⟨_,_,rfl,rfl,h.1,k.now rs (.val (.int _)) h.2⟩
 ·exact h.elim
theorem gC:yI X (binaryOp .FloorDiv) (xQ X.K zc5):=uK λpins s σ H A st x y v w vv ww Q3 Q I rs ex ey rv rw h k=>by
 unfold zc5 at h
 split at h
 ·cases xF ex;cases xF ey
  exact znJ pins s σ H _ _ vv ww Q I rv rw ⟨_,_,rfl,rfl,h.1,k.now rs (.val (.int _)) h.2⟩
 ·exact h.elim
theorem znj:yI X (binaryOp .Pow) (xQ X.K zcF):=uK λpins s σ H A st x y v w vv ww Q3 Q I rs ex ey rv rw h k=>by
 unfold zcF at h
 split at h
 ·cases xF ex;cases xF ey
  exact znU pins s σ H _ _ vv ww Q I rv rw ⟨_,_,rfl,rfl,h.1,k.now rs (.val (.int _)) h.2⟩
 ·exact h.elim
def zcC:PV->z5->K3->Prop:=λx st Q=>match x with | .int i=>Q (.int (-i)) st | _=>False
theorem p8:mY X (unaryOp .USub) (cN X.K zcC):=by
 rintro pins s σ H v vv Q I rv ⟨A,st,x,Q3,rs,ex,h,k⟩;unfold zcC at h
 split at h
 ·cases xF ex
  exact zri pins s σ H _ vv Q I rv ⟨_,rfl,k.now rs (.val (.int _)) h⟩
 ·exact h.elim
def oH (f:Int->Int->Bool):R3:=λx y st Q=>match x,y with | .int i,.int j=>Q (.bl (f i j)) st | _,_=>False
theorem zcg {op:CmpOp}{f:Int->Int->Bool}(ho:yI X (compareOp op) (pF λi j=> .bl (f i j))):yI X (compareOp op) (xQ X.K (oH f)):=uK λpins s σ H A st x y v w vv ww Q3 Q I rs ex ey rv rw h k=>by
 unfold oH at h
 split at h
 ·cases xF ex;cases xF ey
  exact ho pins s σ H _ _ vv ww Q I rv rw ⟨_,_,rfl,rfl,k.now rs (.val (.bl _)) h⟩
 ·exact h.elim
theorem o7:yI X (compareOp .Lt) (xQ X.K (oH λi j=>decide (i < j))):=zcg znP
theorem vY:yI X (compareOp .Gt) (xQ X.K (oH λi j=>decide (j < i))):=zcg znL
theorem zgU:yI X (compareOp .GtE) (xQ X.K (oH λi j=>decide (j<=i))):=zcg znK
def tB:PV->Bool
 | .non=>true
 | _=>false
def zc8:R3:=λx y st Q=>match y with | .non=>Q (.bl (tB x)) st | _=>False
def zp1:R3:=λx y st Q=>match y with | .non=>Q (.bl (!tB x)) st | _=>False
theorem zlK {K:Frag}{A:List Addr}{H:Hp}{x:PV}{v:V}(e:RE K A H x v):decide (v= .non)=tB x:=by
 cases e with
 | obj e=>rfl
 | val e=>cases e <;> rfl
theorem zne:yI X (compareOp .Is) (xQ X.K zc8):=uK λpins s σ H A st x y v w vv ww Q3 Q I rs ex ey rv rw h k=>by
 unfold zc8 at h
 split at h
 ·have hw:w= .non:=by cases ey with | val e=>cases e;rfl
  exact znO pins s σ H _ _ vv ww Q I rv rw ⟨hw,by rw[zlK ex];exact k.now rs (.val (.bl _)) h⟩
 ·exact h.elim
theorem znH:yI X (binaryOp .Add) (λx y H Q=> ∃a b xs ys,x= .ref a/\y= .ref b/\x5 X.K H a xs/\x5 X.K H b ys/\xs.length+ys.length<=sizeLine/\
  (xs= []->Q (.ref b) H)/\(ys= []->Q (.ref a) H)/\∀p,H p=none->Q (.ref p) (zI H p (.tup (xs++ys)))):=by
 intro pins s σ H x y v u Q I rx ry h;obtain⟨a,b,xs,ys,rfl,rfl,ha,hb,hz,q1,q2,q3⟩:=h;by_cases hx:xs= []
 ·cases rx;cases ry
  subst hx;obtain⟨its,r1,p1,_⟩:=I.tuple ha;obtain⟨its2,r2,p2,_⟩:=I.tuple hb;have hv:its= []:=r1.nil_iff.mpr rfl;subst hv;obtain⟨⟨cls,dd,data,sl⟩,ho,hc,n,hd⟩:=id p1;obtain⟨⟨cls2,dd2,data2,sl2⟩,ho2,hc2,n2,hd2⟩:=id p2;simp only at hc hd hc2 hd2;subst hc hd hc2 hd2;exact vt ⟨_,ho,rfl⟩ ⟨_,ho2,rfl⟩ qo vj nu nh (mr _ _)
   (tuple_addW0 a b _ its2.toArray n n2 dd dd2 sl sl2 (by simp)) ⟨ho,ho2,⟨.ref b,H,I,rfl,q1 rfl⟩⟩
 ·exact znI pins s σ H _ _ v u Q I rx ry ⟨a,b,_,_,rfl,rfl,ha,hb,hx,hz,q2,λ_=>q3⟩
def m5:R3:=λx y st Q=>match x,y with
 | .int i,.int j=>Q (.int (i+j)) st
 | .str i,.str j=>i.length+j.length<=sizeLine/\Q (.str (i++j)) st
 | .tup xs,.tup ys=>xs.length+ys.length<=sizeLine/\Q (.tup (xs++ys)) st
 | .lst xs,.lst ys=>xs.length+ys.length<=sizeLine/\Q (.lst (xs++ys)) st
 | _,_=>False
theorem RVs.nil_iff {K:Frag}{A:List Addr}{H:Hp}{xs:List PV}{vs:List V}(h:RVs K A H xs vs):vs= []->xs= []:=by
 cases h with
 | nil=>exact λ_=>rfl
 | cons r t=>exact λz=>nomatch z
theorem xP.tup {K:Frag}{A:List Addr}{H:Hp}{Q3:K3}{Q:VK}{st:z5}{xs:List PV}{vs:List V}(k:xP K A H Q3 Q)(rs:RS K A H st)(r:RVs K A H xs vs)(hz:vs.length<=sizeLine)(q:Q3 (.tup xs) st): ∀p,H p=none->Q (.ref p) (zI H p (.tup vs)):=
 λp hp=>k A _ st _ _ (.new hp) (rs.new hp) (.val (.tup (.inl ⟨.inl yS,rs.fresh hp⟩) hz (r.grow (.new hp)))) q
theorem xP.lst {K:Frag}{A:List Addr}{H:Hp}{Q3:K3}{Q:VK}{st:z5}{xs:List PV}{vs:List V}(k:xP K A H Q3 Q)(rs:RS K A H st)(r:RVs K A H xs vs)(hz:vs.length<=sizeLine)(q:Q3 (.lst xs) st): ∀p,H p=none->Q (.ref p) (zI H p (.lst vs)):=
 λp hp=>k A _ st _ _ (.new hp) (rs.new hp) (.val (.lst (.inl ⟨.inl yS,rs.fresh hp⟩) hz (r.grow (.new hp)))) q
theorem xP.lstO {K:Frag}{A:List Addr}{H:Hp}{Q3:K3}{Q:VK}{st:z5}{xs:List PV}{vs:List V}(k:xP K A H Q3 Q)(rs:RS K A H st)(r:RVs K A H xs vs)(hz:vs.length<=sizeLine)(q:Q3 (.obj st.length) (st++ [.lst xs])): ∀p,H p=none->Q (.ref p) (zI H p (.lst vs)):=
 λp hp=>k (A++ [p]) _ _ _ _ (.newObj hp) (rs.newObj (q:= .lst xs) hp ⟨vs,yS,r.grow (.newObj hp),hz⟩) (.obj (o9 rs.len)) q
theorem xP.dctO {K:Frag}{A:List Addr}{H:Hp}{Q3:K3}{Q:VK}{st:z5}{xs:List (z8×PV)}{vs:List (z8×V)}(k:xP K A H Q3 Q)(rs:RS K A H st)(r:RKs K A H xs vs)(hz:vs.length<=sizeLine)(q:Q3 (.obj st.length) (st++ [.dct xs])): ∀p,H p=none->Q (.ref p) (zI H p (.dK vs)):=
 λp hp=>k (A++ [p]) _ _ _ _ (.newObj hp) (rs.newObj (q:= .dct xs) hp ⟨vs,yS,r.grow (.newObj hp),hz⟩) (.obj (o9 rs.len)) q
theorem xP.dct {K:Frag}{A:List Addr}{H:Hp}{Q3:K3}{Q:VK}{st:z5}{xs:List (z8×PV)}{vs:List (z8×V)}(k:xP K A H Q3 Q)(rs:RS K A H st)(r:RKs K A H xs vs)(hz:vs.length<=sizeLine)(q:Q3 (.dct xs) st): ∀p,H p=none->Q (.ref p) (zI H p (.dK vs)):=
 λp hp=>k A _ st _ _ (.new hp) (rs.new hp) (.val (.dct ⟨yS,rs.fresh hp⟩ hz (r.grow (.new hp)))) q
theorem zhg:yI X (binaryOp .Add) (λx y H Q=> ∃a b xs ys,x= .ref a/\y= .ref b/\yE X.K H a xs/\yE X.K H b ys/\xs.length+ys.length<=sizeLine/\∀p,H p=none->Q (.ref p) (zI H p (.lst (xs++ys)))):=by
 intro pins s σ H x y v u Q I rx ry h;obtain⟨a,b,xs,ys,rfl,rfl,ha,hb,hz,q⟩:=h;cases rx;cases ry;obtain⟨its,n,r1,e,_⟩:=I.listX ha;obtain⟨its2,n2,r2,e2,_⟩:=I.listX hb;have l1:=r1.length;have l2:=r2.length;refine PySem.P.add_list e e2 ?_ (by rw[bo,bo];omega);have ea:its.toArray++its2.toArray=(its++its2).toArray:=by simp
 rw[ea];exact⟨.ref _,_,I.lnew (t':=s.toks) (r1.append r2) (by rw[af];omega),rfl,q _ I.fresh⟩
theorem y9:yI X (binaryOp .Add) (xQ X.K m5):=uK λpins s σ H A st x y v w vv ww Q3 Q I rs ex ey rv rw h k=>by
 unfold m5 at h
 split at h
 ·cases xF ex;cases xF ey
  exact znF pins s σ H _ _ vv ww Q I rv rw ⟨_,_,rfl,rfl,k.now rs (.val (.int _)) h⟩
 ·cases sS ex;cases sS ey
  exact znG pins s σ H _ _ vv ww Q I rv rw ⟨_,_,rfl,rfl,h.1,k.now rs (.val (.str _)) h.2⟩
 ·cases ex with | val ex=>cases ey with | val ey=>cases ex with | tup t z r=>cases ey with | tup t2 z2 r2=>
   have hl:_:=h.1;rw[r.len,r2.len]at hl;refine znH pins s σ H _ _ vv ww Q I rv rw ⟨_,_,_,_,rfl,rfl,t.sq,t2.sq,hl,λe=> ?_,λe=> ?_,k.tup rs (r.append r2) (by rw[af];exact hl) h.2⟩
   ·have e2:=r.nil_iff e
    subst e2;exact k.now rs (.val (.tup t2 z2 r2)) h.2
   ·have e2:=r2.nil_iff e
    subst e2;refine k.now rs (.val (.tup t z r)) ?_;have:=h.2;rw[db]at this;exact this
 ·cases ex with | val ex=>cases ey with | val ey=>cases ex with | lst t z r=>cases ey with | lst t2 z2 r2=>
   have hl:_:=h.1;rw[r.len,r2.len]at hl;exact zhg pins s σ H _ _ vv ww Q I rv rw ⟨_,_,_,_,rfl,rfl,t.sq,t2.sq,hl,k.lst rs (r.append r2) (by rw[af];exact hl) h.2⟩
 ·exact h.elim
end
set_option Elab.async false
set_option linter.all false
set_option maxRecDepth 100000
set_option maxHeartbeats 4000000
mutual
def y8:PV->PV->Bool
 | .non,.non=>true
 | .bl a,.bl b=>a==b
 | .bl a,.int b=>(if a then 1 else 0)==b
 | .int a,.bl b=>a==(if b then 1 else 0)
 | .int a,.int b=>a==b
 | .str a,.str b=>a==b
 | .tup xs,.tup ys=>eqPs xs ys
 | .lst xs,.lst ys=>eqPs xs ys
 | _,_=>false
def eqPs:List PV->List PV->Bool
 | [],[]=>true
 | x::xs,y::ys=>y8 x y&&eqPs xs ys
 | _,_=>false
end
mutual
def zF:PV->Nat
 | .tup xs=>dpts xs+1
 | .lst xs=>dpts xs+1
 | .dct _=>1000
 | .itb _=>1000
 | .clo _=>1000
 | .ty _=>1000
 | .obj _=>1000
 | _=>0
def dpts:List PV->Nat
 | []=>0
 | x::xs=>max (zF x) (dpts xs)
end
theorem b0: ∀{xs:List PV} {i:Nat} {x:PV},xs[i]?=some x->zF x<=dpts xs
 | y::ys,0,x,h=>by simp at h;subst h;unfold dpts;exact Nat.le_max_left _ _
 | y::ys,i+1,x,h=>by
  have:=b0 (xs:=ys) (i:=i) (x:=x) (by simpa using h);unfold dpts;exact bq this (Nat.le_max_right _ _)
mutual
theorem bA: ∀(x:PV),zF x < 1000->y8 x x=true
 | .non,_=>by unfold y8;rfl
 | .bl b,_=>by unfold y8;simp
 | .int i,_=>by unfold y8;simp
 | .str s,_=>by unfold y8;simp
 | .tup xs,h=>by unfold y8;exact eqPs_refl xs (by unfold zF at h;omega)
 | .lst xs,h=>by unfold y8;exact eqPs_refl xs (by unfold zF at h;omega)
 | .dct _,h=>by unfold zF at h;omega
 | .itb _,h=>by unfold zF at h;omega
 | .clo _,h=>by unfold zF at h;omega
 | .ty _,h=>by unfold zF at h;omega
 | .obj _,h=>by unfold zF at h;omega
theorem eqPs_refl: ∀(xs:List PV),dpts xs < 1000->eqPs xs xs=true
 | [],_=>by unfold eqPs;rfl
 | x::xs,h=>by
  unfold dpts at h;unfold eqPs;rw[bA x (by omega),eqPs_refl xs (by omega)];rfl
end
theorem iM: ∀(xs ys:List PV),eqPs xs ys=((List.range (min xs.length ys.length)).all (λj=>match xs[j]?,ys[j]? with | some x,some y=>y8 x y | _,_=>true)&&xs.length==ys.length)
 | [],[]=>by unfold eqPs;rfl
 | [],y::ys=>by unfold eqPs;simp
 | x::xs,[]=>by unfold eqPs;simp
 | x::xs,y::ys=>by
  unfold eqPs;rw[iM xs ys];rw[cg,cg,Nat.succ_min_succ,lr,kz,List.all_map];simp only[jg,Bool.and_assoc]
  congr 1
  have e:((λj=>match(x::xs)[j]?,(y::ys)[j]? with | some x,some y=>y8 x y | _,_=>true) ∘ Nat.succ)=λj=>match xs[j]?,ys[j]? with | some x,some y=>y8 x y | _,_=>true:=by
   funext j;simp
  rw[e]
  congr 1
  rw[ln];simp
section
variable {X:Cx} {pins:List (Addr×Obj)} {σ:St} {H:Hp} {s:Shared} {A:List Addr}
theorem z6.lst_tup (I:z6 X pins σ H s){a:Addr}{xs ys:List V}(h1:yE X.K H a xs)(h2:x5 X.K H a ys):False:=by
 obtain⟨its,_,p,_⟩:=I.list h1;obtain⟨its2,_,p2,_⟩:=I.tuple h2;exact SeqAt.ne_of_list_tuple p.isList p2 rfl
mutual
theorem RV.inj (I:z6 X pins σ H s){x y:PV}{v:V}(a:RV X.K A H x v)(b:RV X.K A H y v)(h1:zF x < 1000)(h2:zF y < 1000):x=y:=by
 cases a with
 | non=>cases b;rfl
 | bl _=>cases b;rfl
 | int _=>cases b;rfl
 | str _=>cases b;rfl
 | ty _=>cases b;rfl
 | tup t z r=>
  cases b with
  | tup t2 z2 r2=>
   have e:=I.tuple_inj t.sq t2.sq;subst e;rw[RVs.inj2 I r r2 (by unfold zF at h1;omega) (by unfold zF at h2;omega)]
  | lst t2 z2 r2=>exact(z6.lst_tup I t2.sq t.sq).elim
  | dct _ _ _=>unfold zF at h2;omega
  | itb _ _=>unfold zF at h2;omega
  | clo _=>unfold zF at h2;omega
 | lst t z r=>
  cases b with
  | lst t2 z2 r2=>
   have e:=I.list_inj t.sq t2.sq;subst e;rw[RVs.inj2 I r r2 (by unfold zF at h1;omega) (by unfold zF at h2;omega)]
  | tup t2 z2 r2=>exact(z6.lst_tup I t.sq t2.sq).elim
  | dct _ _ _=>unfold zF at h2;omega
  | itb _ _=>unfold zF at h2;omega
  | clo _=>unfold zF at h2;omega
 | dct _ _ _=>unfold zF at h1;omega
 | itb _ _=>unfold zF at h1;omega
 | clo _=>unfold zF at h1;omega
theorem RVs.inj2 (I:z6 X pins σ H s){xs ys:List PV}{vs:List V}(a:RVs X.K A H xs vs)(b:RVs X.K A H ys vs)(h1:dpts xs < 1000)(h2:dpts ys < 1000):xs=ys:=by
 cases a with
 | nil=>cases b;rfl
 | cons r t=>
  cases b with
  | cons r2 t2=>
   unfold dpts at h1 h2;rw[RV.inj I r r2 (by omega) (by omega),RVs.inj2 I t t2 (by omega) (by omega)]
end
theorem nM {n:Nat}{B:Around}{xs ys:List PV}{vs ws:List V}{its its2:List Value}(rx:RVs X.K A H xs vs)(ry:RVs X.K A H ys ws)(r1:zK vs its)(r2:zK ws its2)
  (ih: ∀x y v w vv ww,zF x<=n->zF y < 1000->RV X.K A H x v->RV X.K A H y w->zT v vv->zT w ww->SeqAt.EqAt B s vv ww (y8 x y)) (hx:dpts xs<=n) (hy:dpts ys < 1000):
  ∀j (h1:j < its.toArray.size) (h2:j < its2.toArray.size),SeqAt.EqAt B s its.toArray[j] its2.toArray[j] ((λj=>match xs[j]?,ys[j]? with | some x,some y=>y8 x y | _,_=>true) j):=λj h1 h2=>by
 obtain⟨v,ev,rv⟩:=ziV r1 h1;obtain⟨w,ew,rw'⟩:=ziV r2 h2;obtain⟨x,ex,rx'⟩:=rx.get' ev;obtain⟨y,ey,ry'⟩:=ry.get' ew;show SeqAt.EqAt B s _ _ (match xs[j]?,ys[j]? with | some x,some y=>y8 x y | _,_=>true);rw[ex,ey];exact ih x y v w _ _ (bq (b0 ex) hx) (lm (b0 ey) hy) rx' ry' rv rw'
def fI:PV->PV->Bool
 | .tup _,.tup _=>true
 | .lst _,.lst _=>true
 | _,_=>false
inductive Kd (s:Shared):PV->Value->Prop
 | non:Kd s .non .none
 | bl (b:Bool):Kd s (.bl b) (.bool b)
 | int (i:Int) (t:Tok):Kd s (.int i) (.int i t)
 | str (z:Str) (t:Tok):Kd s (.str z) (.str z t)
 | tup {xs:List PV} {a:Addr} {its:Array Value} :IsTup s.heap a its->Kd s (.tup xs) (.ref a)
 | lst {xs:List PV} {a:Addr} {its:Array Value} :s.heap.IsList a its->Kd s (.lst xs) (.ref a)
theorem qB (I:z6 X pins σ H s){x:PV}{v:V}{vv:Value}(rx:RV X.K A H x v)(rv:zT v vv)(h:zF x < 1000):Kd s x vv:=by
 cases rx with
 | non=>cases rv;exact .non
 | bl b=>cases rv;exact .bl b
 | int i=>obtain⟨t,rfl⟩:=rv;exact .int i t
 | str z=>obtain⟨t,rfl⟩:=rv;exact .str z t
 | ty n=>unfold zF at h;omega
 | tup t z r=>cases rv;obtain⟨its,_,p,_⟩:=I.tuple t.sq;exact .tup p
 | lst t z r=>cases rv;obtain⟨its,_,p,_⟩:=I.list t.sq;exact .lst p.isList
 | dct t z r=>unfold zF at h;omega
 | itb _ _=>unfold zF at h;omega
 | clo _=>unfold zF at h;omega
local macro_rules | `(tactic| exact?)=> `(tactic| simp only[y8,Bool.not_false,Bool.not_true])
open SeqAt in
theorem zeS {B:Around}(hu:B.units < cLine): ∀{x y:PV} {vv ww:Value},Kd s x vv->Kd s y ww->fI x y=false->EqAt B s vv ww (y8 x y)
 | _,_,_,_,.non,.non,_=>by exact?;exact EqAt.same _
 | _,_,_,_,.non,.bl b,_=>by exact?;exact EqAt.none_bool _
 | _,_,_,_,.non,.int b b2,_=>by exact?;exact EqAt.none_int _ _
 | _,_,_,_,.non,.str b b2,_=>by exact?;exact EqAt.none_str _ _
 | _,_,_,_,.non,.tup b,_=>by exact?;exact EqAt.none_tuple b hu
 | _,_,_,_,.non,.lst b,_=>by exact?;exact EqAt.none_list b hu
 | _,_,_,_,.bl a,.non,_=>by exact?;exact EqAt.bool_none _
 | _,_,_,_,.bl a,.bl b,_=>by exact?;exact EqAt.bool_bool _ _
 | _,_,_,_,.bl a,.int b b2,_=>by exact?;exact EqAt.bool_int _ _ _
 | _,_,_,_,.bl a,.str b b2,_=>by exact?;exact EqAt.bool_str _ _ _
 | _,_,_,_,.bl a,.tup b,_=>by exact?;exact EqAt.bool_tuple _ b hu
 | _,_,_,_,.bl a,.lst b,_=>by exact?;exact EqAt.bool_list _ b hu
 | _,_,_,_,.int a a2,.non,_=>by exact?;exact EqAt.int_none _ _
 | _,_,_,_,.int a a2,.bl b,_=>by exact?;exact EqAt.int_bool _ _ _
 | _,_,_,_,.int a a2,.int b b2,_=>by exact?;exact EqAt.int_int _ _ _ _
 | _,_,_,_,.int a a2,.str b b2,_=>by exact?;exact EqAt.int_str _ _ _ _
 | _,_,_,_,.int a a2,.tup b,_=>by exact?;exact EqAt.int_tuple _ _ b hu
 | _,_,_,_,.int a a2,.lst b,_=>by exact?;exact EqAt.int_list _ _ b hu
 | _,_,_,_,.str a a2,.non,_=>by exact?;exact EqAt.str_none _ _
 | _,_,_,_,.str a a2,.bl b,_=>by exact?;exact EqAt.str_bool _ _ _
 | _,_,_,_,.str a a2,.int b b2,_=>by exact?;exact EqAt.str_int _ _ _ _
 | _,_,_,_,.str a a2,.str b b2,_=>by exact?;exact EqAt.str_str _ _ _ _
 | _,_,_,_,.str a a2,.tup b,_=>by exact?;exact EqAt.str_tuple _ _ b hu
 | _,_,_,_,.str a a2,.lst b,_=>by exact?;exact EqAt.str_list _ _ b hu
 | _,_,_,_,.tup a,.non,_=>by exact?;exact EqAt.tuple_none a hu
 | _,_,_,_,.tup a,.bl b,_=>by exact?;exact EqAt.tuple_bool _ a hu
 | _,_,_,_,.tup a,.int b b2,_=>by exact?;exact EqAt.tuple_int _ _ a hu
 | _,_,_,_,.tup a,.str b b2,_=>by exact?;exact EqAt.tuple_str _ _ a hu
 | _,_,_,_,.tup _,.tup _,h=>Bool.noConfusion h
 | _,_,_,_,.tup a,.lst b,_=>by exact?;exact EqAt.tuple_list a b hu
 | _,_,_,_,.lst a,.non,_=>by exact?;exact EqAt.list_none a hu
 | _,_,_,_,.lst a,.bl b,_=>by exact?;exact EqAt.list_bool _ a hu
 | _,_,_,_,.lst a,.int b b2,_=>by exact?;exact EqAt.list_int _ _ a hu
 | _,_,_,_,.lst a,.str b b2,_=>by exact?;exact EqAt.list_str _ _ a hu
 | _,_,_,_,.lst a,.tup b,_=>by exact?;exact EqAt.list_tuple a b hu
 | _,_,_,_,.lst _,.lst _,h=>Bool.noConfusion h
open SeqAt in
theorem zp_ {B:Around}(hu:B.units < cLine): ∀{x y:PV} {vv ww:Value},Kd s x vv->Kd s y ww->fI x y=false->RcAt B s vv ww (y8 x y)
 | _,_,_,_,.non,.non,_=>by exact?;exact RcAt.none_none
 | _,_,_,_,.non,.bl b,_=>by exact?;exact RcAt.none_bool _
 | _,_,_,_,.non,.int b b2,_=>by exact?;exact RcAt.none_int _ _
 | _,_,_,_,.non,.str b b2,_=>by exact?;exact RcAt.none_str _ _
 | _,_,_,_,.non,.tup b,_=>by exact?;exact RcAt.none_tuple b hu
 | _,_,_,_,.non,.lst b,_=>by exact?;exact RcAt.none_list b hu
 | _,_,_,_,.bl a,.non,_=>by exact?;exact RcAt.bool_none _
 | _,_,_,_,.bl a,.bl b,_=>by exact?;exact RcAt.bool_bool _ _
 | _,_,_,_,.bl a,.int b b2,_=>by exact?;exact RcAt.bool_int _ _ _
 | _,_,_,_,.bl a,.str b b2,_=>by exact?;exact RcAt.bool_str _ _ _
 | _,_,_,_,.bl a,.tup b,_=>by exact?;exact RcAt.bool_tuple _ b hu
 | _,_,_,_,.bl a,.lst b,_=>by exact?;exact RcAt.bool_list _ b hu
 | _,_,_,_,.int a a2,.non,_=>by exact?;exact RcAt.int_none _ _
 | _,_,_,_,.int a a2,.bl b,_=>by exact?;exact RcAt.int_bool _ _ _
 | _,_,_,_,.int a a2,.int b b2,_=>by exact?;exact RcAt.int_int _ _ _ _
 | _,_,_,_,.int a a2,.str b b2,_=>by exact?;exact RcAt.int_str _ _ _ _
 | _,_,_,_,.int a a2,.tup b,_=>by exact?;exact RcAt.int_tuple _ _ b hu
 | _,_,_,_,.int a a2,.lst b,_=>by exact?;exact RcAt.int_list _ _ b hu
 | _,_,_,_,.str a a2,.non,_=>by exact?;exact RcAt.str_none _ _
 | _,_,_,_,.str a a2,.bl b,_=>by exact?;exact RcAt.str_bool _ _ _
 | _,_,_,_,.str a a2,.int b b2,_=>by exact?;exact RcAt.str_int _ _ _ _
 | _,_,_,_,.str a a2,.str b b2,_=>by exact?;exact RcAt.str_str _ _ _ _
 | _,_,_,_,.str a a2,.tup b,_=>by exact?;exact RcAt.str_tuple _ _ b hu
 | _,_,_,_,.str a a2,.lst b,_=>by exact?;exact RcAt.str_list _ _ b hu
 | _,_,_,_,.tup a,.non,_=>by exact?;exact RcAt.tuple_none a hu
 | _,_,_,_,.tup a,.bl b,_=>by exact?;exact RcAt.tuple_bool _ a hu
 | _,_,_,_,.tup a,.int b b2,_=>by exact?;exact RcAt.tuple_int _ _ a hu
 | _,_,_,_,.tup a,.str b b2,_=>by exact?;exact RcAt.tuple_str _ _ a hu
 | _,_,_,_,.tup _,.tup _,h=>Bool.noConfusion h
 | _,_,_,_,.tup a,.lst b,_=>by exact?;exact RcAt.tuple_list a b hu
 | _,_,_,_,.lst a,.non,_=>by exact?;exact RcAt.list_none a hu
 | _,_,_,_,.lst a,.bl b,_=>by exact?;exact RcAt.list_bool _ a hu
 | _,_,_,_,.lst a,.int b b2,_=>by exact?;exact RcAt.list_int _ _ a hu
 | _,_,_,_,.lst a,.str b b2,_=>by exact?;exact RcAt.list_str _ _ a hu
 | _,_,_,_,.lst a,.tup b,_=>by exact?;exact RcAt.list_tuple a b hu
 | _,_,_,_,.lst _,.lst _,h=>Bool.noConfusion h
open SeqAt in
theorem zpC {B:Around}(hu:B.units < cLine): ∀{x y:PV} {vv ww:Value},Kd s x vv->Kd s y ww->fI x y=false->RcNeAt B s vv ww (!y8 x y)
 | _,_,_,_,.non,.non,_=>by exact?;exact RcNeAt.none_none
 | _,_,_,_,.non,.bl b,_=>by exact?;exact RcNeAt.none_bool _
 | _,_,_,_,.non,.int b b2,_=>by exact?;exact RcNeAt.none_int _ _
 | _,_,_,_,.non,.str b b2,_=>by exact?;exact RcNeAt.none_str _ _
 | _,_,_,_,.non,.tup b,_=>by exact?;exact RcNeAt.none_tuple b hu
 | _,_,_,_,.non,.lst b,_=>by exact?;exact RcNeAt.none_list b hu
 | _,_,_,_,.bl a,.non,_=>by exact?;exact RcNeAt.bool_none _
 | _,_,_,_,.bl a,.bl b,_=>by exact?;exact RcNeAt.bool_bool _ _
 | _,_,_,_,.bl a,.int b b2,_=>by exact?;exact RcNeAt.bool_int _ _ _
 | _,_,_,_,.bl a,.str b b2,_=>by exact?;exact RcNeAt.bool_str _ _ _
 | _,_,_,_,.bl a,.tup b,_=>by exact?;exact RcNeAt.bool_tuple _ b hu
 | _,_,_,_,.bl a,.lst b,_=>by exact?;exact RcNeAt.bool_list _ b hu
 | _,_,_,_,.int a a2,.non,_=>by exact?;exact RcNeAt.int_none _ _
 | _,_,_,_,.int a a2,.bl b,_=>by exact?;exact RcNeAt.int_bool _ _ _
 | _,_,_,_,.int a a2,.int b b2,_=>by exact?;exact RcNeAt.int_int _ _ _ _
 | _,_,_,_,.int a a2,.str b b2,_=>by exact?;exact RcNeAt.int_str _ _ _ _
 | _,_,_,_,.int a a2,.tup b,_=>by exact?;exact RcNeAt.int_tuple _ _ b hu
 | _,_,_,_,.int a a2,.lst b,_=>by exact?;exact RcNeAt.int_list _ _ b hu
 | _,_,_,_,.str a a2,.non,_=>by exact?;exact RcNeAt.str_none _ _
 | _,_,_,_,.str a a2,.bl b,_=>by exact?;exact RcNeAt.str_bool _ _ _
 | _,_,_,_,.str a a2,.int b b2,_=>by exact?;exact RcNeAt.str_int _ _ _ _
 | _,_,_,_,.str a a2,.str b b2,_=>by exact?;exact RcNeAt.str_str _ _ _ _
 | _,_,_,_,.str a a2,.tup b,_=>by exact?;exact RcNeAt.str_tuple _ _ b hu
 | _,_,_,_,.str a a2,.lst b,_=>by exact?;exact RcNeAt.str_list _ _ b hu
 | _,_,_,_,.tup a,.non,_=>by exact?;exact RcNeAt.tuple_none a hu
 | _,_,_,_,.tup a,.bl b,_=>by exact?;exact RcNeAt.tuple_bool _ a hu
 | _,_,_,_,.tup a,.int b b2,_=>by exact?;exact RcNeAt.tuple_int _ _ a hu
 | _,_,_,_,.tup a,.str b b2,_=>by exact?;exact RcNeAt.tuple_str _ _ a hu
 | _,_,_,_,.tup _,.tup _,h=>Bool.noConfusion h
 | _,_,_,_,.tup a,.lst b,_=>by exact?;exact RcNeAt.tuple_list a b hu
 | _,_,_,_,.lst a,.non,_=>by exact?;exact RcNeAt.list_none a hu
 | _,_,_,_,.lst a,.bl b,_=>by exact?;exact RcNeAt.list_bool _ a hu
 | _,_,_,_,.lst a,.int b b2,_=>by exact?;exact RcNeAt.list_int _ _ a hu
 | _,_,_,_,.lst a,.str b b2,_=>by exact?;exact RcNeAt.list_str _ _ a hu
 | _,_,_,_,.lst a,.tup b,_=>by exact?;exact RcNeAt.list_tuple a b hu
 | _,_,_,_,.lst _,.lst _,h=>Bool.noConfusion h
theorem zcZ (x y:PV):fI x y=false∨(∃xs ys,x= .tup xs/\y= .tup ys)∨∃xs ys,x= .lst xs/\y= .lst ys:=by
 cases x <;> cases y <;> first | exact .inl rfl | exact .inr (.inl ⟨_,_,rfl,rfl⟩) | exact .inr (.inr ⟨_,_,rfl,rfl⟩)
theorem zcJ {xs ys:List PV}{n m:Nat}(h1:xs.length=n)(h2:ys.length=m):((List.range (min n m)).all (λj=>match xs[j]?,ys[j]? with | some x,some y=>y8 x y | _,_=>true)&&n==m)=eqPs xs ys:=by
 subst h1 h2;exact(iM xs ys).symm
theorem zcK {xs ys:List PV}{n m:Nat}(h1:xs.length=n)(h2:ys.length=m)(h:n=m):(List.range n).all (λj=>match xs[j]?,ys[j]? with | some x,some y=>y8 x y | _,_=>true)=eqPs xs ys:=by
 rw[iM,h1,h2,<- h,Nat.min_self];simp
theorem bC {xs ys:List PV}(h:xs.length≠ys.length):eqPs xs ys=false:=by
 rw[iM];simp[h]
theorem iN (I:z6 X pins σ H s): ∀(n:Nat) (B:Around) (x y:PV) (v w:V) (vv ww:Value),B.units+n < cLine->zF x<=n->n < 1000->zF y < 1000->RV X.K A H x v->RV X.K A H y w->zT v vv->zT w ww->SeqAt.EqAt B s vv ww (y8 x y):=by
 intro n
 induction n with
 | zero=>
  intro B x y v w vv ww hu hx hn hy rx ry rv rw;refine zeS (by omega) (qB I rx rv (by omega)) (qB I ry rw hy) ?_;cases x <;> first | (unfold zF at hx;omega) | rfl
 | succ n ih=>
  intro B x y v w vv ww hu hx hn hy rx ry rv rw;rcases zcZ x y with h | ⟨xs,ys,rfl,rfl⟩ | ⟨xs,ys,rfl,rfl⟩
  ·exact zeS (by omega) (qB I rx rv (by omega)) (qB I ry rw hy) h
  ·cases rx with | tup t z r=>cases ry with | tup t2 z2 r2=>
    rename_i a vs b ws;cases rv;cases rw;by_cases hab:a=b
    ·subst hab
     have e:=RV.inj I (.tup t z r) (.tup t2 z2 r2) (by omega) hy;rw[e,bA _ hy];exact so _
    ·obtain⟨its,r3,p,_⟩:=I.tuple t.sq
     obtain⟨its2,r4,p2,_⟩:=I.tuple t2.sq;have hh:=SeqAt.RcAt.tuples (A:=B) (show s.heap.IsTuple a its.toArray from p) (show s.heap.IsTuple b its2.toArray from p2) (by omega) (nM r r2 r3 r4 (λx y v w vv ww h1 h2=>ih B.in1 x y v w vv ww (by show B.units+1+n < cLine;omega) h1 (by omega) h2) (by unfold zF at hx;omega) (by unfold zF at hy;omega));rw[zcJ (by rw[r.len,r3.length];simp) (by rw[r2.len,r4.length];simp)]at hh;unfold y8;exact wb hab hh
  ·cases rx with | lst t z r=>cases ry with | lst t2 z2 r2=>
    rename_i a vs b ws;cases rv;cases rw;by_cases hab:a=b
    ·subst hab
     have e:=RV.inj I (.lst t z r) (.lst t2 z2 r2) (by omega) hy;rw[e,bA _ hy];exact so _
    ·obtain⟨its,r3,p,_⟩:=I.list t.sq
     obtain⟨its2,r4,p2,_⟩:=I.list t2.sq;have l1:xs.length=its.toArray.size:=by rw[r.len,r3.length];simp
     have l2:ys.length=its2.toArray.size:=by rw[r2.len,r4.length];simp
     unfold y8;refine wb hab ?_;by_cases hl:its.toArray.size=its2.toArray.size
     ·have hh:=SeqAt.RcAt.lists (A:=B) p.isList p2.isList hl (by omega) (nM r r2 r3 r4 (λx y v w vv ww h1 h2=>ih B.in1 x y v w vv ww (by show B.units+1+n < cLine;omega) h1 (by omega) h2) (by unfold zF at hx;omega) (by unfold zF at hy;omega))
      rw[zcK l1 l2 hl]at hh;exact hh
     ·rw[bC (by omega)]
      exact qy p.isList p2.isList (by simpa using hl) (by omega)
def zc6:R3:=λx y st Q=>(zF x<=50/\zF y < 1000)/\Q (.bl (y8 x y)) st
def zhG:R3:=λx y st Q=>(zF x<=50/\zF y < 1000)/\Q (.bl (!y8 x y)) st
theorem k7 {x:PV}(h:zF x < 1000):yR x=true:=by
 cases x <;> first | rfl | (unfold zF at h;omega)
theorem xG {k:Nat}(hr:zU k X.A):yI X (compareOp .Eq) (xQ X.K zc6):=uK λpins s σ H A st x y v w vv ww Q3 Q I rs ex ey rv rw h k=>by
 obtain⟨⟨h1,h2⟩,h⟩:=h;have hu:=hr.units;have rx:=ex.rv (k7 (by omega));have ry:=ey.rv (k7 h2);have fin: ∀b,b=y8 x y->EP X pins σ Q (.bool b) s:=λb e=>⟨.bl b,H,I,rfl,by rw[e];exact k.now rs (.val (.bl _)) h⟩;rcases zcZ x y with hn | ⟨xs,ys,rfl,rfl⟩ | ⟨xs,ys,rfl,rfl⟩
 ·exact zp_ (by omega) (qB I rx rv (by omega)) (qB I ry rw h2) hn _ _ _ _ (fin _ rfl)
 ·cases rx with | tup t z r=>cases ry with | tup t2 z2 r2=>
   cases rv;cases rw;obtain⟨its,r3,p,_⟩:=I.tuple t.sq;obtain⟨its2,r4,p2,_⟩:=I.tuple t2.sq;refine SeqAt.RcAt.tuples (show s.heap.IsTuple _ its.toArray from p) (show s.heap.IsTuple _ its2.toArray from p2) (by omega) (nM (n:=50) r r2 r3 r4 (λx y v w vv ww h1 h2=>iN I 50 X.A.in1 x y v w vv ww (by show X.A.units+1+50 < cLine;omega) h1 (by omega) h2) (by unfold zF at h1;omega) (by unfold zF at h2;omega)) _ _ _ _ (fin _ ?_);rw[zcJ (by rw[r.len,r3.length];simp) (by rw[r2.len,r4.length];simp)];unfold y8;rfl
 ·cases rx with | lst t z r=>cases ry with | lst t2 z2 r2=>
   cases rv;cases rw;obtain⟨its,r3,p,_⟩:=I.list t.sq;obtain⟨its2,r4,p2,_⟩:=I.list t2.sq;have l1:xs.length=its.toArray.size:=by rw[r.len,r3.length];simp
   have l2:ys.length=its2.toArray.size:=by rw[r2.len,r4.length];simp
   by_cases hl:its.toArray.size=its2.toArray.size
   ·refine SeqAt.RcAt.lists p.isList p2.isList hl (by omega) (nM (n:=50) r r2 r3 r4 (λx y v w vv ww h1 h2=>iN I 50 X.A.in1 x y v w vv ww (by show X.A.units+1+50 < cLine;omega) h1 (by omega) h2) (by unfold zF at h1;omega) (by unfold zF at h2;omega)) _ _ _ _ (fin _ ?_)
    rw[zcK l1 l2 hl];unfold y8;rfl
   ·refine qy p.isList p2.isList (by simpa using hl) (by omega) _ _ _ _ (fin _ ?_)
    unfold y8;rw[bC (by omega)]
theorem o8 {k:Nat}(hr:zU k X.A):yI X (compareOp .NotEq) (xQ X.K zhG):=uK λpins s σ H A st x y v w vv ww Q3 Q I rs ex ey rv rw h k=>by
 obtain⟨⟨h1,h2⟩,h⟩:=h;have hu:=hr.units;have rx:=ex.rv (k7 (by omega));have ry:=ey.rv (k7 h2);have fin: ∀b,b= !y8 x y->EP X pins σ Q (.bool b) s:=λb e=>⟨.bl b,H,I,rfl,by rw[e];exact k.now rs (.val (.bl _)) h⟩;rcases zcZ x y with hn | ⟨xs,ys,rfl,rfl⟩ | ⟨xs,ys,rfl,rfl⟩
 ·exact zpC (by omega) (qB I rx rv (by omega)) (qB I ry rw h2) hn _ _ _ _ (fin _ rfl)
 ·cases rx with | tup t z r=>cases ry with | tup t2 z2 r2=>
   cases rv;cases rw;obtain⟨its,r3,p,_⟩:=I.tuple t.sq;obtain⟨its2,r4,p2,_⟩:=I.tuple t2.sq;refine(SeqAt.RcNeAt.tuples (show s.heap.IsTuple _ its.toArray from p) (show s.heap.IsTuple _ its2.toArray from p2) (by omega) (nM (n:=50) r r2 r3 r4 (λx y v w vv ww h1 h2=>iN I 50 X.A.in1 x y v w vv ww (by show X.A.units+1+50 < cLine;omega) h1 (by omega) h2) (by unfold zF at h1;omega) (by unfold zF at h2;omega))) _ _ _ _ (fin _ ?_);rw[zcJ (by rw[r.len,r3.length];simp) (by rw[r2.len,r4.length];simp)];unfold y8;rfl
 ·cases rx with | lst t z r=>cases ry with | lst t2 z2 r2=>
   cases rv;cases rw;obtain⟨its,r3,p,_⟩:=I.list t.sq;obtain⟨its2,r4,p2,_⟩:=I.list t2.sq;have l1:xs.length=its.toArray.size:=by rw[r.len,r3.length];simp
   have l2:ys.length=its2.toArray.size:=by rw[r2.len,r4.length];simp
   by_cases hl:its.toArray.size=its2.toArray.size
   ·refine(SeqAt.RcNeAt.lists p.isList p2.isList hl (by omega) (nM (n:=50) r r2 r3 r4 (λx y v w vv ww h1 h2=>iN I 50 X.A.in1 x y v w vv ww (by show X.A.units+1+50 < cLine;omega) h1 (by omega) h2) (by unfold zF at h1;omega) (by unfold zF at h2;omega))) _ _ _ _ (fin _ ?_)
    rw[zcK l1 l2 hl];unfold y8;rfl
   ·refine(SeqAt.RcNeAt.lists_lengths p.isList p2.isList (by simpa using hl) (by omega)) _ _ _ _ (fin _ ?_)
    unfold y8;rw[bC (by omega)];rfl
end
set_option Elab.async false
set_option linter.all false
set_option maxRecDepth 100000
set_option maxHeartbeats 4000000
def zO (kvs:List (z8×PV))(k:z8):Option PV:=(kvs.find? λkv=>decide (kv.1=k)).map (·.2)
def wH (kvs:List (z8×PV))(k:z8)(v:PV):List (z8×PV):=
 if(kvs.any λkv=>decide (kv.1=k))=true then kvs.map (λkv=>if kv.1=k then(kv.1,v)else kv)else kvs++ [(k,v)]
def vR:PV->Option z8
 | .int i=>some (.inl i)
 | .str x=>some (.inr x)
 | _=>none
section
variable {K:Frag} {A:List Addr} {H:Hp}
theorem RKs.val {k:z8} : ∀{kvs:List (z8×PV)} {us:List (z8×V)},RKs K A H kvs us->(∃x v,zO kvs k=some x/\vG us k=some v/\RV K A H x v)∨(zO kvs k=none/\vG us k=none)
 | _,_,.nil=> .inr ⟨rfl,rfl⟩
 | _,_,.cons (k:=k') (x:=x) (v:=v) (xs:=xs) (vs:=vs) r t=>by
  by_cases e:k'=k
  ·refine .inl ⟨x,v,?_,?_,r⟩
   ·unfold zO;rw[cx,decide_eq_true e];rfl
   ·exact jB e
  ·have e1:zO ((k',x)::xs) k=zO xs k:=by unfold zO;rw[cx,decide_eq_false e]
   have e2:vG ((k',v)::vs) k=vG vs k:=jA e;rw[e1,e2];exact RKs.val t
theorem RKs.any {k:z8} : ∀{kvs:List (z8×PV)} {us:List (z8×V)},RKs K A H kvs us->(us.any λkv=>decide (kv.1=k))=(kvs.any λkv=>decide (kv.1=k))
 | _,_,.nil=>rfl
 | _,_,.cons r t=>by rw[iw,iw,RKs.any t]
theorem RKs.map {k:z8}{x:PV}{v:V}(r:RV K A H x v): ∀{kvs:List (z8×PV)} {us:List (z8×V)},RKs K A H kvs us->RKs K A H (kvs.map λkv=>if kv.1=k then(kv.1,x)else kv) (us.map λkv=>if kv.1=k then(kv.1,v)else kv)
 | _,_,.nil=> .nil
 | _,_,.cons (k:=k') r' t=>by
  rw[bb,bb];by_cases e:k'=k
  ·rw[if_pos e,if_pos e];exact .cons r (RKs.map r t)
  ·rw[if_neg e,if_neg e];exact .cons r' (RKs.map r t)
theorem RKs.append: ∀{a b:List (z8×PV)} {c d:List (z8×V)},RKs K A H a c->RKs K A H b d->RKs K A H (a++b) (c++d)
 | _,_,_,_,.nil,h=>h
 | _,_,_,_,.cons r t,h=> .cons r (RKs.append t h)
theorem RKs.put {k:z8}{x:PV}{v:V}(r:RV K A H x v){kvs:List (z8×PV)}{us:List (z8×V)}(h:RKs K A H kvs us):RKs K A H (wH kvs k x) (wM us k v):=by
 unfold wH wM;rw[h.any]
 split
 ·exact h.map r
 ·exact h.append (.cons r .nil)
theorem qC {y:PV}{w:V}{k:z8}(e:RE K A H y w)(h:vR y=some k):w=kV k:=by
 cases e with
 | obj e=>cases h
 | val e=>cases e <;> first | cases h;rfl | cases h
end
section
variable {X:Cx} {a b e:Expr} {es:List Expr} {pos p2:Pos} {Ta Tb:zB} {TA:yD}
def pG:R3:=λx y st Q=>match x with
 | .tup xs=>match y with | .int i=>(match atI xs i with | some z=>Q z st | none=>False) | _=>False
 | .lst xs=>match y with | .int i=>(match atI xs i with | some z=>Q z st | none=>False) | _=>False
 | .str z=>match y with | .int i=>z.length<=sizeLine/\(match atI z.cps.toList i with | some c=>Q (.str ⟨#[c]⟩) st | none=>False) | _=>False
 | .dct kvs=>(match vR y with | some k=>(match zO kvs k with | some z=>Q z st | none=>False) | none=>False)
 | .obj n=>(match st[n]? with
  | some (.lst xs)=>(match y with | .int i=>(match atI xs i with | some z=>Q z st | none=>False) | _=>False)
  | some (.dct kvs)=>(match vR y with | some k=>(match zO kvs k with | some z=>Q z st | none=>False) | none=>False)
  | _=>False)
 | _=>False
theorem RVs.atI {K:Frag}{A:List Addr}{H:Hp}{xs:List PV}{vs:List V}{i:Int}{x:PV}(r:RVs K A H xs vs)(h:L2.atI xs i=some x): ∃v,L2.atI vs i=some v/\RV K A H x v:=by
 unfold L2.atI at h⊢
 rw[<- r.len];cases e:w9 xs.length i with
 | none=>rw[e]at h;cases h
 | some j=>rw[e]at h;exact r.get h
theorem zbN {k:Nat}(hr:zU k X.A):rS X (λx y H Q=> ∃a v,x= .ref a/\mO H a y (some v)/\Q v H):=by
 intro value slice pins s σ H x y vv ww Q I rx ry h hs;obtain⟨a,v,rfl,g,q⟩:=h;cases rx;have hT:=zkV I g;unfold subscriptTail;refine ah ?_;rw[getitemInPython_of_ne hT.not_modules];refine ah (sy hT PySem.F.slot_dict_getitem.lookup ?_);have fin:bf (bt X.prog X.w) X.A (subscripted slice false (.ref a) ww) (λr s₃=>bf (bt X.prog X.w) X.A (letTemporaryGo value (.ref a) r >>= λ_=>pure r) (EP X pins σ Q) X.xe s₃) X.xe s:=by
  rw[hs];exact wpAny_operating (zkP (by have:=hr.units;omega) I g ry λw' s3 I3 rw'=>ah (wpAny_letTemporaryGo (ay ⟨v,H,I3,rw',q⟩)))
 first
  | exact ay (ah fin)
  | exact ah (ay (ah fin))
  | exact ah fin
theorem zng {k:Nat}(hr:zU k X.A):rS X (xQ X.K pG):=by
 intro value slice pins s σ H v w vv ww Q I rv rw ⟨A,st,x,y,Q3,rs,ex,ey,h,k⟩ hs;unfold pG at h
 split at h
 ·-- tuples
  cases ex with | val ex=>cases ex with | tup t z r=>
   split at h
   ·cases xF ey
    split at h
    ·rename_i i q z' e
     obtain⟨v',e',r'⟩:=r.atI e;exact zlT value slice pins s σ H _ _ vv ww Q I rv rw ⟨_,_,_,_,rfl,rfl,t.sq,e',k.now rs (.val r') h⟩ hs
    ·exact h.elim
   ·exact h.elim
 ·cases ex with | val ex=>cases ex with | lst t z r=>
   split at h
   ·cases xF ey
    split at h
    ·rename_i i q z' e
     obtain⟨v',e',r'⟩:=r.atI e;exact zbO value slice pins s σ H _ _ vv ww Q I rv rw ⟨_,_,_,_,rfl,rfl,t.sq,e',k.now rs (.val r') h⟩ hs
    ·exact h.elim
   ·exact h.elim
 ·cases sS ex
  split at h
  ·cases xF ey
   obtain⟨hz,h⟩:=h
   split at h
   ·rename_i i q c e
    exact zlS value slice pins s σ H _ _ vv ww Q I rv rw ⟨_,_,_,rfl,rfl,hz,e,k.now rs (.val (.str _)) h⟩ hs
   ·exact h.elim
  ·exact h.elim
 ·cases ex with | val ex=>cases ex with | dct t z r=>
   split at h
   ·rename_i kk ek
    split at h
    ·rename_i z' e
     rcases r.val (k:=kk)with⟨x',v',e1,e2,r'⟩ | ⟨e1,e2⟩
     ·rw[e]at e1;cases e1
      exact zbN hr value slice pins s σ H _ _ vv ww Q I rv rw ⟨_,v',rfl,.inl ⟨_,kk,.inl t.1,qC ey ek,e2.symm⟩,k.now rs (.val r') h⟩ hs
     ·rw[e]at e1;cases e1
    ·exact h.elim
   ·exact h.elim
 ·cases ex with
  | val ex=>cases ex
  | obj eo=>
   split at h
   ·rename_i n xs q
    obtain⟨vs,h1,r,hzz⟩:=rs.at_ _ _ _ eo q
    split at h
    ·cases xF ey
     split at h
     ·rename_i i q z' e
      obtain⟨v',e',r'⟩:=r.atI e;exact zbO value slice pins s σ H _ _ vv ww Q I rv rw ⟨_,_,_,_,rfl,rfl,.of h1,e',k.now rs (.val r') h⟩ hs
     ·exact h.elim
    ·exact h.elim
   ·rename_i n kvs q
    obtain⟨us,h1,r,hzz⟩:=rs.at_ _ _ _ eo q
    split at h
    ·rename_i kk ek
     split at h
     ·rename_i z' e
      rcases r.val (k:=kk)with⟨x',v',e1,e2,r'⟩ | ⟨e1,e2⟩
      ·rw[e]at e1;cases e1
       exact zbN hr value slice pins s σ H _ _ vv ww Q I rv rw ⟨_,v',rfl,.inl ⟨_,kk,.inl h1,qC ey ek,e2.symm⟩,k.now rs (.val r') h⟩ hs
      ·rw[e]at e1;cases e1
     ·exact h.elim
    ·exact h.elim
   ·exact h.elim
 ·exact h.elim
def kF:PV->PV->PV->z5->(z5->Prop)->Prop:=λo i v st Q=>match o with
 | .obj n=>(match st[n]? with
  | some (.lst xs)=>(match i with | .int k=>yR v=true/\(match w9 xs.length k with | some j=>Q (st.set n (.lst (xs.set j v))) | none=>False) | _=>False)
  | some (.dct kvs)=>(match vR i with | some k=>yR v=true/\kvs.length < sizeLine/\Q (st.set n (.dct (wH kvs k v))) | none=>False)
  | _=>False)
 | _=>False
def zk7 (K:Frag):V->V->V->Hp->(Hp->Prop)->Prop:=λo i v H Q=> ∃A st x y z Q3,RS K A H st/\RE K A H x o/\RE K A H y i/\RE K A H z v/\kF x y z st Q3/\∀A' H' st',zS A H A' H'->RS K A' H' st'->Q3 st'->Q H'
theorem RVs.set {K:Frag}{A:List Addr}{H:Hp}{x:PV}{v:V}(rx:RV K A H x v): ∀{xs:List PV} {vs:List V} (j:Nat),RVs K A H xs vs->RVs K A H (xs.set j x) (vs.set j v)
 | _,_,_,.nil=> .nil
 | _,_,0,.cons _ t=> .cons rx t
 | _,_,j+1,.cons r t=> .cons r (RVs.set rx j t)
theorem zpM {k:Nat}(hr:zU k X.A):jV X (zk7 X.K):=by
 intro pins s σ H o i v ov iv u Q I ro ri rv ⟨A,st,x,y,z,Q3,rs,ex,ey,ez,h,k⟩;unfold kF at h
 split at h
 ·cases ex with
  | val ex=>cases ex
  | obj eo=>
   have hm:=cj eo
   split at h
   ·rename_i n xs q
    obtain⟨vs,h1,r,hzz⟩:=rs.at_ _ _ _ eo q
    split at h
    ·cases xF ey
     obtain⟨hz,h⟩:=h
     split at h
     ·rename_i kk q2 j e
      rw[r.len]at e;exact zpS pins s σ H _ _ _ ov iv u Q I ro ri rv ⟨_,vs,_,j,rfl,rfl,h1,e,k A _ _ (.put hm) (rs.put (q:= .lst (xs.set j z)) eo ⟨_,yS,RVs.set ((ez.rv hz).grow (.put hm)) j (r.grow (.put hm)),by rw[ci];exact hzz⟩) h⟩
     ·exact h.elim
    ·exact h.elim
   ·rename_i n kvs q
    obtain⟨us,h1,r,hzz⟩:=rs.at_ _ _ _ eo q
    split at h
    ·rename_i kk ek
     obtain⟨hz,hl,h⟩:=h;cases ro;refine zeG (by have:=hr.units;omega) I (.inl ⟨us,kk,h1,qC ey ek,by rw[<- r.len];exact hl,rfl⟩) ri rv λs' I'=>⟨_,I',k A _ _ (.put hm) (rs.put (q:= .dct (wH kvs kk z)) eo ⟨_,yS,RKs.put ((ez.rv hz).grow (.put hm)) (r.grow (.put hm)),bq (nO us kk v) (by rw[<- r.len];exact hl)⟩) h⟩
    ·exact h.elim
   ·exact h.elim
 ·exact h.elim
def gS (To Ti:zB):xL:=λv env st Q=>To env st λo st1=>Ti env st1 λi st2=>kF o i v st2 λst3=>Q env st3
theorem rM {k:Nat}(hr:zU k X.A)(ho:PE X a (zP X.K Ta))(hi:PE X b (zP X.K Tb))
  (ha: ∀v,assign (.Subscript a b pos) X.env v=(do
   let ov <- holding [v] (eval a X.env)
   let iv <- holding [v,ov] (eval b X.env)
   standAt pos
   holding [v,ov,iv] (setItem ov iv v)
   release [v,ov,iv] []):=by intro _;rfl):PG X (.Subscript a b pos) (vI X.K (gS Ta Tb)):=
 zcs (zcr ho hi (zpM hr) ha) λv σ H Q ⟨A,env,st,x,Q3,rel,e,h,k⟩=>⟨A,env,st,_,rel,h,λA1 H1 st1 o v1 g1 s1 e1 h1=>⟨A1,env,st1,_,rel.grow g1 s1,h1,λA2 H2 st2 i v2 g2 s2 e2 h2=>
  ⟨A2,st2,o,i,x,_,s2,e1.grow g2,e2,e.grow (g1.trans g2),h2,λA3 H3 st3 g3 s3 h3=>k A3 H3 σ env st3 ((g1.trans g2).trans g3) (rel.grow ((g1.trans g2).trans g3) s3) h3⟩⟩⟩
theorem yA.one {K:Frag}{A:List Addr}{H:Hp}{x:PV}{vs:List V}(h:yA K A H [x] vs): ∃v,vs= [v]/\RE K A H x v:=by
 cases h with
 | cons r t=>cases t;exact⟨_,rfl,r⟩
theorem yA.two {K:Frag}{A:List Addr}{H:Hp}{x y:PV}{vs:List V}(h:yA K A H [x,y] vs): ∃v w,vs= [v,w]/\RE K A H x v/\RE K A H y w:=by
 cases h with
 | cons r t=>obtain⟨w,rfl,e⟩:=yA.one t;exact⟨_,w,rfl,r,e⟩
def o6:PV->z5->(Nat->Prop)->Prop
 | .tup xs,_,k=>k xs.length
 | .lst xs,_,k=>k xs.length
 | .dct xs,_,k=>False
 | .str z,_,k=>z.length<=sizeLine/\k z.length
 | .obj i,st,k=>match st[i]? with | some (.lst xs)=>k xs.length | some (.dct kvs)=>k kvs.length | _=>False
 | _,_,_=>False
def gP:zV:=λxs st Q=>match xs with | [x]=>o6 x st λn=>Q (.int n) st | _=>False
theorem yM:xO X (.builtin "len") (vV X.K gP):=by
 intro pins s σ H vs us Q I rv ⟨A,st,xs,Q3,rs,ex,h,k⟩;unfold gP at h
 split at h
 ·rename_i x
  obtain⟨v,rfl,ex1⟩:=yA.one ex;have fin: ∀{n:Nat},Q3 (.int n) st->Q (.int n) H:=λq=>k.now rs (.val (.int _)) q;cases ex1 with
  | obj eo=>
   dsimp only[o6]at h
   split at h
   ·rename_i q
    obtain⟨vs,h1,r,hzz⟩:=rs.at_ _ _ _ eo q;exact iD pins s σ H _ us Q I rv ⟨_,_,rfl,.inl ⟨_,.of h1,rfl⟩,by rw[<- r.len];exact fin h⟩
   ·rename_i q
    obtain⟨vs,h1,r,hzz⟩:=rs.at_ _ _ _ eo q;exact zk2 pins s σ H _ us Q I rv ⟨_,_,rfl,h1,by rw[<- r.len];exact fin h⟩
   ·exact h.elim
  | val e=>
   cases e with
   | str z=>exact iD pins s σ H _ us Q I rv ⟨_,_,rfl,⟨h.1,rfl⟩,fin h.2⟩
   | tup t z r=>exact iD pins s σ H _ us Q I rv ⟨_,_,rfl,.inr ⟨_,t.sq,rfl⟩,by rw[<- r.len];exact fin h⟩
   | lst t z r=>exact iD pins s σ H _ us Q I rv ⟨_,_,rfl,.inl ⟨_,t.sq,rfl⟩,by rw[<- r.len];exact fin h⟩
   | _=>exact False.elim h
 ·exact h.elim
def kI:zV:=λxs st Q=>match xs with
 | [.lst ys]=>Q (.tup ys) st
 | [.tup ys]=>Q (.tup ys) st
 | [.obj i]=>(match st[i]? with | some (.lst ys)=>Q (.tup ys) st | some (.dct kvs)=>Q (.tup (kvs.map λq=>match q.1 with | .inl i=> .int i | .inr z=> .str z)) st | _=>False)
 | _=>False
theorem zg5 {K:Frag}{A:List Addr}{H:Hp} : ∀{kvs:List (z8×PV)} {us:List (z8×V)},RKs K A H kvs us->RVs K A H (kvs.map λq=>match q.1 with | .inl i=> .int i | .inr z=> .str z) (us.map λq=>kV q.1)
 | _,_,.nil=> .nil
 | _,_,.cons (k:=k) r t=>by
  rw[bb,bb];refine .cons ?_ (zg5 t);cases k with
  | inl i=>exact .int i
  | inr z=>exact .str z
theorem p9 (hc:X.calm=true):xO X (.type "tuple") (vV X.K kI):=by
 intro pins s σ H vs us Q I rv ⟨A,st,xs,Q3,rs,ex,h,k⟩;unfold kI at h
 split at h
 ·cases ex with | cons ex et=>cases et;cases ex with | val e=>cases e with | lst t z r=>
   exact cM pins s σ H _ us Q I rv ⟨_,_,rfl,.inl ⟨t.sq,k.tup rs r z h⟩⟩
 ·cases ex with | cons ex et=>cases et;cases ex with | val e=>cases e with | tup t z r=>
   exact cM pins s σ H _ us Q I rv ⟨_,_,rfl,.inr ⟨t.sq,k.now rs (.val (.tup t z r)) h⟩⟩
 ·cases ex with | cons ex et=>cases et;cases ex with
  | val e=>cases e
  | obj eo=>
   split at h
   ·rename_i q
    obtain⟨vs,h1,r,hzz⟩:=rs.at_ _ _ _ eo q;have hz:=hzz;exact cM pins s σ H _ us Q I rv ⟨_,_,rfl,.inl ⟨.of h1,k.tup rs r hz h⟩⟩
   ·rename_i q
    obtain⟨vs,h1,r,hzz⟩:=rs.at_ _ _ _ eo q;have hz:=hzz;exact zk5 hc pins s σ H _ us Q I rv ⟨_,_,rfl,h1,k.tup rs (zg5 r) (by rw[aa];exact hz) h⟩
   ·exact h.elim
 ·exact h.elim
def w5 (xs:List PV)(lo hi:Option Int):List PV:=(xs.drop (HT.sIx xs.length 0 lo)).take (HT.sIx xs.length xs.length hi - HT.sIx xs.length 0 lo)
def pH:PV->Option Int->Option Int->z5->K3->Prop:=λx lo hi st Q=>match x with
 | .tup xs=>Q (.tup (w5 xs lo hi)) st
 | .lst xs=>Q (.lst (w5 xs lo hi)) st
 | .str z=>z.length<=sizeLine/\((Txt.slice z lo hi).length<=z.length->Q (.str (Txt.slice z lo hi)) st)
 | _=>False
def zk8 (K:Frag):V->Option Int->Option Int->Hp->VK->Prop:=λv lo hi H Q=> ∃A st x Q3,RS K A H st/\RE K A H x v/\pH x lo hi st Q3/\xP K A H Q3 Q
theorem RVs.cut {K:Frag}{A:List Addr}{H:Hp}{xs:List PV}{vs:List V}(r:RVs K A H xs vs)(lo hi:Option Int):RVs K A H (w5 xs lo hi) (qT vs lo hi):=by
 unfold w5 qT;rw[r.len];exact(r.drop _).take _
theorem znm:mW X (zk8 X.K):=by
 intro pins s σ H v vv vl vu lo hi sl Q I rx hs pl pu ⟨A,st,x,Q3,rs,ex,h,k⟩;unfold pH at h
 split at h
 ·cases ex with | val e=>cases e with | tup t z r=>
   rename_i xs a vs;by_cases hw:HT.sIx vs.length 0 lo=0/\HT.sIx vs.length vs.length hi=vs.length
   ·cases rx
    obtain⟨its,r',ht,hz⟩:=I.tuple t.sq;refine⟨"tuple",_,df.lookup,ht.typeIs,?_⟩;have hl:its.toArray.size=vs.length:=by rw[bo,<- r'.length]
    refine zl1 ht hs pl pu (by rw[hl];exact hw) ⟨.ref a,H,I,rfl,k.now rs (.val (.tup t z r)) ?_⟩;rw[<- r.len]at hw;have e:w5 xs lo hi=xs:=by
     unfold w5;rw[hw.1,hw.2,xw,wc,cc (ak _)]
    rw[e]at h;exact h
   ·refine zpY pins s σ H _ vv vl vu lo hi sl Q I rx hs pl pu ⟨_,_,rfl,t.sq,?_,k.tup rs (r.cut lo hi) (bq (iI _ lo hi) z) h⟩
    exact hw
 ·cases ex with | val e=>cases e with | lst t z r=>
   exact zpW pins s σ H _ vv vl vu lo hi sl Q I rx hs pl pu ⟨_,_,rfl,t.sq,k.lst rs (r.cut lo hi) (bq (iI _ lo hi) z) h⟩
 ·cases sS ex
  exact zpX pins s σ H _ vv vl vu lo hi sl Q I rx hs pl pu ⟨_,rfl,h.1,λhl=>k.now rs (.val (.str _)) (h.2 hl)⟩
 ·exact h.elim
abbrev sE:=zG->z5->(Option Int->z5->Prop)->Prop
def nF (K:Frag)(T:sE):TO:=λσ H Q=> ∃A env st Q3,yU K A H σ env st/\T env st Q3/\∀A' H' st' i,zS A H A' H'->RS K A' H' st'->Q3 i st'->Q i H'
def zgR:sE:=λ_ st Q=>Q none st
def zgS (T:zB):sE:=λenv st Q=>T env st λx st1=>match x with | .int i=>Q (some i) st1 | _=>False
theorem zh0 {o:Option Expr}{t t':TO}(h:L2.PO X o t)(w: ∀σ H Q,t' σ H Q->t σ H Q):L2.PO X o t':=⟨λpins s σ H Q I q=>h pins s σ H Q I (w σ H Q q)⟩
theorem wC:L2.PO X none (nF X.K zgR):=zh0 zoK λσ H Q ⟨A,env,st,Q3,rel,h,k⟩=>k A H st none (.refl _ _) rel.rs h
theorem xY (h:PE X e (zP X.K Ta)):L2.PO X (some e) (nF X.K (zgS Ta)):=by
 refine zh0 (zoL h) λσ H Q ⟨A,env,st,Q3,rel,h,k⟩=>⟨A,env,st,_,rel,h,λA1 H1 st1 x v g1 s1 e1 h1=> ?_⟩;cases x with
 | int i=>cases xF e1;exact⟨i,rfl,k A1 H1 st1 _ g1 s1 h1⟩
 | _=>exact False.elim h1
def vSl (T:zB)(Tl Th:sE):zB:=λenv st Q=>T env st λx st1=>Tl env st1 λl st2=>Th env st2 λu st3=>pH x l u st3 Q
theorem wB {lo hi:Option Expr}{Tl Th:sE}(he:PE X e (zP X.K Ta))(hl:L2.PO X lo (nF X.K Tl))(hu:L2.PO X hi (nF X.K Th)):PE X (.Subscript e (.Slice lo hi none p2) pos) (zP X.K (vSl Ta Tl Th)):=
 xU (zox znm he hl hu) λσ H Q ⟨A,env,st,Q3,rel,h,k⟩=>⟨A,env,st,_,rel,h,λA1 H1 st1 x v g1 s1 e1 h1=>⟨A1,env,st1,_,rel.grow g1 s1,h1,λA2 H2 st2 l g2 s2 h2=>⟨A2,env,st2,_,(rel.grow g1 s1).grow g2 s2,h2,λA3 H3 st3 u g3 s3 h3=>
  ⟨A3,st3,x,Q3,s3,e1.grow (g2.trans g3),h3,k.after (g1.trans (g2.trans g3))⟩⟩⟩⟩
end
set_option Elab.async false
set_option linter.all false
set_option maxRecDepth 100000
set_option maxHeartbeats 4000000
section
variable {X:Cx} {tg iter a b e:Expr} {es:List Expr} {pos p:Pos} {Ta:zB} {TA:yD}
def zl7 (K:Frag)(tl:TE):TI:=λσ H R=>tl σ H λx H1=>(∃a,x= .ref a/\(∃xs,yE K H1 a xs)/\R (jQ K a) H1)∨(∃a,x= .ref a/\(∃xs,x5 K H1 a xs)/\R (dE K a) H1)∨∃z,x= .str z/\R (jR z) H1
theorem zo9 {tl:TE}(hl:PE X iter tl):PI X tg iter (zl7 X.K tl):=by
 refine⟨λpins s σ H R I h=> ?_⟩;refine zR (hl pins s σ H _ I h) λv s1 ⟨x,H1,I1,r1,q1⟩=> ?_;rcases q1 with⟨a,rfl,⟨xs,hq⟩,q⟩ | ⟨a,rfl,⟨xs,hq⟩,q⟩ | ⟨x,rfl,q⟩
 ·cases r1
  obtain⟨its,rv,p,hz⟩:=I1.list hq;refine nk p.isList ?_;refine⟨s1.heap.objs.size,[s1.heap.objs.size],_,_,H1,rfl,I1.kept (t':=s1.toks) λb o e=>ar _ e,zrc a _,⟨_,cb _ rfl,rfl,rfl⟩,λb hb=> ?_,q⟩;have e:b=s1.heap.objs.size:=by simpa using hb
  subst e;exact I1.fpOk (ak _) (I1.hok.fresh (ak _))
 ·cases r1
  obtain⟨its,rv,p,hz⟩:=I1.tuple hq;refine pe (show s1.heap.IsTuple a its.toArray from p) ?_;refine⟨s1.heap.objs.size,[s1.heap.objs.size],_,_,H1,rfl,I1.kept (t':=s1.toks) λb o e=>ar _ e,zre a _,⟨_,cb _ rfl,rfl,rfl⟩,λb hb=> ?_,q⟩;have e:b=s1.heap.objs.size:=by simpa using hb
  subst e;exact I1.fpOk (ak _) (I1.hok.fresh (ak _))
 ·obtain⟨t,rfl⟩:=r1
  have fin: ∀(n:String) (o:Obj),rV X.prog X.w X.K tg (jR x) [s1.heap.objs.size] s1.heap.objs.size (λi h=>h.IsStrIter s1.heap.objs.size n x t i)->(s1.heap.push o).IsStrIter s1.heap.objs.size n x t 0->jU X pins σ tg R (.ref s1.heap.objs.size) {s1 with heap:=s1.heap.push o} :=λn o T st=>
   ⟨s1.heap.objs.size,[s1.heap.objs.size],_,_,H1,rfl,I1.kept (t':=s1.toks) λb u e=>ar _ e,T,st,λb hb=>by
    have e:b=s1.heap.objs.size:=by simpa using hb
    subst e;exact I1.fpOk (ak _) (I1.hok.fresh (ak _)),q⟩
  cases ha:x.cps.all (· < 128)
  ·exact wpAny_pyIter_wide ha (fin "str_iterator" _ (zi5 _ x t (by decide) (λA hA=>Walks.strWide hA _ x t) λ_ _ _ _ _ st hQ=>wpAny_pyIter_striter_wide st hQ) ⟨_,cb _ rfl,rfl,rfl⟩)
  ·exact wpAny_pyIter_ascii ha (fin "str_ascii_iterator" _ (zi5 _ x t (by decide) (λA hA=>Walks.strAscii hA _ x t) λ_ _ _ _ _ st hQ=>wpAny_pyIter_striter_ascii st hQ) ⟨_,cb _ rfl,rfl,rfl⟩)
def pM (z:Str):List PV:=z.cps.toList.map λc=> .str ⟨#[c]⟩
theorem zlP {K:Frag}{A:List Addr}{H:Hp}{z:Str}(hz:z.length<=sizeLine):sB K A H none (jR z) (pM z) where
 go:=λi A' H' st g s _ hi=>by
  unfold pM at hi;have hi':i < z.cps.size:=by simpa using hi
  exact hi'
 yld:=λi x A' H' st v H2 hx g s _ y=>by
  obtain⟨rfl,c,hc,rfl⟩:=y;unfold pM at hx;rw[aw]at hx;have hc':z.cps.toList[i]?=some c:=by simpa using hc
  rw[hc']at hx;cases hx;exact⟨.refl _ _,s,.val (.str _)⟩
 stop:=λA' H' st g s _=>by
  unfold pM;show _=z.cps.size;simp
 small:=by
  unfold pM;rw[aa];have:z.cps.toList.length=z.length:=by simp[Str.length]
  omega
def zgm (T:zB):wX:=λenv st Q=>T env st λx st1=>match x with
 | .lst xs=>Q none xs st1
 | .tup xs=>Q none xs st1
 | .str z=>z.length<=sizeLine/\Q none (pM z) st1
 | .obj i=>(match st1[i]? with | some (.lst xs)=>Q (some (i,.lst xs)) xs st1 | _=>False)
 | _=>False
theorem uU (h:PE X iter (zP X.K Ta)):PI X tg iter (t6 X.K (zgm Ta)):=by
 refine nV (zo9 h) λσ H R ⟨A,env,st,Q3,rel,h,k⟩=>⟨A,env,st,_,rel,h,λA1 H1 st1 x v g1 s1 e1 h1=> ?_⟩;cases e1 with
 | obj eo=>
  dsimp only at h1
  split at h1
  ·rename_i q
   obtain⟨vs,h2,r,hz⟩:=s1.at_ _ _ _ eo q;exact .inl ⟨_,rfl,⟨_,.of h2⟩,k A1 H1 st1 _ _ _ g1 s1 (zlO eo (by rw[r.len];exact hz)) h1⟩
  ·exact h1.elim
 | val e=>
  cases e with
  | tup t z r=>exact .inr (.inl ⟨_,rfl,⟨_,t.sq⟩,k A1 H1 st1 none _ _ g1 s1 (zlQ t z r) h1⟩)
  | lst t z r=>exact .inl ⟨_,rfl,⟨_,t.sq⟩,k A1 H1 st1 none _ _ g1 s1 (zlN t z r) h1⟩
  | str z=>exact .inr (.inr ⟨z,rfl,k A1 H1 st1 none _ _ g1 s1 (zlP h1.1) h1.2⟩)
  | _=>exact False.elim h1
theorem u7 (hg:Gl X "range")(hm:X.mg "range" =none)(ha:PA X [a] (wY X.K TA))(hs:starEach [a] X.env= [(false,eval a X.env)]:=by rfl):PI X tg (.Call (.Name "range" p) [a] [] pos) (t6 X.K (zgn TA)):=by
 refine nV (zoB hg hm ha hs) λσ H R ⟨A,env,st,Q3,rel,h,k⟩=>⟨A,env,st,_,rel,h,λA1 H1 st1 xs vs g1 s1 e1 h1=> ?_⟩
 split at h1
 ·rename_i j
  obtain⟨v,rfl,e⟩:=yA.one e1;cases xF e;have hb:(2000000:Nat)<=sizeLine:=by rw[cp];decide
  exact⟨j,rfl,by omega,by omega,k A1 H1 st1 none _ _ g1 s1 (zgx (by omega)) h1.2⟩
 ·exact h1.elim
theorem zpm (hg:Gl X "range")(hm:X.mg "range" =none)(ha:PA X [a,b] (wY X.K TA))(hs:starEach [a,b] X.env= [(false,eval a X.env),(false,eval b X.env)]:=by rfl)(hs2:starEach [b] X.env= [(false,eval b X.env)]:=by rfl):
  PI X tg (.Call (.Name "range" p) [a,b] [] pos) (t6 X.K (zgo TA)):=by
 refine nV (zoC hg hm ha hs hs2) λσ H R ⟨A,env,st,Q3,rel,h,k⟩=>⟨A,env,st,_,rel,h,λA1 H1 st1 xs vs g1 s1 e1 h1=> ?_⟩
 split at h1
 ·rename_i i j
  obtain⟨v,v',rfl,e,e2⟩:=yA.two e1;cases xF e;cases xF e2;have hb:(2000000:Nat)<=sizeLine:=by rw[cp];decide
  exact⟨i,j,rfl,by omega,k A1 H1 st1 none _ _ g1 s1 (zgx (by omega)) h1.2⟩
 ·exact h1.elim
end
def pO (N:List Str)(xs:List PV):zG:=xs.map some++List.replicate (N.length - xs.length) none
def xA (m:Nat)(Q:K3):K3:=λr st=>match r with
 | .obj i=>if i < m then Q (.obj i) (st.take m)else(match st[i]? with | some (.lst xs)=>Q (.lst xs) (st.take m) | some (.dct xs)=>Q (.dct xs) (st.take m) | some (.itb xs)=>Q (.itb xs) (st.take m) | _=>False)
 | r=>Q r (st.take m)
section
variable {K:Frag} {A B:List Addr} {H H':Hp}
theorem yU.begin {st:z5}{xs:List PV}{vs:List V}{N:List Str}(s:RS K A H st)(e:yA K A H xs vs):yU K A H (L2.start N vs) (pO N xs) st:=by
 have hl:xs.length=vs.length:=ib e;refine⟨s,by unfold L2.start pO;rw[af,af,aa,aa,dq,dq,hl],λi x h=> ?_⟩;unfold pO at h;by_cases hi:i < xs.length
 ·rw[ax (by rw[aa];exact hi),aw]at h
  cases ex:xs[i]? with
  | none=>rw[ex]at h;cases h
  | some y=>
   rw[ex]at h;cases h;have hv:i < vs.length:=by omega
   refine⟨vs[i],?_,zhq e ex (am hv)⟩;unfold L2.start;rw[ax (by rw[aa];exact hv),aw,am hv];rfl
 ·rw[aj (by rw[aa];omega),gk]at h
  split at h <;> cases h
theorem sZ.less {A A':List Addr}(h: ∀b,b∈A'->b∈A){a:Addr}{vs:List V}(t:sZ K A H a vs):sZ K A' H a vs:=t.imp (λt=>⟨t.1,λm=>t.2 (h _ m)⟩) id
theorem sC.less {A A':List Addr}(h: ∀b,b∈A'->b∈A){a:Addr}{vs:List V}(t:sC K A H a vs):sC K A' H a vs:=t.imp (λt=>⟨t.1,λm=>t.2 (h _ m)⟩) id
mutual
theorem RV.less {A A':List Addr}(h: ∀b,b∈A'->b∈A){x:PV}{v:V} :RV K A H x v->RV K A' H x v
 | .non=> .non
 | .bl b=> .bl b
 | .int i=> .int i
 | .str x=> .str x
 | .ty n=> .ty n
 | .tup t z r=> .tup (t.less h) z (RVs.less h r)
 | .lst t z r=> .lst (t.less h) z (RVs.less h r)
 | .dct t z r=> .dct ⟨t.1,λm=>t.2 (h _ m)⟩ z (RKs.less h r)
 | .itb e n=> .itb e λm=>n (h _ m)
 | .clo e=> .clo ⟨⟨e.fn.1,λm=>e.fn.2 (h _ m)⟩,⟨e.cd.1,λm=>e.cd.2 (h _ m)⟩,⟨e.cl.1,λm=>e.cl.2 (h _ m)⟩,⟨e.dt.1,λm=>e.dt.2 (h _ m)⟩⟩
theorem RVs.less {A A':List Addr}(h: ∀b,b∈A'->b∈A){xs:List PV}{vs:List V} :RVs K A H xs vs->RVs K A' H xs vs
 | .nil=> .nil
 | .cons r t=> .cons (RV.less h r) (RVs.less h t)
theorem RKs.less {A A':List Addr}(h: ∀b,b∈A'->b∈A){xs:List (z8×PV)}{vs:List (z8×V)} :RKs K A H xs vs->RKs K A' H xs vs
 | .nil=> .nil
 | .cons r t=> .cons (RV.less h r) (RKs.less h t)
end
def jX (A A':List Addr)(a:Addr):Prop:= ∀(i j:Nat) (p:Addr),A[i]?=some a->j < i->A[j]?=some p->∃i',A'[i']?=some a/\j < i'/\A'[j]?=some p
theorem RR.less {A A':List Addr}(h: ∀b,b∈A'->b∈A){a:Addr}(hp:jX A A' a){x:PV}{v:V}(r:RR K A H a x v):RR K A' H a x v:=by
 cases r with
 | val r=>exact .val (r.less h)
 | obj e l e'=>obtain⟨_,x,y,z⟩:=hp _ _ _ e l e';exact .obj x y z
theorem xT.less {A A':List Addr}(h: ∀b,b∈A'->b∈A){a:Addr}(hp:jX A A' a){xs:List (z8×PV)}{vs:List (z8×V)} :xT K A H a xs vs->xT K A' H a xs vs
 | .nil=> .nil
 | .cons r t=> .cons ⟨r.1,r.2.less h hp⟩ (xT.less h hp t)
theorem wW.less {A A':List Addr}(h: ∀b,b∈A'->b∈A){a:Addr}(hp:jX A A' a){xs:List PV}{vs:List V} :wW K A H a xs vs->wW K A' H a xs vs
 | .nil=> .nil
 | .cons r t=> .cons (r.less h hp) (wW.less h hp t)
theorem OA.less {A A':List Addr}(h: ∀b,b∈A'->b∈A){a:Addr}{o:PO}(hp:jX A A' a)(x:OA K A H a o):OA K A' H a o:=by
 cases o with
 | lst xs=>obtain⟨vs,e,r,z⟩:=x;exact⟨vs,e,r.less h,z⟩
 | dct xs=>obtain⟨vs,e,r,z⟩:=x;exact⟨vs,e,r.less h,z⟩
 | tbl T pos q=>obtain⟨ea,ps,e,r⟩:=x;exact⟨ea,ps,e,r.imp id λ⟨c',e1,e2,e3⟩=>⟨c',e1,e2,λm=>e3 (h _ m)⟩⟩
 | itb kvs=>exact x
 | rcd xs=>obtain⟨vs,e,r,z⟩:=x;exact⟨vs,e,xT.less h hp r,z⟩
 | fd ob xs=>obtain⟨vs,e,r,z⟩:=x;exact⟨vs,e,r.less h,z⟩
 | ros xs=>obtain⟨vs,e,r,z⟩:=x;exact⟨vs,e,wW.less h hp r,z⟩
theorem qZ {α:Type}{l:List α}{m:Nat} : ∀b,b∈l.take m->b∈l:=λb h=>mf h
theorem RS.take {st:z5}(s:RS K A H st)(m:Nat):RS K (A.take m) H (st.take m):=by
 refine⟨List.Nodup.sublist (jy _ _) s.nd,by rw[cf,cf,s.len],λi a o h1 h2=> ?_⟩;have hi:i < m:=by
  have:=(ad.mp h1).1;rw[cf]at this;omega
 rw[dw hi]at h1 h2;refine(s.at_ i a o h1 h2).less qZ λi' j p e l e'=> ?_;have hii:i'=i:=(da (ad.mp e).1 s.nd).mp (e.trans h1.symm);subst hii;exact⟨i',by rw[dw hi];exact e,l,by rw[dw (by omega)];exact e'⟩
theorem zS.take {B':List Addr}(g:zS A H B' H'){m:Nat}(h:A.length<=m):zS A H (B'.take m) H':=by
 obtain⟨⟨C,rfl,hC⟩,k,l⟩:=g;refine⟨⟨C.take (m - A.length),?_,λb hb=>hC b (mf hb)⟩,k,l⟩;rw[List.take_append,cc h]
theorem xP.exit {Q3:K3}{Q:VK}{m:Nat}(k:xP K A H Q3 Q)(hm:A.length<=m):xP K A H (xA m Q3) Q:=by
 intro A' H' st' r v g s e q;have g':=g.take hm;have s':=s.take m;cases e with
 | val e=>
  refine k _ H' _ r v g' s' (.val (e.less qZ)) ?_;cases r with
  | obj i=>cases e
  | _=>exact q
 | obj eo=>
  rename_i i a;unfold xA at q;dsimp only at q;by_cases hi:i < m
  ·rw[if_pos hi]at q
   exact k _ H' _ _ _ g' s' (.obj (by rw[dw hi];exact eo)) q
  ·rw[if_neg hi]at q
   have na:a∉A'.take m:=λhm'=>by
    obtain⟨j,hj,e⟩:=kl hm';rw[cf]at hj;have e2:A'[j]?=some a:=by
     rw[<- dw (show j < m by omega),am (by rw[cf];omega),e]
    have:=(da (ad.mp e2).1 s.nd).mp (e2.trans eo.symm);omega
   split at q
   ·rename_i xs e
    obtain⟨vs,h1,r,z⟩:=s.at_ _ _ _ eo e;exact k _ H' _ _ _ g' s' (.val (.lst (.inl ⟨.inl h1,na⟩) z (r.less qZ))) q
   ·rename_i xs e
    obtain⟨vs,h1,r,z⟩:=s.at_ _ _ _ eo e;exact k _ H' _ _ _ g' s' (.val (.dct ⟨h1,na⟩ z (r.less qZ))) q
   ·rename_i xs e
    exact k _ H' _ _ _ g' s' (.val (.itb (s.at_ _ _ _ eo e) na)) q
   ·exact q.elim
end
theorem xH {P:Program}{w:World}{K:Frag}{mg:Str->Option Value}{base:Heap}{x qual:Str}{st:Stmt}{f:Addr}{fd:FuncData}{N ps:List Str}{k:Nat}{S:zV}(keep:Nat)(F:yP K x qual st f fd)(sc:yW N ps (y4 st))(len: ∀xs st Q,S xs st Q->xs.length=ps.length)
  (hB: ∃T:yV,(∀(cdv:Value) (A:Around) (outer:List Env) (s:Shared) (H:Hp) (E:XK),zU k (A.deeper (envOfC qual (y4 st) s.heap.objs.size f cdv))->xB (o3 yH P w K mg base N qual (y4 st) f cdv A outer s H E).nox (qU st) (yY K T))/\
   ∀xs sto Q,S xs sto Q->T {nx:=λ_ s'=>xA (sto.length+keep) Q .non s',rt:=xA (sto.length+keep) Q} (pO N xs) sto):yG P w K mg base yH (k+1) f fd ps (yC K S):=by
 obtain⟨T,hT,hb⟩:=hB;refine F.ok sc (λvs H Q E h=> ?_) (λcdv A outer s H vs Q E hr h=>⟨_,hT cdv A outer s H E hr,?_⟩)
 ·obtain⟨A,sto,xs,Q3,rs,ex,hS,_⟩:=h
  rw[<- len xs sto Q3 hS];exact(ib ex).symm
 ·obtain⟨A,sto,xs,Q3,rs,ex,hS,k⟩:=h
  have hm:A.length<=sto.length+keep:=by rw[rs.len];omega
  refine⟨A,pO N xs,sto,_,yU.begin rs ex,hb xs sto Q3 hS,⟨λA' H' σ' env' st' g r q=> ?_,k.exit hm,λA' H' σ' env' st' g r q=>q.elim,λA' H' σ' env' st' g r q=>q.elim⟩⟩;exact k.exit hm A' H' st' .non .non g r.rs (.val .non) q
section
variable {X:Cx} {scope:Scope} {N' own:List Str} {Ti:wX} {Tg:xL} {tt:yT} {te:zB}
theorem nY {elt target iter:Expr}{ifs:List Expr}{pos spos pos':Pos}{i0:Nat}{x:Str}(S:sW X scope N' own)(hN:X.N.Nodup)(hi0:X.N[i0]?=some x)(hx:uN X.env.scope x)(hc:X.calm=true)(hi:PI X target iter (t6 X.K Ti))
  (hg: ∀C s H fp pins,PG (xM X scope (N'++own) C s H fp pins) target (vI X.K Tg)) (ht: ∀C s H fp pins,PF (xM X scope (N'++own) C s H fp pins) ifs (yZ X.K tt)) (he: ∀C s H fp pins,PE (xM X scope (N'++own) C s H fp pins) elt (zP X.K te))
  (hs: ∀x,foldedSetIterable iter X.env x=pure x:=by intro _;rfl) (hsw:swapsWith (.ListComp elt [⟨target,iter,ifs,0⟩] scope pos) (some (.Name x pos')) spos.line X.env=pure true:=by rfl)
  (hf:X.fn x=true∨X.env.scope.names.lookup x=some .local:=by first | exact .inl rfl | exact .inr rfl | assumption):
  PS X (.Assign [.Name x pos'] (.ListComp elt [⟨target,iter,ifs,0⟩] scope pos) spos) (yY X.K (pQ (j9 own.length Ti Tg tt te) (gN i0))):=by
 refine tZ (zh4 hN hi0 hx S hc hi hg ht he hs hsw hf) λD σ H h=> ?_;obtain⟨A,env,st,Q3,rel,h,k⟩:=l8 h;exact cP ⟨A,env,st,Q3,rel,h,λA1 H1 st1 r v g s e q=>lA (k A1 H1 st1 r v g s e q)⟩
end
set_option Elab.async false
set_option linter.all false
set_option maxRecDepth 100000
set_option maxHeartbeats 4000000
def o5 (a b c d e:Bool)(n:String):Option Bool:=if n= "int" then some a else if n= "bool" then some b else if n= "str" then some c else if n= "tuple" then some d else if n= "list" then some e else none
def w6:PV->String->Option Bool
 | .bl _,n=>o5 true true false false false n
 | .int _,n=>o5 true false false false false n
 | .str _,n=>o5 false false true false false n
 | .tup _,n=>o5 false false false true false n
 | .lst _,n=>o5 false false false false true n
 | _,_=>none
theorem lR {a b c d e r:Bool}{n:String}(h:o5 a b c d e n=some r):(n= "int" /\r=a)∨(n= "bool" /\r=b)∨(n= "str" /\r=c)∨(n= "tuple" /\r=d)∨(n= "list" /\r=e):=by
 unfold o5 at h;by_cases h1:n= "int"
 ·rw[if_pos h1]at h;cases h;exact .inl ⟨h1,rfl⟩
 rw[if_neg h1]at h;by_cases h2:n= "bool"
 ·rw[if_pos h2]at h;cases h;exact .inr (.inl ⟨h2,rfl⟩)
 rw[if_neg h2]at h;by_cases h3:n= "str"
 ·rw[if_pos h3]at h;cases h;exact .inr (.inr (.inl ⟨h3,rfl⟩))
 rw[if_neg h3]at h;by_cases h4:n= "tuple"
 ·rw[if_pos h4]at h;cases h;exact .inr (.inr (.inr (.inl ⟨h4,rfl⟩)))
 rw[if_neg h4]at h;by_cases h5:n= "list"
 ·rw[if_pos h5]at h;cases h;exact .inr (.inr (.inr (.inr ⟨h5,rfl⟩)))
 rw[if_neg h5]at h;cases h
def gM:zV:=λxs st Q=>match xs with | [x,.ty n]=>(match w6 x n with | some b=>Q (.bl b) st | none=>False) | _=>False
section
variable {X:Cx} {pins:List (Addr×Obj)} {σ:St} {H:Hp} {s:Shared} {A:List Addr}
theorem zlL {Q:VK}{x:PV}{n:String}{b:Bool}{vv:Value}(I:z6 X pins σ H s)(kx:Kd s x vv)(h:w6 x n=some b)(q:Q (.bl b) H):bf (bt X.prog X.w) X.A (call (.builtin "isinstance") [vv,.type n]) (EP X pins σ Q) X.xe s:=by
 cases kx with
 | bl=>
  rcases lR h with⟨rfl,rfl⟩ | ⟨rfl,rfl⟩ | ⟨rfl,rfl⟩ | ⟨rfl,rfl⟩ | ⟨rfl,rfl⟩
  ·exact IsiPair.bool_int ⟨.bl true,H,I,rfl,q⟩
  ·exact IsiPair.bool_bool ⟨.bl true,H,I,rfl,q⟩
  ·exact IsiPair.bool_str ⟨.bl false,H,I.tok _,rfl,q⟩
  ·exact IsiPair.bool_tuple ⟨.bl false,H,I.tok _,rfl,q⟩
  ·exact IsiPair.bool_list ⟨.bl false,H,I.tok _,rfl,q⟩
 | int=>
  rcases lR h with⟨rfl,rfl⟩ | ⟨rfl,rfl⟩ | ⟨rfl,rfl⟩ | ⟨rfl,rfl⟩ | ⟨rfl,rfl⟩
  ·exact IsiPair.int_int ⟨.bl true,H,I,rfl,q⟩
  ·exact IsiPair.int_bool ⟨.bl false,H,I.tok _,rfl,q⟩
  ·exact IsiPair.int_str ⟨.bl false,H,I.tok _,rfl,q⟩
  ·exact IsiPair.int_tuple ⟨.bl false,H,I.tok _,rfl,q⟩
  ·exact IsiPair.int_list ⟨.bl false,H,I.tok _,rfl,q⟩
 | str=>
  rcases lR h with⟨rfl,rfl⟩ | ⟨rfl,rfl⟩ | ⟨rfl,rfl⟩ | ⟨rfl,rfl⟩ | ⟨rfl,rfl⟩
  ·exact IsiPair.str_int ⟨.bl false,H,I.tok _,rfl,q⟩
  ·exact IsiPair.str_bool ⟨.bl false,H,I.tok _,rfl,q⟩
  ·exact IsiPair.str_str ⟨.bl true,H,I,rfl,q⟩
  ·exact IsiPair.str_tuple ⟨.bl false,H,I.tok _,rfl,q⟩
  ·exact IsiPair.str_list ⟨.bl false,H,I.tok _,rfl,q⟩
 | tup p=>
  rcases lR h with⟨rfl,rfl⟩ | ⟨rfl,rfl⟩ | ⟨rfl,rfl⟩ | ⟨rfl,rfl⟩ | ⟨rfl,rfl⟩
  ·obtain⟨o,e,c,_⟩:=id p;exact IsiPair.tuple_int e c ⟨.bl false,H,I.tok _,rfl,q⟩
  ·obtain⟨o,e,c,_⟩:=id p;exact IsiPair.tuple_bool e c ⟨.bl false,H,I.tok _,rfl,q⟩
  ·obtain⟨o,e,c,_⟩:=id p;exact IsiPair.tuple_str e c ⟨.bl false,H,I.tok _,rfl,q⟩
  ·obtain⟨o,e,c,_⟩:=id p;exact IsiPair.tuple_tuple e c ⟨.bl true,H,I,rfl,q⟩
  ·obtain⟨o,e,c,_⟩:=id p;exact IsiPair.tuple_list e c ⟨.bl false,H,I.tok _,rfl,q⟩
 | lst p=>
  rcases lR h with⟨rfl,rfl⟩ | ⟨rfl,rfl⟩ | ⟨rfl,rfl⟩ | ⟨rfl,rfl⟩ | ⟨rfl,rfl⟩
  ·obtain⟨o,e,c,_⟩:=id p;exact IsiPair.list_int e c ⟨.bl false,H,I.tok _,rfl,q⟩
  ·obtain⟨o,e,c,_⟩:=id p;exact IsiPair.list_bool e c ⟨.bl false,H,I.tok _,rfl,q⟩
  ·obtain⟨o,e,c,_⟩:=id p;exact IsiPair.list_str e c ⟨.bl false,H,I.tok _,rfl,q⟩
  ·obtain⟨o,e,c,_⟩:=id p;exact IsiPair.list_tuple e c ⟨.bl false,H,I.tok _,rfl,q⟩
  ·obtain⟨o,e,c,_⟩:=id p;exact IsiPair.list_list e c ⟨.bl true,H,I,rfl,q⟩
 | _=>cases h
theorem k8:xO X (.builtin "isinstance") (vV X.K gM):=by
 intro pins s σ H vs us Q I rv ⟨A,st,xs,Q3,rs,ex,h,k⟩;unfold gM at h
 split at h
 ·rename_i x n
  obtain⟨v,w,rfl,ex1,ey1⟩:=yA.two ex;have hw:w= .ty n:=by cases ey1 with | val e=>cases e;rfl
  subst hw;obtain⟨u1,u2,rfl,r1,r2⟩:=zr2 rv;cases r2
  split at h
  ·rename_i b e
   have hd:zF x < 1000∨∃ys,x= .tup ys∨x= .lst ys:=by
    cases x with
    | tup ys=>exact .inr ⟨ys,.inl rfl⟩
    | lst ys=>exact .inr ⟨ys,.inr rfl⟩
    | non=>cases e
    | bl b=>exact .inl (by unfold zF;decide)
    | int b=>exact .inl (by unfold zF;decide)
    | str b=>exact .inl (by unfold zF;decide)
    | _=>cases e
   have q:=k.now rs (.val (.bl b)) h;refine zlL I ?_ e q;rcases hd with hd | ⟨ys,rfl | rfl⟩
   ·exact qB I (ex1.rv (k7 hd)) r1 hd
   ·cases ex1 with | val e=>cases e with | tup t z r=>cases r1;obtain⟨its,_,p,_⟩:=I.tuple t.sq;exact .tup p
   ·cases ex1 with | val e=>cases e with | lst t z r=>cases r1;obtain⟨its,_,p,_⟩:=I.list t.sq;exact .lst p.isList
  ·exact h.elim
 ·exact h.elim
def gL:zV:=λxs st Q=>match xs with | [.int i]=>Q (.int i) st | [.bl b]=>Q (.int (if b then 1 else 0)) st | _=>False
theorem nR:xO X (.type "int") (vV X.K gL):=by
 intro pins s σ H vs us Q I rv ⟨A,st,xs,Q3,rs,ex,h,k⟩;unfold gL at h
 split at h
 ·obtain⟨v,rfl,ex1⟩:=yA.one ex
  cases xF ex1;exact ze2 pins s σ H _ us Q I rv (.inl ⟨_,rfl,k.now rs (.val (.int _)) h⟩)
 ·obtain⟨v,rfl,ex1⟩:=yA.one ex
  cases zex ex1;exact ze2 pins s σ H _ us Q I rv (.inr ⟨_,rfl,k.now rs (.val (.int _)) h⟩)
 ·exact h.elim
def zp0:zV:=λxs st Q=>match xs with | [.int i,.int j]=>Q (.int (if j < i then j else i)) st | _=>False
def zpz:zV:=λxs st Q=>match xs with | [.int i,.int j]=>Q (.int (if j > i then j else i)) st | _=>False
theorem zcS {K:Frag} : ∀{bs:List Bool} {vs:List V},RVs K A H (bs.map PV.bl) vs->vs=bs.map V.bl
 | [],_,.nil=>rfl
 | b::bs,_,.cons r t=>by cases r;rw[zcS t];rfl
theorem zcT {K:Frag} : ∀{bs:List Int} {vs:List V},RVs K A H (bs.map PV.int) vs->vs=bs.map V.int
 | [],_,.nil=>rfl
 | b::bs,_,.cons r t=>by cases r;rw[zcT t];rfl
theorem zcV {K:Frag} : ∀{bs:List Str} {vs:List V},RVs K A H (bs.map PV.str) vs->vs=bs.map V.str
 | [],_,.nil=>rfl
 | b::bs,_,.cons r t=>by cases r;rw[zcV t];rfl
theorem zij {K:Frag} : ∀(bs:List Str),RVs K A H (bs.map PV.str) (bs.map V.str)
 | []=> .nil
 | b::bs=> .cons (.str b) (zij bs)
theorem iX {K:Frag} : ∀(bs:List Int),RVs K A H (bs.map PV.int) (bs.map V.int)
 | []=> .nil
 | b::bs=> .cons (.int b) (iX bs)
def sJ:PV->z5->Option (List PV)
 | .lst xs,_=>some xs
 | .obj i,st=>(match st[i]? with | some (.lst xs)=>some xs | _=>none)
 | _,_=>none
theorem nQ {st:z5}{x:PV}{v:V}{xs:List PV}(rs:RS X.K A H st)(ex:RE X.K A H x v)(h:sJ x st=some xs): ∃a vs,v= .ref a/\yE X.K H a vs/\RVs X.K A H xs vs/\vs.length<=sizeLine:=by
 cases ex with
 | val e=>
  cases e with
  | lst t z r=>cases h;exact⟨_,_,rfl,t.sq,r,z⟩
  | _=>cases h
 | obj eo=>
  dsimp only[sJ]at h
  split at h
  ·rename_i q
   cases h;obtain⟨vs,h1,r,z⟩:=rs.at_ _ _ _ eo q;exact⟨_,_,rfl,.of h1,r,z⟩
  ·cases h
def zc2:zV:=λxs st Q=>match xs with | [x]=> ∃bs:List Bool,sJ x st=some (bs.map PV.bl)/\Q (.bl (bs.all id)) st | _=>False
theorem zna (hc:X.calm=true):xO X (.builtin "all") (vV X.K zc2):=by
 intro pins s σ H vs us Q I rv ⟨A,st,xs,Q3,rs,ex,h,k⟩;unfold zc2 at h
 split at h
 ·obtain⟨v,rfl,ex1⟩:=yA.one ex
  obtain⟨bs,e,h⟩:=h;obtain⟨a,ws,rfl,hs,r,z⟩:=nQ rs ex1 e;cases zcS r;exact zkv hc pins s σ H _ us Q I rv ⟨a,bs,rfl,hs,k.now rs (.val (.bl _)) h⟩
 ·exact h.elim
def tF:z8->PV
 | .inl i=> .int i
 | .inr z=> .str z
def rH:PV->z5->Option (List PV)
 | .lst xs,_=>some xs
 | .tup xs,_=>some xs
 | .obj i,st=>(match st[i]? with | some (.lst xs)=>some xs | some (.dct kvs)=>some (kvs.map λq=>tF q.1) | _=>none)
 | .dct kvs,_=>some (kvs.map λq=>tF q.1)
 | _,_=>none
def zpy:zV:=λxs st Q=>match xs with | [x]=>(match rH x st with | some ys=>Q (.lst ys) st | none=>False) | _=>False
def zcA:zV:=λxs st Q=>match xs with | [x]=>(match rH x st with | some ys=>Q (.obj st.length) (st++ [.lst ys]) | none=>False) | _=>False
theorem zbQ {K:Frag} : ∀{kvs:List (z8×PV)} {us:List (z8×V)},RKs K A H kvs us->RVs K A H (kvs.map λq=>tF q.1) (us.map λq=>kV q.1)
 | _,_,.nil=> .nil
 | _,_,.cons (k:=k) r t=>by
  rw[bb,bb];refine .cons ?_ (zbQ t);cases k with
  | inl i=>exact .int i
  | inr z=>exact .str z
theorem zmn (hc:X.calm=true){vs:List V}{us:List Value}{Q:VK}{st:z5}{x:PV}{ys:List PV}{v:V}(I:z6 X pins σ H s)(rv:zK [v] us)(rs:RS X.K A H st)(ex1:RE X.K A H x v)(e:rH x st=some ys)
  (k: ∀ws,RVs X.K A H ys ws->ws.length<=sizeLine->∀p,H p=none->Q (.ref p) (zI H p (.lst ws))):bf (bt X.prog X.w) X.A (call (.type "list") us) (EP X pins σ Q) X.xe s:=by
 cases ex1 with
 | val e1=>
  cases e1 with
  | lst t z r=>cases e;exact cL pins s σ H _ us Q I rv ⟨_,_,rfl,.inl t.sq,k _ r z⟩
  | tup t z r=>cases e;exact cL pins s σ H _ us Q I rv ⟨_,_,rfl,.inr t.sq,k _ r z⟩
  | dct t z r=>cases e;exact ze3 hc pins s σ H _ us Q I rv ⟨_,_,rfl,t.1,k _ (zbQ r) (by rw[aa];exact z)⟩
  | _=>cases e
 | obj eo=>
  dsimp only[rH]at e
  split at e
  ·rename_i q
   cases e;obtain⟨ws,h1,r,z⟩:=rs.at_ _ _ _ eo q;exact cL pins s σ H _ us Q I rv ⟨_,_,rfl,.inl (.of h1),k _ r z⟩
  ·rename_i q
   cases e;obtain⟨ws,h1,r,z⟩:=rs.at_ _ _ _ eo q;exact ze3 hc pins s σ H _ us Q I rv ⟨_,_,rfl,h1,k _ (zbQ r) (by rw[aa];exact z)⟩
  ·cases e
theorem zgV (hc:X.calm=true):xO X (.type "list") (vV X.K zcA):=by
 intro pins s σ H vs us Q I rv ⟨A,st,xs,Q3,rs,ex,h,k⟩;unfold zcA at h
 split at h
 ·obtain⟨v,rfl,ex1⟩:=yA.one ex
  split at h
  ·rename_i ys e
   exact zmn (vs:= []) hc I rv rs ex1 e λws r z=>k.lstO rs r z h
  ·exact h.elim
 ·exact h.elim
def zcH:zV:=λxs st Q=>match xs with | [x]=> ∃ss:List Str,sJ x st=some (ss.map PV.str)/\ss.length < 64/\∀ss',ss'.Perm ss->sortedS ss'=true->Q (.lst (ss'.map PV.str)) st | _=>False
theorem znn:xO X (.builtin "sorted") (vV X.K zcH):=by
 intro pins s σ H vs us Q I rv ⟨A,st,xs,Q3,rs,ex,h,k⟩;unfold zcH at h
 split at h
 ·obtain⟨v,rfl,ex1⟩:=yA.one ex
  obtain⟨ss,e,hl,h⟩:=h;obtain⟨a,ws,rfl,hs,r,z⟩:=nQ rs ex1 e;cases zcV r;refine zk3 pins s σ H _ us Q I rv ⟨a,ss,rfl,hs,hl,λp ss' hp h1 h2=> ?_⟩;exact k.lst rs (zij ss') (by rw[aa,h1.length_eq];exact bq (iq hl) (by decide)) (h ss' h1 h2) p hp
 ·exact h.elim
def ziC:zB:=λ_ st Q=>Q (.obj st.length) (st++ [.dct []])
theorem gH {pos:Pos} :PE X (.Dict [] [] pos) (zP X.K ziC):=xU zco λσ H Q ⟨A,env,st,Q3,rel,h,k⟩=>k.dctO rel.rs .nil (eh _) h
def nU:PV->Option (z8×PV)
 | .tup [x,y]=>(match vR x with | some k=>some (k,y) | none=>none)
 | _=>none
def tH (kvs more:List (z8×PV)):List (z8×PV):=more.foldl (λacc kv=>wH acc kv.1 kv.2) kvs
theorem RKs.merge {K:Frag} : ∀{b:List (z8×PV)} {d:List (z8×V)} {a:List (z8×PV)} {c:List (z8×V)},RKs K A H a c->RKs K A H b d->RKs K A H (tH a b) (uS c d)
 | _,_,_,_,h,.nil=>h
 | _,_,a,c,h,.cons (k:=k) (x:=x) (v:=v) r t=>RKs.merge (a:=wH a k x) (c:=wM c k v) (RKs.put r h) t
theorem RVs.two {K:Frag}{x y:PV}{vs:List V}(h:RVs K A H [x,y] vs): ∃v w,vs= [v,w]/\RV K A H x v/\RV K A H y w:=by
 cases h with
 | cons r t=>cases t with
  | cons r2 t2=>cases t2;exact⟨_,_,rfl,r,r2⟩
theorem zcn: ∀{xs:List PV} {vs:List V} {ps:List (z8×PV)},RVs X.K A H xs vs->xs.map nU=ps.map some->∃as us,vs=as.map V.ref/\jW X.K H as us/\RKs X.K A H ps us
 | [],_,[],.nil,_=>⟨[],[],rfl,.nil,.nil⟩
 | [],_,_::_,.nil,h=>by cases h
 | _::_,_,[],.cons _ _,h=>by cases h
 | x::xs,_,p::ps,.cons r t,h=>by
  rw[bb,bb]at h;obtain⟨h1,h2⟩:=List.cons.inj h;obtain⟨as,us,rfl,hp,hk⟩:=zcn t h2;unfold nU at h1
  split at h1
  ·rename_i k0 y0
   split at h1
   ·rename_i kk ek
    cases h1;cases r with | tup t' z' r'=>
     obtain⟨w1,w2,rfl,ra,rc⟩:=RVs.two r';have e1:=qC (.val ra) ek;subst e1;exact⟨_::as,(kk,_)::us,rfl,.cons t'.sq hp,.cons rc hk⟩
   ·cases h1
  ·cases h1
def zc3:zV:=λxs st Q=>match xs with | [.tup ys]=> ∃ps,ys.map nU=ps.map some/\Q (.dct (tH [] ps)) st | _=>False
theorem zgH {us:List (z8×V)}{n:Nat}(h:us.length<=n):(uS [] us).length<=n:=by
 have:=lV us [];simp only[jm,lw]at this;exact bq this h
theorem znb (hc:X.calm=true):xO X (.type "dict") (vV X.K zc3):=by
 intro pins s σ H vs us Q I rv ⟨A,st,xs,Q3,rs,ex,h,k⟩;unfold zc3 at h
 split at h
 ·obtain⟨v,rfl,ex1⟩:=yA.one ex
  obtain⟨ps,e,h⟩:=h;cases ex1 with | val e1=>cases e1 with | tup t z r=>
   obtain⟨as,ks,rfl,hp,hk⟩:=zcn r e;have hl:ks.length<=sizeLine:=by rw[<- ib hp];rw[aa]at z;exact z
   exact zky hc pins s σ H _ us Q I rv ⟨_,as,ks,rfl,t.sq,hp,k.dct rs (RKs.merge .nil hk) (zgH hl) h⟩
 ·exact h.elim
end
set_option Elab.async false
set_option linter.all false
set_option maxRecDepth 100000
set_option maxHeartbeats 4000000
def rG:PV->z5->String
 | .lst _,_=> "list"
 | .dct _,_=> "dict"
 | .str _,_=> "str"
 | .obj i,st=>(match st[i]? with | some (.lst _)=> "list" | some (.dct _)=> "dict" | _=> "")
 | _,_=> ""
def rY (K:Frag)(R:PV->zV):V->List V->Hp->VK->Prop:=λv vs H Q=> ∃A st x xs Q3,RS K A H st/\RE K A H x v/\yA K A H xs vs/\R x xs st Q3/\xP K A H Q3 Q
def vBM (T:String)(R:PV->zV)(To:zB)(TA:yD):zB:=λenv st Q=>To env st λx st1=>rG x st1=T/\TA env st1 λxs st2=>R x xs st2 Q
def ziA (T:String)(R:PV->zV)(To:zB):zB:=λenv st Q=>To env st λx st1=>rG x st1=T/\R x [] st1 Q
section
variable {X:Cx} {o e:Expr} {es:List Expr} {apos cpos:Pos} {To:zB} {TA:yD} {T id:String} {name:Str} {R:PV->zV}
theorem zi7 {K:Frag}{A:List Addr}{H:Hp}{st:z5}{x:PV}{v:V}(rs:RS K A H st)(ex:RE K A H x v)(h:rG x st=T)(hT:T≠ ""):fV K T v H:=by
 subst h;cases ex with
 | val e=>
  cases e with
  | lst t z r=>exact .inl ⟨rfl,_,t.sq⟩
  | dct t z r=>exact .inr (.inr (.inl ⟨rfl,.inl ⟨_,t.1⟩⟩))
  | str z=>exact rfl
  | _=>exact absurd rfl hT
 | obj eo=>
  dsimp only[rG]at hT⊢
  split
  ·rename_i q
   obtain⟨vs,h1,r,z⟩:=rs.at_ _ _ _ eo q;exact .inl ⟨rfl,_,.of h1⟩
  ·rename_i q
   obtain⟨vs,h1,r,z⟩:=rs.at_ _ _ _ eo q;exact .inr (.inr (.inl ⟨rfl,.inl ⟨_,h1⟩⟩))
  ·exfalso
   split at hT
   ·rename_i n1 n2 _ _ q;exact n1 _ q
   ·rename_i n1 n2 _ _ q;exact n2 _ q
   ·exact hT rfl
theorem x8 (pa:PlainAttrs T)(slot:Slot T name id)(hty:typeOf (.builtin id)=pure (.type "method_descriptor"))(hT:T≠ "")(hm:tT X id (rY X.K R))(ho:PE X o (zP X.K To))(ha:PA X (e::es) (wY X.K TA))
  (hbase:attributeBase o name X.env (eval o X.env)=eval o X.env:=by rfl)
  (hfew:((backTo cpos (starEach (e::es) X.env)).all (λx=> !x.1)&&(backToKw cpos (keywordEach [] X.env)).all (λx=>x.1.isSome)
   &&decide ((e::es).length+([]:List Keyword).length+(if([]:List Keyword).isEmpty then 0 else 1) < 30))=true:=by rfl)
  (hline:(apos.endLine==cpos.line)=true:=by rfl) (hs:starEach (e::es) X.env=(false,eval e X.env)::starEach es X.env:=by rfl) (hplain:(backTo cpos (starEach es X.env)).any (·.1)=false:=by rfl):
  PE X (.Call (.Attribute o name apos) (e::es) [] cpos) (zP X.K (vBM T R To TA)):=
 xU (zof pa slot hty hm ho ha hbase hfew hline hs hplain) λσ H Q ⟨A,env,st,Q3,rel,h,k⟩=>⟨A,env,st,_,rel,h,λA1 H1 st1 x v g1 s1 e1 h1=>⟨zi7 s1 e1 h1.1 hT,A1,env,st1,_,rel.grow g1 s1,h1.2,λA2 H2 st2 xs vs g2 s2 e2 h2=>
  ⟨A2,st2,x,xs,Q3,s2,e1.grow g2,e2,h2,k.after (g1.trans g2)⟩⟩⟩
theorem zh8 (pa:PlainAttrs T)(slot:Slot T name id)(hty:typeOf (.builtin id)=pure (.type "method_descriptor"))(hT:T≠ "")(hm:tT X id (rY X.K R))(ho:PE X o (zP X.K To))
  (hbase:attributeBase o name X.env (eval o X.env)=eval o X.env:=by rfl) (hline:(apos.endLine==cpos.line)=true:=by rfl):PE X (.Call (.Attribute o name apos) [] [] cpos) (zP X.K (ziA T R To)):=
 xU (zog pa slot hty hm ho hbase hline) λσ H Q ⟨A,env,st,Q3,rel,h,k⟩=>⟨A,env,st,_,rel,h,λA1 H1 st1 x v g1 s1 e1 h1=>⟨zi7 s1 e1 h1.1 hT,A1,st1,x,[],Q3,s1,e1,.nil,h1.2,k.after g1⟩⟩
def gK:PV->zV:=λx xs st Q=>match x,xs with
 | .obj i,[y]=>(match st[i]? with | some (.lst zs)=>yR y=true/\zs.length < sizeLine/\Q .non (st.set i (.lst (zs++ [y]))) | _=>False)
 | _,_=>False
theorem xX:tT X "list.append" (rY X.K gK):=by
 intro pins s σ H v vs vv us Q I rv rvs ⟨A,st,x,xs,Q3,rs,ex,exs,h,k⟩;unfold gK at h
 split at h
 ·rename_i i y
  obtain⟨w,rfl,ey⟩:=yA.one exs;cases ex with
  | val e=>cases e
  | obj eo=>
   have hm:=cj eo
   split at h
   ·rename_i zs q
    obtain⟨ws,h1,r,z⟩:=rs.at_ _ _ _ eo q;obtain⟨hn,hl,h⟩:=h;rw[r.len]at hl;refine zmD pins s σ H _ _ vv us Q I rv rvs ⟨_,ws,w,rfl,rfl,h1,hl,k A _ _ _ _ (.put hm) (rs.put (q:= .lst (zs++ [y])) eo ⟨_,yS,(r.grow (.put hm)).append (.cons ((ey.rv hn).grow (.put hm)) .nil),?_⟩) (.val .non) h⟩;rw[af,bi];exact hl
   ·exact h.elim
 ·exact h.elim
def zc7:PV->zV:=λx xs st Q=>match x,xs with
 | .obj i,[.lst ys]=>(match st[i]? with | some (.lst zs)=>zs.length+ys.length<=sizeLine/\Q .non (st.set i (.lst (zs++ys))) | _=>False)
 | _,_=>False
theorem zgT:tT X "list.extend" (rY X.K zc7):=by
 intro pins s σ H v vs vv us Q I rv rvs ⟨A,st,x,xs,Q3,rs,ex,exs,h,k⟩;unfold zc7 at h
 split at h
 ·rename_i i ys
  obtain⟨w,rfl,ey⟩:=yA.one exs;cases ex with
  | val e=>cases e
  | obj eo=>
   have hm:=cj eo
   split at h
   ·rename_i zs q
    obtain⟨ws,hH,r,z⟩:=rs.at_ _ _ _ eo q;obtain⟨hl,h⟩:=h;cases ey with | val ey=>cases ey with | lst t z2 r2=>
     cases rv;obtain⟨u,rfl,ru⟩:=zK.one rvs;cases ru;obtain⟨zz,its,n,rr,hl1,e⟩:=I.lstM hH;obtain⟨its2,n2,rr2,e2,_⟩:=I.listX t.sq;have hl2:=rr2.length;have e3:=r.len;have e4:=r2.len;have hsz:its.toArray.size+its2.toArray.size<=sizeLine:=by rw[bo,bo];omega
     have hlong: ¬ (!its.toArray.isEmpty&&Builtin.List.listTooLong (its.toArray.size+its2.toArray.size))=true:=by
      rw[zmX hsz,Bool.and_false];exact ef
     refine ka F.slot_list_extend ⟨_,e,rfl⟩ F.entry_list_extend (F.args_list_extend_2 _ _)
      (AutoSeq1.list_extend_list_list_0 _ its.toArray n _ its2.toArray n2 hlong (by rw[bo];omega) (by omega)) ⟨e,e2,?_⟩
     refine⟨.non,_,I.lset (its':=its++its2) hH e (by simp) (rr.append rr2) ?_,rfl,k A _ _ _ _ (.put hm) (rs.put (q:= .lst (zs++ys)) eo ⟨_,yS,(r.grow (.put hm)).append (r2.grow (.put hm)),?_⟩) (.val .non) h⟩
     ·rw[af];omega
     ·rw[af];omega
   ·exact h.elim
 ·exact h.elim
def zcD:PV->zV:=λx xs st Q=>match x,xs with
 | .obj i,[]=>(match st[i]? with | some (.lst zs)=>(match zs.getLast? with | some y=>Q y (st.set i (.lst zs.dropLast)) | none=>False) | _=>False)
 | _,_=>False
theorem RVs.last {K:Frag}{A:List Addr}{H:Hp}{xs:List PV}{vs:List V}{y:PV}(r:RVs K A H xs vs)(h:xs.getLast?=some y): ∃w,vs[vs.length - 1]?=some w/\RV K A H y w:=by
 rw[List.getLast?_eq_getElem?,r.len]at h;exact r.get h
theorem RVs.front {K:Frag}{A:List Addr}{H:Hp}{xs:List PV}{vs:List V}(r:RVs K A H xs vs):RVs K A H xs.dropLast vs.dropLast:=by
 rw[ur,ur,r.len];exact r.take _
theorem zgW:tT X "list.pop" (rY X.K zcD):=by
 intro pins s σ H v vs vv us Q I rv rvs ⟨A,st,x,xs,Q3,rs,ex,exs,h,k⟩;unfold zcD at h
 split at h
 ·cases exs
  cases ex with
  | val e=>cases e
  | obj eo=>
   have hm:=cj eo
   split at h
   ·rename_i zs q
    obtain⟨ws,h1,r,z⟩:=rs.at_ _ _ _ eo q
    split at h
    ·rename_i y e
     obtain⟨w,ew,rw'⟩:=r.last e;refine zmF pins s σ H _ _ vv us Q I rv rvs ⟨_,ws,w,rfl,rfl,h1,ew,k A _ _ _ _ (.put hm) (rs.put (q:= .lst zs.dropLast) eo ⟨_,yS,(r.front).grow (.put hm),?_⟩) (.val (rw'.grow (.put hm))) h⟩;rw[uz];omega
    ·exact h.elim
   ·exact h.elim
 ·exact h.elim
def q5:PV->z5->Option (List (z8×PV))
 | .dct kvs,_=>some kvs
 | .obj i,st=>(match st[i]? with | some (.dct kvs)=>some kvs | _=>none)
 | _,_=>none
theorem zeH {K:Frag}{A:List Addr}{H:Hp}{st:z5}{x:PV}{v:V}{kvs:List (z8×PV)}(rs:RS K A H st)(ex:RE K A H x v)(h:q5 x st=some kvs): ∃a us,v= .ref a/\H a=some (.dK us)/\RKs K A H kvs us/\us.length<=sizeLine:=by
 cases ex with
 | val e=>
  cases e with
  | dct t z r=>cases h;exact⟨_,_,rfl,t.1,r,z⟩
  | _=>cases h
 | obj eo=>
  dsimp only[q5]at h
  split at h
  ·rename_i q
   cases h;obtain⟨vs,h1,r,z⟩:=rs.at_ _ _ _ eo q;exact⟨_,_,rfl,h1,r,z⟩
  ·cases h
def zu1:PV->zV:=λx xs st Q=>match q5 x st,xs with
 | some kvs,[y]=>(match vR y with | some k=>Q ((zO kvs k).getD .non) st | none=>False)
 | some kvs,[y,z]=>(match vR y with | some k=>yR z=true/\Q ((zO kvs k).getD z) st | none=>False)
 | _,_=>False
def zc_:PV->zV:=λx xs st Q=>match x,xs with
 | .str sep,[y]=> ∃ss:List Str,sJ y st=some (ss.map PV.str)/\(ss.map (·.length)).sum+ss.length * sep.length<=16777216/\Q (.str (Txt.join sep ss)) st
 | _,_=>False
theorem znh:tT X "str.join" (rY X.K zc_):=by
 intro pins s σ H v vs vv us Q I rv rvs ⟨A,st,x,xs,Q3,rs,ex,exs,h,k⟩;unfold zc_ at h
 split at h
 ·obtain⟨w,rfl,ey⟩:=yA.one exs
  cases sS ex;obtain⟨ss,e,hl,h⟩:=h;obtain⟨a,ws,rfl,hs,r,z⟩:=nQ rs ey e;cases zcV r;exact zmE pins s σ H _ _ vv us Q I rv rvs ⟨_,a,ss,rfl,rfl,hs,hl,k.now rs (.val (.str _)) h⟩
 ·exact h.elim
def uH:PV->Bool
 | .non=>true
 | .bl _=>true
 | .int _=>true
 | .str _=>true
 | _=>false
def vJ (x:PV)(ys:List PV):Bool:=ys.any λy=>y8 y x
theorem zb4 {K:Frag}{A:List Addr}{H:Hp}{x:PV}{v:V}(r:RV K A H x v):rF v=uH x:=by
 cases r <;> rfl
theorem zb5 {K:Frag}{A:List Addr}{H:Hp} : ∀{xs:List PV} {vs:List V},RVs K A H xs vs->vs.all rF=xs.all uH
 | _,_,.nil=>rfl
 | _,_,.cons r t=>by rw[kz,kz,zb4 r,zb5 t]
theorem zlk {K:Frag}{A:List Addr}{H:Hp}{x y:PV}{v w:V}(r:RV K A H x v)(r2:RV K A H y w)(f:uH x=true)(f2:uH y=true):rE v w=y8 x y:=by
 cases r <;> first | (exact absurd f ef) | skip
 all_goals (cases r2 <;> first | (exact absurd f2 ef) | skip)
 all_goals (unfold rE y8;rfl)
theorem zbF {K:Frag}{A:List Addr}{H:Hp}{x:PV}{v:V}(r:RV K A H x v)(f:uH x=true): ∀{xs:List PV} {vs:List V},RVs K A H xs vs->xs.all uH=true->qV v vs=vJ x xs
 | _,_,.nil,_=>rfl
 | _,_,.cons r1 t,h=>by
  rw[kz,fe]at h;have ih:=zbF r f t h.2;unfold qV vJ at ih⊢
  rw[iw,iw,ih,zlk r1 r h.1 f]
def sQ:PV->z5->Option (List PV)
 | .tup xs,_=>some xs
 | .lst xs,_=>some xs
 | .obj i,st=>(match st[i]? with | some (.lst xs)=>some xs | _=>none)
 | _,_=>none
def wP (neg:Bool):R3:=λx y st Q=>match sQ y st with
 | some xs=>(uH x=true/\xs.all uH=true)/\Q (.bl (if neg then !vJ x xs else vJ x xs)) st
 | none=>(match q5 y st with
  | some kvs=>(match vR x with | some k=>Q (.bl (if neg then !(zO kvs k).isSome else(zO kvs k).isSome)) st | none=>False)
  | none=>(match x,y with | .str i,.str j=>Q (.bl (if neg then !(!(Builtin.Str.occurrences j i 0 j.length 1).isEmpty)else !(Builtin.Str.occurrences j i 0 j.length 1).isEmpty)) st | _,_=>False))
theorem zhX {K:Frag}{A:List Addr}{H:Hp}{st:z5}{x:PV}{v:V}{xs:List PV}(rs:RS K A H st)(ex:RE K A H x v)(h:sQ x st=some xs): ∃a vs,v= .ref a/\(yE K H a vs∨x5 K H a vs)/\RVs K A H xs vs:=by
 cases ex with
 | val e=>
  cases e with
  | lst t z r=>cases h;exact⟨_,_,rfl,.inl t.sq,r⟩
  | tup t z r=>cases h;exact⟨_,_,rfl,.inr t.sq,r⟩
  | _=>cases h
 | obj eo=>
  dsimp only[sQ]at h
  split at h
  ·rename_i q
   cases h;obtain⟨vs,h1,r,z⟩:=rs.at_ _ _ _ eo q;exact⟨_,_,rfl,.inl (.of h1),r⟩
  ·cases h
theorem zga {x:PV}(h:uH x=true):yR x=true:=by
 cases x <;> first | rfl | cases h
theorem rJ {k:Nat}(hr:zU k X.A):yI X (compareOp .In) (xQ X.K (wP false)):=uK λpins s σ H A st x y v w vv ww Q3 Q I rs ex ey rv rw h k=>by
 have hu:X.A.units+1 < cLine:=by have:=hr.units;omega
 unfold wP at h
 split at h
 ·rename_i xs e
  obtain⟨a,ws,rfl,hs,r⟩:=zhX rs ey e;obtain⟨⟨f1,f2⟩,h⟩:=h;have ex':=ex.rv (zga f1);refine znM pins s σ H _ _ vv ww Q I rv rw ⟨a,ws,rfl,hs,by rw[zb4 ex'];exact f1,by rw[zb5 r];exact f2,?_⟩;have e2:=zbF ex' f1 r f2;have:(if false=true then !qV v ws else qV v ws)=vJ x xs:=by rw[if_neg ef,e2]
  rw[this];exact k.now rs (.val (.bl _)) h
 ·split at h
  ·rename_i kvs e
   obtain⟨a,us,rfl,h1,r,z⟩:=zeH rs ey e
   split at h
   ·rename_i kk ek
    cases rw;refine zkQ hu I (.inl ⟨us,kk,.inl h1,qC ex ek,rfl⟩) rv λs' I'=>⟨.bl _,H,I',rfl,?_⟩;rcases r.val (k:=kk)with⟨x',v',e1,e2,r'⟩ | ⟨e1,e2⟩
    ·rw[e2];rw[e1]at h;exact k.now rs (.val (.bl _)) h
    ·rw[e2];rw[e1]at h;exact k.now rs (.val (.bl _)) h
   ·exact h.elim
  ·split at h
   ·cases sS ex;cases sS ey
    exact znN pins s σ H _ _ vv ww Q I rv rw ⟨_,_,rfl,rfl,k.now rs (.val (.bl _)) h⟩
   ·exact h.elim
theorem zch {k:Nat}(hr:zU k X.A):yI X (compareOp .NotIn) (xQ X.K (wP true)):=uK λpins s σ H A st x y v w vv ww Q3 Q I rs ex ey rv rw h k=>by
 have hu:X.A.units+1 < cLine:=by have:=hr.units;omega
 unfold wP at h
 split at h
 ·rename_i xs e
  obtain⟨a,ws,rfl,hs,r⟩:=zhX rs ey e;obtain⟨⟨f1,f2⟩,h⟩:=h;have ex':=ex.rv (zga f1);refine znS pins s σ H _ _ vv ww Q I rv rw ⟨a,ws,rfl,hs,by rw[zb4 ex'];exact f1,by rw[zb5 r];exact f2,?_⟩;have e2:=zbF ex' f1 r f2;have:(if true=true then !qV v ws else qV v ws)= !vJ x xs:=by rw[if_pos rfl,e2]
  rw[this];exact k.now rs (.val (.bl _)) h
 ·split at h
  ·rename_i kvs e
   obtain⟨a,us,rfl,h1,r,z⟩:=zeH rs ey e
   split at h
   ·rename_i kk ek
    cases rw;refine zkS hu I (.inl ⟨us,kk,.inl h1,qC ex ek,rfl⟩) rv λs' I'=>⟨.bl _,H,I',rfl,?_⟩;rcases r.val (k:=kk)with⟨x',v',e1,e2,r'⟩ | ⟨e1,e2⟩
    ·rw[e2];rw[e1]at h;exact k.now rs (.val (.bl _)) h
    ·rw[e2];rw[e1]at h;exact k.now rs (.val (.bl _)) h
   ·exact h.elim
  ·split at h
   ·cases sS ex;cases sS ey
    exact znT pins s σ H _ _ vv ww Q I rv rw ⟨_,_,rfl,rfl,k.now rs (.val (.bl _)) h⟩
   ·exact h.elim
end
set_option Elab.async false
set_option linter.all false
set_option maxRecDepth 100000
set_option maxHeartbeats 4000000
set_option Elab.async false
set_option linter.all false
set_option maxRecDepth 100000
theorem at0 {α:Type}{x:α}{xs:List α} :atI (x::xs) 0=some x:=xJ (j:=0) rfl
theorem at1 {α:Type}{x y:α}{xs:List α} :atI (x::y::xs) 1=some y:=xJ (j:=1) rfl
theorem at2 {α:Type}{x y z:α}{xs:List α} :atI (x::y::z::xs) 2=some z:=xJ (j:=2) rfl
theorem at3 {α:Type}{x y z u:α}{xs:List α} :atI (x::y::z::u::xs) 3=some u:=xJ (j:=3) rfl
theorem at4 {α:Type}{x y z u v:α}{xs:List α} :atI (x::y::z::u::v::xs) 4=some v:=xJ (j:=4) rfl
theorem ix0 {n:Nat} :w9 (n+1) 0=some 0:=by unfold w9;rw[if_pos (by decide),if_pos (by omega)];rfl
theorem ix1 {n:Nat} :w9 (n+2) 1=some 1:=by unfold w9;rw[if_pos (by decide),if_pos (by omega)];rfl
theorem zqT {α:Type}{st:List α} :st.take (st.length+0)=st:=by simp
theorem fS {α:Type}{st:List α}{i:Nat}{x:α} :(st.set i x).take (st.length+0)=st.set i x:=by rw[rf,cc (by simp)]
theorem set_set {α:Type}{st:List α}{i:Nat}{x y:α} :(st.set i x).set i y=st.set i y:=by simp
theorem sG {α:Type}{st:List α}{i:Nat}{x y:α}(h:st[i]?=some y):(st.set i x)[i]?=some x:=dh (ad.mp h).1
set_option Elab.async false
set_option linter.all false
set_option maxRecDepth 100000
set_option maxHeartbeats 4000000
def rW (l:List (Str×Int)):PV:= .tup (l.map λq=> .tup [.str q.1,.int q.2])
theorem zl2 {α:Type}{st:List α}{i:Nat}{x:α}(h:(st[i]?).isSome=true):(st.set i x)[i]?=some x:=by
 obtain⟨y,e⟩:=qm.mp h;exact sG e
theorem zlp {Q:K3}{st:z5}{x:PO} :xA (st.length+1) Q (.obj st.length) (st++ [x])=Q (.obj st.length) (st++ [x]):=by
 show(if st.length < st.length+1 then _ else _)=_;rw[if_pos (me _),cc (by simp)]
theorem iO {Q:K3}{st:z5}{xs:List PV} :xA (st.length+0) Q (.obj st.length) (st++ [.lst xs])=Q (.lst xs) st:=by
 show(if st.length < st.length+0 then _ else _)=_;rw[if_neg (by omega)];have:(st++ [PO.lst xs])[st.length]?=some (.lst xs):=by simp
 rw[this];simp
theorem zeV {Q:K3}{st:z5}{xs:List (z8×PV)} :xA (st.length+0) Q (.obj st.length) (st++ [.dct xs])=Q (.dct xs) st:=by
 show(if st.length < st.length+0 then _ else _)=_;rw[if_neg (by omega)];have:(st++ [PO.dct xs])[st.length]?=some (.dct xs):=by simp
 rw[this];simp
theorem nB {α:Type}(f:α->PV){ns:List α}{k:Int}(h0:0<=k)(h1:k < ns.length): ∃z∈ns,atI (ns.map f) k=some (f z):=by
 obtain⟨y,hy,e⟩:=zka (ns.map f) h0 (by simpa using h1);obtain⟨z,hz,rfl⟩:=ca.mp hy;exact⟨z,hz,e⟩
theorem qE {α:Type}{st:List α}{x:α} :(st++ [x])[st.length]?=some x:=by simp
theorem j0 {α:Type}{st:List α}{x y:α} :(st++ [x]).set st.length y=st++ [y]:=by simp
theorem zdo {α:Type}{st:List α}{x:α} :(st++ [x]).take (st.length+0)=st:=by simp
theorem zqS {α:Type}{st:List α}{x:α} :(st++ [x]).take (st.length+1)=st++ [x]:=by rw[cc (by simp)]
set_option Elab.async false
set_option linter.all false
set_option maxRecDepth 100000
theorem sI {α:Type}{e:List α}(h:e.length=1): ∃a,e= [a]:=List.length_eq_one_iff.mp h
theorem zmm {α:Type}{e:List α}(h:e.length=2): ∃a b,e= [a,b]:=by
 match e,h with
 | [a,b],_=>exact⟨a,b,rfl⟩
def CP (f:PV->Option PV)(own:Nat)(xs:List PV)(env:zG)(st:z5)(i:Nat)(ys:List PV)(env':zG)(st':z5):Prop:=ys=(xs.take i).filterMap f/\st'=st/\∃e',e'.length=own/\env'=env++e'
theorem mJ {α:Type}{xs:List α}{i:Nat}{x:α}(h:xs[i]?=some x):xs.take (i+1)=xs.take i++ [x]:=by rw[xx,h];rfl
theorem CP.yes {f:PV->Option PV}{own:Nat}{xs:List PV}{env:zG}{st:z5}{i:Nat}{x y:PV}{e':zG}(h:xs[i]?=some x)(hf:f x=some y)(he:e'.length=own):CP f own xs env st (i+1) ((xs.take i).filterMap f++ [y]) (env++e') st:=by
 refine⟨?_,rfl,e',he,rfl⟩;rw[mJ h,ja,cn,hf];rfl
theorem CP.no {f:PV->Option PV}{own:Nat}{xs:List PV}{env:zG}{st:z5}{i:Nat}{x:PV}{e':zG}(h:xs[i]?=some x)(hf:f x=none)(he:e'.length=own):CP f own xs env st (i+1) ((xs.take i).filterMap f) (env++e') st:=by
 refine⟨?_,rfl,e',he,rfl⟩;rw[mJ h,ja,cn,hf];simp
theorem r6 {own:Nat}{g:xL}{tt:yT}{el:zB}{xs:List PV}{Q:List PV->z5->Prop}{env:zG}{st:z5}(f:PV->Option PV)
  (hs: ∀i x e,xs[i]?=some x->e.length=own->g x (env++e) st λe1 s1=>tt e1 s1 λb s2=>if b=true then el e1 s2 λy s3=>yR y=true/\CP f own xs env st (i+1) ((xs.take i).filterMap f++ [y]) e1 s3 else CP f own xs env st (i+1) ((xs.take i).filterMap f) e1 s2)
  (hd:Q (xs.filterMap f) st):pU own g tt el none xs Q env st:=by
 refine⟨CP f own xs env st,⟨by simp,rfl,_,by simp,rfl⟩,?_,?_⟩
 ·rintro i x ys env' st' hx ⟨rfl,rfl,e',he,rfl⟩
  exact hs i x e' hx he
 ·rintro ys env' st' ⟨rfl,rfl,e',he,rfl⟩
  show Q _ _;rw[cc (ak _)];exact hd
theorem wL {g:xL}{b:yV}{src:x6}{xs:List PV}{D:xV}{env:zG}{st:z5}(P:Nat->zG->z5->Prop)(h0:P 0 env st)
  (hs: ∀i x env st,xs[i]?=some x->P i env st->vL src st (g x env st λe s=>b {D with nx:=P (i+1),ct:=P (i+1),bk:=D.nx} e s)) (hd: ∀env st,P xs.length env st->vL src st (D.nx env st)):eO g b src xs D env st:=⟨P,h0,hs,hd⟩
theorem vX {α:Type}{f:α->PV}{l:List α}{i:Nat}{x:PV}(h:(l.map f)[i]?=some x): ∃y,l[i]?=some y/\x=f y:=by
 rw[aw]at h;cases e:l[i]? with
 | none=>rw[e]at h;cases h
 | some y=>rw[e]at h;exact⟨y,rfl,(bx h).symm⟩
theorem zlo {x:PV}{Q:K3}{st:z5}{i:Nat}{o:PO}(h:yR x=true)(q:Q x (st.set i o)):xA (st.length+0) Q x (st.set i o):=by
 cases x with
 | obj i=>cases h
 | _=>show Q _ ((st.set i o).take (st.length+0));rw[fS];exact q
theorem b7 {α:Type}{f:α->PV}{n:Nat}(h: ∀x,zF (f x)<=n): ∀(l:List α),dpts (l.map f)<=n
 | []=>by rw[ir];unfold dpts;exact eh _
 | x::l=>by
  rw[bb];unfold dpts;exact Nat.max_le.mpr ⟨h x,b7 h l⟩
theorem zeJ (l:List (Str×Int)):zF (rW l)<=2:=by
 unfold rW zF;exact xi (b7 (λq=>by simp[zF,dpts]) l)
set_option Elab.async false
set_option linter.all false
set_option maxRecDepth 100000
theorem zdc {α:Type}{st:List α}{i:Nat}{x o:α}(h:i < st.length):(st++ [o]).set i x=st.set i x++ [o]:=by rw[ie _ _ h]
theorem zbB {α:Type}{st:List α}{i:Nat}{x o:α}(h:st[i]?=some x):(st++ [o])[i]?=some x:=by rw[ax (ad.mp h).1];exact h
theorem pL {t u:yV}{D:xV}{env:zG}{st:z5}(P:zG->z5->Prop)(h1: ∀N:zG->z5->Prop,(∀e s,P e s->N e s)->t {D with nx:=N} env st)(h2: ∀e s,P e s->u D e s):u9 t u D env st:=h1 (u D) h2
theorem rD:(∀{i j:Int},y8 (.int i) (.int j)=(i==j))/\(∀{a b:Str},y8 (.str a) (.str b)=(a==b))/\(∀{a b:Bool},y8 (.bl a) (.bl b)=(a==b))/\(y8 .non .non=true)/\(∀{a b:List PV},y8 (.tup a) (.tup b)=eqPs a b)/\(∀{a b:List PV},y8 (.lst a) (.lst b)=eqPs a b)/\(∀{i:Int},y8 (.int i) .non=false)/\(∀{i:Str},y8 (.str i) .non=false)/\(∀{i:List PV},y8 (.tup i) .non=false)/\(∀{i:Int},y8 .non (.int i)=false)/\(∀{i:Str},y8 .non (.str i)=false)/\(∀{i:List PV},y8 .non (.tup i)=false)/\(∀{a:List PV} {b:Str},y8 (.tup a) (.str b)=false)/\(∀{a:List PV} {b:Str},y8 (.str b) (.tup a)=false)/\(eqPs [] []=true)/\(∀{x xs},eqPs (x::xs) []=false)/\(∀{x xs},eqPs [] (x::xs)=false)/\(∀{x xs y ys},eqPs (x::xs) (y::ys)=(y8 x y&&eqPs xs ys)):=by
 refine⟨?_,?_,?_,?_,?_,?_,?_,?_,?_,?_,?_,?_,?_,?_,?_,?_,?_,?_⟩ <;> intros <;> first | rfl | (unfold y8;rfl) | (unfold eqPs;rfl)
theorem cZ:(zF .non=0)/\(∀{i},zF (.int i)=0)/\(∀{i},zF (.str i)=0)/\(∀{i},zF (.bl i)=0)/\(∀{i},zF (.tup i)=dpts i+1)/\(∀{i},zF (.lst i)=dpts i+1)/\(dpts []=0)/\(∀{x xs},dpts (x::xs)=max (zF x) (dpts xs)):=by
 refine⟨?_,?_,?_,?_,?_,?_,?_,?_⟩ <;> intros <;> first | rfl | (unfold zF;rfl) | (unfold dpts;rfl)
theorem zkY {i:Int} :zF (.int i)=0:=by unfold zF;rfl
theorem zeK (l:List (Str×Int)):zF (rW l)<=50:=bq (zeJ l) (by decide)
theorem zeL (l:List (Str×Int)):zF (rW l) < 1000:=lm (zeJ l) (by decide)
set_option Elab.async false
set_option linter.all false
set_option maxRecDepth 100000
set_option maxHeartbeats 4000000
def zrv:yV:=λ_ _ _=>False
section
variable {X:Cx}
theorem zku (n:Nat):sliceBounds none none (some (-1)) n=((n:Int) - 1,-1,-1):=by
 simp[sliceBounds]
theorem zp9 (n:Nat):sliceRange ((n:Int) - 1) (-1) (-1)=(List.range n).map λk=>n - 1 - k:=by
 unfold sliceRange;have e:(if(-1:Int) > 0 then(if(n:Int) - 1 < -1 then((-1:Int) - ((n:Int) - 1)+ -1 - 1) / -1 else 0)else(if(n:Int) - 1 > -1 then((n:Int) - 1 - -1 - -1 - 1) / (- -1)else 0)).toNat=n:=by
  rw[if_neg (by decide),show(- -1:Int)=1 by decide,vw]
  split <;> omega
 show(List.range ((if(-1:Int) > 0 then(if(n:Int) - 1 < -1 then((-1:Int) - ((n:Int) - 1)+ -1 - 1) / -1 else 0)else(if(n:Int) - 1 > -1 then((n:Int) - 1 - -1 - -1 - 1) / (- -1)else 0)).toNat)).map _=_;rw[e];refine im λk hk=> ?_;have:=dk.mp hk;omega
theorem zoF (its:List Value):slicePick its.toArray none none (some (-1))=its.reverse.toArray:=by
 unfold slicePick;rw[zku];dsimp only;rw[zp9]
 congr 1
 have gen: ∀(l:List Value) (n:Nat),n<=l.length->((List.range n).map λk=>n - 1 - k).filterMap (λi=>l.toArray[i]?)=(l.take n).reverse:=by
  intro l n
  induction n with
  | zero=>intro _;simp
  | succ n ih=>
   intro h;rw[lr,bb,cy,cn];have h1:l.toArray[n+1 - 1 - 0]?=some l[n]:=by simp
   rw[h1];have e:((λk=>n+1 - 1 - k) ∘ Nat.succ)=λk=>n - 1 - k:=by funext k;show n+1 - 1 - (k+1)=n - 1 - k;omega
   rw[e,ih (by omega),mJ (x:=l[n]) (by simp),jh];rfl
 have:=gen its its.toArray.size (by simp);rw[this,cc (by simp)]
def zqM (K:Frag)(te:TE)(tl:TO):TE:=λσ H Q=>te σ H λx H1=>tl σ H1 λl H2=>l=some (-1)/\∃a xs,x= .ref a/\yE K H2 a xs/\∀p,H2 p=none->Q (.ref p) (zI H2 p (.lst xs.reverse))
theorem zov {e se:Expr}{te:TE}{tl:TO}{p2 pos:Pos}(he:PE X e te)(hl:L2.PO X (some se) tl):PE X (.Subscript e (.Slice none none (some se) p2) pos) (zqM X.K te tl):=by
 refine⟨λpins s σ H Q I h=> ?_⟩;refine uy (zR (he pins s σ H _ I h) λv s1 ⟨x,H1,I1,r1,q1⟩=> ?_);refine xb ?_;rw[pp];refine ay (ay ?_);refine zR (hl pins s1 σ H1 _ I1 q1) λvu s3 ⟨u,H3,I3,pu,hu,a,xs,ex,hx,q⟩=> ?_;subst hu ex;cases r1;have I4:z6 X pins σ H3 {s3 with heap:=s3.heap.push {cls:= .type "slice",data:= .fields #[.none,.none,vu]}} :=I3.kept (t':=s3.toks) λb ob q=>ar _ q;obtain⟨its,r,ht,hz⟩:=I4.list hx;have hlen:=r.length;show bf (bt X.prog X.w) X.A (subscriptTail e (.Slice none none (some se) p2) (.ref a) (.ref s3.heap.objs.size)) (EP X pins σ Q) X.xe {s3 with heap:=s3.heap.push {cls:= .type "slice",data:= .fields #[.none,.none,vu]}};refine xg (ops:= [.ref a,.ref s3.heap.objs.size]) ht.isList.typeIs qf.lookup ?_ (by with_unfolding_all rfl);refine qp ht.isList (pd ..) .none .none pu (by simp) ?_ (by rw[bo] <;> omega);rw[zoF];refine⟨.ref _,_,I4.laid (t':=s3.toks) (o:= .lst xs.reverse) (λb ob q=>ar _ q) (ak _) ?_,rfl,q _ (I4.hok.fresh (ak _))⟩;exact⟨by rw[io];exact hz,its.reverse,0,r.reverse,cb _ rfl⟩
def ziL (T:zB)(Tl:sE):zB:=λenv st Q=>T env st λx st1=>Tl env st1 λl st2=>l=some (-1)/\(match x with | .lst xs=>Q (.lst xs.reverse) st2 | _=>False)
theorem zpj {e se:Expr}{Ta:zB}{Tl:sE}{p2 pos:Pos}(he:PE X e (zP X.K Ta))(hl:L2.PO X (some se) (nF X.K Tl)):PE X (.Subscript e (.Slice none none (some se) p2) pos) (zP X.K (ziL Ta Tl)):=by
 refine xU (zov he hl) λσ H Q ⟨A,env,st,Q3,rel,h,k⟩=>⟨A,env,st,_,rel,h,λA1 H1 st1 x v g1 s1 e1 h1=>⟨A1,env,st1,_,rel.grow g1 s1,h1,λA2 H2 st2 l g2 s2 h2=>⟨h2.1,?_⟩⟩⟩;have h3:=h2.2
 split at h3
 ·cases e1.grow g2 with | val e=>cases e with | lst t z r=>
   exact⟨_,_,rfl,t.sq,(k.after (g1.trans g2)).lst s2 r.reverse (by rw[io];exact z) h3⟩
 ·exact h3.elim
end
set_option Elab.async false
set_option linter.all false
set_option maxRecDepth 100000
theorem lE (xs:List PV)(a:Nat):w5 xs (some (a:Int)) none=xs.drop a:=by
 unfold w5;rw[HT.sIx_nat,HT.sIx_none];rcases we a xs.length with h | h
 ·rw[xq h,cc (by rw[fj];exact ak _)]
 ·rw[xj h,ue (ak _),ue h];simp
theorem o0 (xs:List PV)(b:Nat):w5 xs none (some (b:Int))=xs.take b:=by
 unfold w5;rw[HT.sIx_nat,HT.sIx_none,xw,wc];rcases we b xs.length with h | h
 ·rw[xq h]
 ·rw[xj h,cc (ak _),cc h]
set_option Elab.async false
set_option linter.all false
set_option maxRecDepth 100000
set_option maxHeartbeats 4000000
section
variable {α:Type} [DecidableEq α]
def both (w:List α)(a b:Nat)(u:List α)(c d:Nat)(v:List α):List α:=w.take a++u++(w.take c).drop b++v++w.drop d
end
section
variable {X:Cx}
def zr0 (T:zB):zB:=λenv st Q=>T env st λx st1=>match x with | .tup xs=>Q (.tup xs.reverse) st1 | _=>False
end
set_option Elab.async false
set_option linter.all false
set_option maxRecDepth 100000
set_option maxHeartbeats 4000000
section
variable {X:Cx} {a b c:Expr} {pos:Pos} {Tx:yD}
def zrx (i j l:Nat)(T:yD):yV:=λD env st=>T env st λxs st1=>match xs with | [x,y,z]=>D.nx (((env.set l (some z)).set j (some y)).set i (some x)) st1 | _=>False
end
set_option Elab.async false
set_option linter.all false
set_option maxRecDepth 100000
set_option maxHeartbeats 4000000
set_option Elab.async false
set_option linter.all false
set_option maxRecDepth 100000
set_option maxHeartbeats 4000000
set_option smartUnfolding false
def wT {α:Type}(o:Option α)(F:α->Prop):Prop:=match o with | some x=>F x | none=>False
section
variable {i j:Int} {a b:Str} {xs ys zs:List PV} {x y z:PV} {n m:Nat} {st:z5} {Q:K3} {p q:Bool} {kvs:List (z8×PV)} {env:zG}
@[simp] theorem zrT:m5 (.int i) (.int j) st Q=Q (.int (i+j)) st:=rfl
@[simp] theorem zrV:m5 (.str a) (.str b) st Q=(a.length+b.length<=sizeLine/\Q (.str (a++b)) st):=rfl
@[simp] theorem zrW:m5 (.tup xs) (.tup ys) st Q=(xs.length+ys.length<=sizeLine/\Q (.tup (xs++ys)) st):=rfl
@[simp] theorem zrU:m5 (.lst xs) (.lst ys) st Q=(xs.length+ys.length<=sizeLine/\Q (.lst (xs++ys)) st):=rfl
@[simp] theorem ztY:zcI (.int i) (.int j) st Q=Q (.int (i - j)) st:=rfl
@[simp] theorem ztq:gQ (.int i) (.int j) st Q=(((-(2 ^ 64) < i/\i < 2 ^ 64)∨(-(2 ^ 64) < j/\j < 2 ^ 64))/\Q (.int (i * j)) st):=rfl
@[simp] theorem ztr:gQ (.str a) (.int i) st Q=(if i=0 then Q (.str Str.empty) st else i=1/\Q (.str a) st):=rfl
@[simp] theorem ztp:zcB (.int i) (.int j) st Q=(0 < j/\Q (.int (i % j)) st):=rfl
@[simp] theorem zsl:zc5 (.int i) (.int j) st Q=((0 < j/\j < 1099511627776)/\Q (.int (i / j)) st):=rfl
@[simp] theorem ztJ:zcF (.int i) (.int j) st Q=(jD i j/\Q (.int (i ^ j.toNat)) st):=rfl
@[simp] theorem zts:zcC (.int i) st Q=Q (.int (-i)) st:=rfl
@[simp] theorem zsh {f:Int->Int->Bool} :oH f (.int i) (.int j) st Q=Q (.bl (f i j)) st:=rfl
@[simp] theorem zsD:zc8 x .non st Q=Q (.bl (tB x)) st:=rfl
@[simp] theorem zt3:zp1 x .non st Q=Q (.bl (!tB x)) st:=rfl
@[simp] theorem ztt:tB .non=true:=rfl
@[simp] theorem ztw:tB (.int i)=false:=rfl
@[simp] theorem ztz:tB (.str a)=false:=rfl
@[simp] theorem ztu:tB (.bl p)=false:=rfl
@[simp] theorem zt0:tB (.tup xs)=false:=rfl
@[simp] theorem ztx:tB (.lst xs)=false:=rfl
@[simp] theorem ztv:tB (.dct kvs)=false:=rfl
@[simp] theorem zty:tB (.obj n)=false:=rfl
@[simp] theorem ztc:vR (.int i)=some (.inl i):=rfl
@[simp] theorem ztd:vR (.str a)=some (.inr a):=rfl
def ixO (o:Option PO)(y:PV)(st:z5)(Q:K3):Prop:=match o with
 | some (.lst xs)=>(match y with | .int i=>wT (atI xs i) λz=>Q z st | _=>False)
 | some (.dct kvs)=>wT (vR y) λk=>wT (zO kvs k) λz=>Q z st
 | _=>False
@[simp] theorem ztb:pG (.tup xs) (.int i) st Q=wT (atI xs i) λz=>Q z st:=rfl
@[simp] theorem zsV:pG (.lst xs) (.int i) st Q=wT (atI xs i) λz=>Q z st:=rfl
@[simp] theorem zta:pG (.str a) (.int i) st Q=(a.length<=sizeLine/\wT (atI a.cps.toList i) λc=>Q (.str ⟨#[c]⟩) st):=rfl
@[simp] theorem zsT:pG (.dct kvs) y st Q=wT (vR y) λk=>wT (zO kvs k) λz=>Q z st:=rfl
@[simp] theorem zsX:pG (.obj n) y st Q=ixO st[n]? y st Q:=rfl
@[simp] theorem zsZ:ixO (some (.lst xs)) (.int i) st Q=wT (atI xs i) λz=>Q z st:=rfl
@[simp] theorem zsY:ixO (some (.dct kvs)) y st Q=wT (vR y) λk=>wT (zO kvs k) λz=>Q z st:=rfl
def zdb (o:Option PO)(n:Nat)(i v:PV)(st:z5)(Q:z5->Prop):Prop:=match o with
 | some (.lst xs)=>(match i with | .int k=>yR v=true/\wT (w9 xs.length k) λj=>Q (st.set n (.lst (xs.set j v))) | _=>False)
 | some (.dct kvs)=>wT (vR i) λk=>yR v=true/\kvs.length < sizeLine/\Q (st.set n (.dct (wH kvs k v)))
 | _=>False
@[simp] theorem ztQ {Q:z5->Prop} :kF (.obj n) x y st Q=zdb st[n]? n x y st Q:=rfl
@[simp] theorem ztS {Q:z5->Prop} :zdb (some (.lst xs)) n (.int i) y st Q=(yR y=true/\wT (w9 xs.length i) λj=>Q (st.set n (.lst (xs.set j y)))):=rfl
@[simp] theorem ztR {Q:z5->Prop} :zdb (some (.dct kvs)) n x y st Q=wT (vR x) λk=>yR y=true/\kvs.length < sizeLine/\Q (st.set n (.dct (wH kvs k y))):=rfl
@[simp] theorem ztV {l h:Option Int} :pH (.tup xs) l h st Q=Q (.tup (w5 xs l h)) st:=rfl
@[simp] theorem ztT {l h:Option Int} :pH (.lst xs) l h st Q=Q (.lst (w5 xs l h)) st:=rfl
@[simp] theorem ztU {l h:Option Int} :pH (.str a) l h st Q=(a.length<=sizeLine/\((Txt.slice a l h).length<=a.length->Q (.str (Txt.slice a l h)) st)):=rfl
def zbS (o:Option PO)(k:Nat->Prop):Prop:=match o with | some (.lst xs)=>k xs.length | some (.dct kvs)=>k kvs.length | _=>False
@[simp] theorem zte:gP [x] st Q=o6 x st λn=>Q (.int n) st:=rfl
@[simp] theorem ztk {k:Nat->Prop} :o6 (.tup xs) st k=k xs.length:=rfl
@[simp] theorem ztf {k:Nat->Prop} :o6 (.lst xs) st k=k xs.length:=rfl
@[simp] theorem ztj {k:Nat->Prop} :o6 (.str a) st k=(a.length<=sizeLine/\k a.length):=rfl
@[simp] theorem ztg {k:Nat->Prop} :o6 (.obj n) st k=zbS st[n]? k:=rfl
@[simp] theorem zti {k:Nat->Prop} :zbS (some (.lst xs)) k=k xs.length:=rfl
@[simp] theorem zth {k:Nat->Prop} :zbS (some (.dct kvs)) k=k kvs.length:=rfl
def zdu (o:Option PO)(st:z5)(Q:K3):Prop:=match o with | some (.lst ys)=>Q (.tup ys) st | some (.dct kvs)=>Q (.tup (kvs.map λq=>match q.1 with | .inl i=> .int i | .inr z=> .str z)) st | _=>False
@[simp] theorem zun:kI [.lst ys] st Q=Q (.tup ys) st:=rfl
@[simp] theorem zur:kI [.tup ys] st Q=Q (.tup ys) st:=rfl
@[simp] theorem zuo:kI [.obj n] st Q=zdu st[n]? st Q:=rfl
@[simp] theorem zuq:zdu (some (.lst ys)) st Q=Q (.tup ys) st:=rfl
@[simp] theorem zup:zdu (some (.dct kvs)) st Q=Q (.tup (kvs.map λq=>match q.1 with | .inl i=> .int i | .inr z=> .str z)) st:=rfl
@[simp] theorem zsM {t:String} :gM [x,.ty t] st Q=wT (w6 x t) λb=>Q (.bl b) st:=rfl
@[simp] theorem zs2:w6 (.bl p) "int" =some true:=rfl
@[simp] theorem zs3:w6 (.bl p) "bool" =some true:=rfl
@[simp] theorem zs4:w6 (.bl p) "str" =some false:=rfl
@[simp] theorem zs5:w6 (.bl p) "tuple" =some false:=rfl
@[simp] theorem zs6:w6 (.bl p) "list" =some false:=rfl
@[simp] theorem zs7:w6 (.int i) "int" =some true:=rfl
@[simp] theorem zs8:w6 (.int i) "bool" =some false:=rfl
@[simp] theorem zs9:w6 (.int i) "str" =some false:=rfl
@[simp] theorem zs_:w6 (.int i) "tuple" =some false:=rfl
@[simp] theorem zsA:w6 (.int i) "list" =some false:=rfl
@[simp] theorem zsE:w6 (.str a) "int" =some false:=rfl
@[simp] theorem zsF:w6 (.str a) "str" =some true:=rfl
@[simp] theorem zsG:w6 (.str a) "tuple" =some false:=rfl
@[simp] theorem zsH:w6 (.tup xs) "int" =some false:=rfl
@[simp] theorem zsI:w6 (.tup xs) "str" =some false:=rfl
@[simp] theorem zsJ:w6 (.tup xs) "tuple" =some true:=rfl
@[simp] theorem zsK:w6 (.tup xs) "list" =some false:=rfl
@[simp] theorem zsB:w6 (.lst xs) "tuple" =some false:=rfl
@[simp] theorem zsC:w6 (.lst xs) "list" =some true:=rfl
@[simp] theorem zs1:gL [.int i] st Q=Q (.int i) st:=rfl
@[simp] theorem zs0:gL [.bl p] st Q=Q (.int (if p then 1 else 0)) st:=rfl
@[simp] theorem zto:zp0 [.int i,.int j] st Q=Q (.int (if j < i then j else i)) st:=rfl
@[simp] theorem ztn:zpz [.int i,.int j] st Q=Q (.int (if j > i then j else i)) st:=rfl
def zdt (o:Option PO)(k:Bool->Prop):Prop:=match o with | some (.lst xs)=>k (!xs.isEmpty) | some (.dct xs)=>k (!xs.isEmpty) | _=>False
@[simp] theorem zuh {k:Bool->Prop} :sA .non st k=k false:=rfl
@[simp] theorem zud {k:Bool->Prop} :sA (.bl p) st k=k p:=rfl
@[simp] theorem zuf {k:Bool->Prop} :sA (.int i) st k=k (i !=0):=rfl
@[simp] theorem zul {k:Bool->Prop} :sA (.str a) st k=(a.length<=sizeLine/\k ((a.length:Int) !=0)):=rfl
@[simp] theorem zum {k:Bool->Prop} :sA (.tup xs) st k=k (!xs.isEmpty):=rfl
@[simp] theorem zug {k:Bool->Prop} :sA (.lst xs) st k=k (!xs.isEmpty):=rfl
@[simp] theorem zue {k:Bool->Prop} :sA (.dct kvs) st k=k (!kvs.isEmpty):=rfl
@[simp] theorem zui {k:Bool->Prop} :sA (.obj n) st k=zdt st[n]? k:=rfl
@[simp] theorem zuk {k:Bool->Prop} :zdt (some (.lst xs)) k=k (!xs.isEmpty):=rfl
@[simp] theorem zuj {k:Bool->Prop} :zdt (some (.dct kvs)) k=k (!kvs.isEmpty):=rfl
def zeo (o:Option PO)(n:Nat)(y:PV)(st:z5)(Q:K3):Prop:=match o with | some (.lst zs)=>yR y=true/\zs.length < sizeLine/\Q .non (st.set n (.lst (zs++ [y]))) | _=>False
@[simp] theorem zsf:gK (.obj n) [y] st Q=zeo st[n]? n y st Q:=rfl
@[simp] theorem zsg:zeo (some (.lst zs)) n y st Q=(yR y=true/\zs.length < sizeLine/\Q .non (st.set n (.lst (zs++ [y])))):=rfl
def zeW (o:Option PO)(n:Nat)(ys:List PV)(st:z5)(Q:K3):Prop:=match o with | some (.lst zs)=>zs.length+ys.length<=sizeLine/\Q .non (st.set n (.lst (zs++ys))) | _=>False
@[simp] theorem zst:zc7 (.obj n) [.lst ys] st Q=zeW st[n]? n ys st Q:=rfl
@[simp] theorem zsu:zeW (some (.lst zs)) n ys st Q=(zs.length+ys.length<=sizeLine/\Q .non (st.set n (.lst (zs++ys)))):=rfl
def zh1 (o:Option PO)(n:Nat)(st:z5)(Q:K3):Prop:=match o with | some (.lst zs)=>wT zs.getLast? λy=>Q y (st.set n (.lst zs.dropLast)) | _=>False
@[simp] theorem ztH:zcD (.obj n) [] st Q=zh1 st[n]? n st Q:=rfl
@[simp] theorem ztI:zh1 (some (.lst zs)) n st Q=wT zs.getLast? λy=>Q y (st.set n (.lst zs.dropLast)):=rfl
def dctO (o:Option PO):Option (List (z8×PV)):=match o with | some (.dct kvs)=>some kvs | _=>none
@[simp] theorem zsi:q5 (.dct kvs) st=some kvs:=rfl
@[simp] theorem zsj:q5 (.obj n) st=dctO st[n]?:=rfl
@[simp] theorem zsk:dctO (some (.dct kvs))=some kvs:=rfl
def tyO (o:Option PO):String:=match o with | some (.lst _)=> "list" | some (.dct _)=> "dict" | _=> ""
@[simp] theorem zut:rG (.lst xs) st= "list" :=rfl
@[simp] theorem zus:rG (.dct kvs) st= "dict" :=rfl
@[simp] theorem zux:rG (.str a) st= "str" :=rfl
@[simp] theorem zuu:rG (.obj n) st=tyO st[n]?:=rfl
@[simp] theorem zuw:tyO (some (.lst xs))= "list" :=rfl
@[simp] theorem zuv:tyO (some (.dct kvs))= "dict" :=rfl
def zbJ (o:Option PO):Option (List PV):=match o with | some (.lst xs)=>some xs | some (.dct kvs)=>some (kvs.map λq=>tF q.1) | _=>none
@[simp] theorem zsO:rH (.lst xs) st=some xs:=rfl
@[simp] theorem zsS:rH (.tup xs) st=some xs:=rfl
@[simp] theorem zsN:rH (.dct kvs) st=some (kvs.map λq=>tF q.1):=rfl
@[simp] theorem zsP:rH (.obj n) st=zbJ st[n]?:=rfl
@[simp] theorem zsR:zbJ (some (.lst xs))=some xs:=rfl
@[simp] theorem zsQ:zbJ (some (.dct kvs))=some (kvs.map λq=>tF q.1):=rfl
@[simp] theorem ztl:zpy [x] st Q=wT (rH x st) λys=>Q (.lst ys) st:=rfl
@[simp] theorem ztm:zcA [x] st Q=wT (rH x st) λys=>Q (.obj st.length) (st++ [.lst ys]):=rfl
def ziz (Q:Bool->z5->Prop)(x:PV)(st:z5):Prop:=match x with | .bl k=>Q k st | _=>False
@[simp] theorem ztZ {T:zB}{Q:Bool->z5->Prop} :mM T env st Q=T env st (ziz Q):=rfl
@[simp] theorem zua {Q:Bool->z5->Prop} :ziz Q (.bl p) st=Q p st:=rfl
def zen (T:zB)(env:zG)(Q:K3)(x:PV)(st:z5):Prop:=match x with | .bl c=>if c=true then T env st Q else Q (.bl false) st | _=>False
@[simp] theorem zrX {T U:zB} :zi_ T U env st Q=T env st (zen U env Q):=rfl
@[simp] theorem zrY {T:zB} :zen T env Q (.bl p) st=if p=true then T env st Q else Q (.bl false) st:=rfl
def orK (T:zB)(env:zG)(Q:K3)(x:PV)(st:z5):Prop:=match x with | .bl c=>if c=true then Q (.bl true) st else T env st Q | _=>False
@[simp] theorem ztB {T U:zB} :zrw T U env st Q=T env st (orK U env Q):=rfl
@[simp] theorem ztC {T:zB} :orK T env Q (.bl p) st=if p=true then Q (.bl true) st else T env st Q:=rfl
def zgQ (Q:K3)(x:PV)(st:z5):Prop:=match x with | .bl c=>Q (.bl (!c)) st | _=>False
@[simp] theorem zt1 {T:zB} :ziI T env st Q=T env st (zgQ Q):=rfl
@[simp] theorem zt2:zgQ Q (.bl p) st=Q (.bl (!p)) st:=rfl
@[simp] theorem zsx {gs:tV}{Q:zG->z5->Prop} :gT n gs (.tup xs) env st Q=(xs.length=n/\gs xs env st Q):=rfl
@[simp] theorem zsv {gs:tV}{Q:zG->z5->Prop} :gT n gs (.lst xs) env st Q=(xs.length=n/\gs xs env st Q):=rfl
@[simp] theorem zsz {Q:zG->z5->Prop} :gsN [] env st Q=Q env st:=rfl
@[simp] theorem zsy {g:xL}{gs:tV}{Q:zG->z5->Prop} :gsC g gs (x::xs) env st Q=g x env st λenv1 st1=>gs xs env1 st1 Q:=rfl
def zht (n m:Nat)(D:xV)(env:zG)(xs:List PV)(st:z5):Prop:=match xs with | [x,y]=>D.nx ((env.set n (some x)).set m (some y)) st | _=>False
@[simp] theorem ztD {T:yD}{D:xV} :ziJ n m T D env st=T env st (zht n m D env):=rfl
@[simp] theorem ztE {D:xV} :zht n m D env [x,y] st=D.nx ((env.set n (some x)).set m (some y)) st:=rfl
def zhs (n m l:Nat)(D:xV)(env:zG)(xs:List PV)(st:z5):Prop:=match xs with | [x,y,z]=>D.nx (((env.set l (some z)).set m (some y)).set n (some x)) st | _=>False
@[simp] theorem ztF {l:Nat}{T:yD}{D:xV} :zrx n m l T D env st=T env st (zhs n m l D env):=rfl
@[simp] theorem ztG {l:Nat}{D:xV} :zhs n m l D env [x,y,z] st=D.nx (((env.set l (some z)).set m (some y)).set n (some x)) st:=rfl
def c5 (o:Option PO)(n:Nat)(st:z5)(Q:x6->List PV->z5->Prop):Prop:=match o with | some (.lst xs)=>Q (some (n,.lst xs)) xs st | _=>False
def mZ (Q:x6->List PV->z5->Prop)(x:PV)(st:z5):Prop:=match x with
 | .lst xs=>Q none xs st
 | .tup xs=>Q none xs st
 | .str z=>z.length<=sizeLine/\Q none (pM z) st
 | .obj n=>c5 st[n]? n st Q
 | _=>False
@[simp] theorem zrZ {T:zB}{Q:x6->List PV->z5->Prop} :zgm T env st Q=T env st (mZ Q):=rfl
@[simp] theorem zsa {Q:x6->List PV->z5->Prop} :mZ Q (.lst xs) st=Q none xs st:=rfl
@[simp] theorem zse {Q:x6->List PV->z5->Prop} :mZ Q (.tup xs) st=Q none xs st:=rfl
@[simp] theorem zsd {Q:x6->List PV->z5->Prop} :mZ Q (.str a) st=(a.length<=sizeLine/\Q none (pM a) st):=rfl
@[simp] theorem zsb {Q:x6->List PV->z5->Prop} :mZ Q (.obj n) st=c5 st[n]? n st Q:=rfl
@[simp] theorem zsc {Q:x6->List PV->z5->Prop} :c5 (some (.lst xs)) n st Q=Q (some (n,.lst xs)) xs st:=rfl
def zhO (Q:x6->List PV->z5->Prop)(xs:List PV)(st:z5):Prop:=match xs with | [.int j]=>(-1000000<=j/\j<=1000000)/\Q none (wD 0 j.toNat) st | _=>False
@[simp] theorem ztM {T:yD}{Q:x6->List PV->z5->Prop} :zgn T env st Q=T env st (zhO Q):=rfl
@[simp] theorem ztN {Q:x6->List PV->z5->Prop} :zhO Q [.int j] st=((-1000000<=j/\j<=1000000)/\Q none (wD 0 j.toNat) st):=rfl
def zhN (Q:x6->List PV->z5->Prop)(xs:List PV)(st:z5):Prop:=match xs with | [.int i,.int j]=>(-1000000<=i/\i<=1000000/\ -1000000<=j/\j<=1000000)/\Q none (wD i (j - i).toNat) st | _=>False
@[simp] theorem ztO {T:yD}{Q:x6->List PV->z5->Prop} :zgo T env st Q=T env st (zhN Q):=rfl
@[simp] theorem ztP {Q:x6->List PV->z5->Prop} :zhN Q [.int i,.int j] st=((-1000000<=i/\i<=1000000/\ -1000000<=j/\j<=1000000)/\Q none (wD i (j - i).toNat) st):=rfl
def zia (Q:Option Int->z5->Prop)(x:PV)(st:z5):Prop:=match x with | .int i=>Q (some i) st | _=>False
@[simp] theorem ztW {T:zB}{Q:Option Int->z5->Prop} :zgS T env st Q=T env st (zia Q):=rfl
@[simp] theorem ztX {Q:Option Int->z5->Prop} :zia Q (.int i) st=Q (some i) st:=rfl
def zi4 (Q:K3)(x:PV)(st:z5):Prop:=match x with | .tup xs=>Q (.tup xs.reverse) st | _=>False
@[simp] theorem zub {T:zB} :zr0 T env st Q=T env st (zi4 Q):=rfl
@[simp] theorem zuc:zi4 Q (.tup xs) st=Q (.tup xs.reverse) st:=rfl
def zhL (Q:K3)(x:PV)(st:z5):Prop:=match x with | .lst xs=>Q (.lst xs.reverse) st | _=>False
@[simp] theorem ztK {T:zB}{U:sE} :ziL T U env st Q=T env st λx st1=>U env st1 λl st2=>l=some (-1)/\zhL Q x st2:=rfl
@[simp] theorem ztL:zhL Q (.lst xs) st=Q (.lst xs.reverse) st:=rfl
@[simp] theorem zso:xA m Q (.int i) st=Q (.int i) (st.take m):=rfl
@[simp] theorem zsr:xA m Q (.str a) st=Q (.str a) (st.take m):=rfl
@[simp] theorem zsm:xA m Q (.bl p) st=Q (.bl p) (st.take m):=rfl
@[simp] theorem zsq:xA m Q .non st=Q .non (st.take m):=rfl
@[simp] theorem zss:xA m Q (.tup xs) st=Q (.tup xs) (st.take m):=rfl
@[simp] theorem zsp:xA m Q (.lst xs) st=Q (.lst xs) (st.take m):=rfl
@[simp] theorem zsn:xA m Q (.dct kvs) st=Q (.dct kvs) (st.take m):=rfl
@[simp] theorem zuy {P:Prop} :vL none st P=P:=rfl
@[simp] theorem zuz {P:Prop}{o:PO} :vL (some (n,o)) st P=(st[n]?=some o/\P):=rfl
@[simp] theorem zt8:yR .non=true:=rfl
@[simp] theorem zt6:yR (.int i)=true:=rfl
@[simp] theorem zt_:yR (.str a)=true:=rfl
@[simp] theorem zt4:yR (.bl p)=true:=rfl
@[simp] theorem ztA:yR (.tup xs)=true:=rfl
@[simp] theorem zt7:yR (.lst xs)=true:=rfl
@[simp] theorem zt5:yR (.dct kvs)=true:=rfl
@[simp] theorem zt9:yR (.obj n)=false:=rfl
end
@[simp] theorem zvc {D:xV}{env:zG}{st:z5} :zd1 D env st=(D.nx env st):=rfl
@[simp] theorem zuB {T:zB}{g:xL}{D:xV}{env:zG}{st:z5} :pQ T g D env st=(T env st λx st1=>g x env st1 D.nx):=rfl
@[simp] theorem zuT {c:yT}{t u:yV}{D:xV}{env:zG}{st:z5} :fY c t u D env st=(c env st λb st1=>if b=true then t D env st1 else u D env st1):=rfl
@[simp] theorem zvi {T:zB}{D:xV}{env:zG}{st:z5} :ziK T D env st=(T env st D.rt):=rfl
@[simp] theorem zvj {D:xV}{w1:zG}{st:z5} :zrz D w1 st=(D.rt .non st):=rfl
@[simp] theorem zuQ {T:zB}{D:xV}{env:zG}{st:z5} :fX T D env st=(T env st λ_ st1=>D.nx env st1):=rfl
@[simp] theorem zvl {T:zB}{env:zG}{st:z5}{Q:Bool->z5->Prop} :ziO T env st Q=(T env st λx st1=>sA x st1 λk=>Q k st1):=rfl
@[simp] theorem zuA {t u:yT}{env:zG}{st:z5}{Q:Bool->z5->Prop} :fW t u env st Q=(t env st λc st1=>if c=true then u env st1 Q else Q false st1):=rfl
@[simp] theorem zvg {t u:yT}{env:zG}{st:z5}{Q:Bool->z5->Prop} :vOr t u env st Q=(t env st λc st1=>if c=true then Q true st1 else u env st1 Q):=rfl
@[simp] theorem zve {t:yT}{env:zG}{st:z5}{Q:Bool->z5->Prop} :ziH t env st Q=(t env st λc st1=>Q (!c) st1):=rfl
@[simp] theorem zuS {t:yT}{Ta Tb:zB}{env:zG}{st:z5}{Q:K3} :vIf t Ta Tb env st Q=(t env st λc st1=>if c=true then Ta env st1 Q else Tb env st1 Q):=rfl
@[simp] theorem zvf {R:R3}{Ta Tb:zB}{env:zG}{st:z5}{Q:K3} :sU R Ta Tb env st Q=(Ta env st λx st1=>Tb env st1 λy st2=>R x y st2 Q):=rfl
@[simp] theorem zvn {R:PV->z5->K3->Prop}{Ta:zB}{env:zG}{st:z5}{Q:K3} :vUn R Ta env st Q=(Ta env st λx st1=>R x st1 Q):=rfl
@[simp] theorem zuG {x:PV}{w0:zG}{st:z5}{Q:K3} :vC x w0 st Q=(Q x st):=rfl
@[simp] theorem zvd {w0:zG}{st:z5}{Q:List PV->z5->Prop} :pR w0 st Q=(Q [] st):=rfl
@[simp] theorem zuM {Ta:zB}{Tr:yD}{env:zG}{st:z5}{Q:List PV->z5->Prop} :tO Ta Tr env st Q=(Ta env st λx st1=>Tr env st1 λxs st2=>Q (x::xs) st2):=rfl
@[simp] theorem zvm {T:yD}{env:zG}{st:z5}{Q:K3} :ziP T env st Q=(T env st λxs st1=>uT xs=true/\Q (.tup xs) st1):=rfl
@[simp] theorem zuV {T:yD}{env:zG}{st:z5}{Q:K3} :ziE T env st Q=(T env st λxs st1=>uT xs=true/\Q (.lst xs) st1):=rfl
@[simp] theorem zuW {T:yD}{env:zG}{st:z5}{Q:K3} :zd0 T env st Q=(T env st λxs st1=>uT xs=true/\Q (.obj st1.length) (st1++ [.lst xs])):=rfl
@[simp] theorem zuH {R:zV}{T:yD}{env:zG}{st:z5}{Q:K3} :rR R T env st Q=(T env st λxs st1=>R xs st1 Q):=rfl
@[simp] theorem zvk {T:zB}{Tl Th:sE}{env:zG}{st:z5}{Q:K3} :vSl T Tl Th env st Q=(T env st λx st1=>Tl env st1 λl st2=>Th env st2 λu st3=>pH x l u st3 Q):=rfl
@[simp] theorem zu6 {w0:zG}{st:z5}{Q:Option Int->z5->Prop} :zgR w0 st Q=(Q none st):=rfl
@[simp] theorem zu3 {To Ti:zB}{v:PV}{env:zG}{st:z5}{Q:zG->z5->Prop} :gS To Ti v env st Q=(To env st λo st1=>Ti env st1 λi st2=>kF o i v st2 λst3=>Q env st3):=rfl
@[simp] theorem zuC {T:String}{R:PV->zV}{To:zB}{TA:yD}{env:zG}{st:z5}{Q:K3} :vBM T R To TA env st Q=(To env st λx st1=>rG x st1=T/\TA env st1 λxs st2=>R x xs st2 Q):=rfl
@[simp] theorem zuD {T:String}{R:PV->zV}{To:zB}{env:zG}{st:z5}{Q:K3} :ziA T R To env st Q=(To env st λx st1=>rG x st1=T/\R x [] st1 Q):=rfl
@[simp] theorem zuO {w0:zG}{st:z5}{Q:K3} :ziC w0 st Q=(Q (.obj st.length) (st++ [.dct []])):=rfl
@[simp] theorem zuF {D:xV}{env:zG}{st:z5} :zrm D env st=(D.bk env st):=rfl
@[simp] theorem zuN {D:xV}{env:zG}{st:z5} :ziB D env st=(D.ct env st):=rfl
@[simp] theorem zu8 {x:PV}{y:PV}{st:z5}{Q:K3} :zc6 x y st Q=((zF x<=50/\zF y < 1000)/\Q (.bl (y8 x y)) st):=rfl
@[simp] theorem zu9 {x:PV}{y:PV}{st:z5}{Q:K3} :zhG x y st Q=((zF x<=50/\zF y < 1000)/\Q (.bl (!y8 x y)) st):=rfl
@[simp] theorem zu2 {i:Nat}{x:PV}{env:zG}{st:z5}{Q:zG->z5->Prop} :gN i x env st Q=(Q (env.set i (some x)) st):=rfl
@[simp] theorem zvb {w0:xV}{w1:zG}{w2:z5} :zrv w0 w1 w2=(False):=rfl
@[simp] theorem zuR {I:wX}{g:xL}{b:yV}{D:xV}{env:zG}{st:z5} :ziD I g b D env st=(I env st λsrc xs st1=>eO g b src xs D env st1):=rfl
@[simp] theorem zuK {own:Nat}{I:wX}{g:xL}{tt:yT}{el:zB}{env:zG}{st:z5}{Q:K3} :j9 own I g tt el env st Q=(I env st λsrc xs st1=>pU own g tt el src xs (λys st2=>Q (.lst ys) st2) env st1):=rfl
@[simp] theorem zuL {own:Nat}{I:wX}{g:xL}{tt:yT}{el:zB}{env:zG}{st:z5}{Q:K3} :zrp own I g tt el env st Q=(I env st λsrc xs st1=>pU own g tt el src xs (λys st2=>Q (.obj st2.length) (st2++ [.lst ys])) env st1):=rfl
@[simp] theorem zvo {w0:zG}{st:z5}{Q:Bool->z5->Prop} :zd5 w0 st Q=(Q true st):=rfl
@[simp] theorem zu_ {N:List Str}{xs:List PV} :pO N xs=xs.map some++List.replicate (N.length - xs.length) none:=rfl
@[simp] theorem zu7 {xs:List PV} :uT xs=(xs.all yR&&Nat.ble xs.length 1000):=rfl
@[simp] theorem zrR {x:PV}{e:zG}{st:z5}{Q:K3} :uA 0 (some x::e) st Q=Q x st:=rfl
@[simp] theorem zrS {i:Nat}{x:Option PV}{e:zG}{st:z5}{Q:K3} :uA (i+1) (x::e) st Q=uA i e st Q:=rfl
@[simp] theorem zrM {α:Type}{x:α}{F:α->Prop} :wT (some x) F=F x:=rfl
section
variable {α β:Type} {x y z u v:α} {xs ys:List α} {f:α->β} {n i:Nat} {p:Prop} {b:Bool} {st:List α}
@[simp] theorem zrH:(x::xs).map f=f x::xs.map f:=rfl
@[simp] theorem zrI:([]:List α).map f= []:=rfl
@[simp] theorem zrF:(x::xs).length=xs.length+1:=rfl
@[simp] theorem zrG:([]:List α).length=0:=rfl
@[simp] theorem zr8:(x::xs)++ys=x::(xs++ys):=rfl
@[simp] theorem zr9: []++ys=ys:=rfl
@[simp] theorem zrN:List.replicate (n+1) x=x::List.replicate n x:=rfl
@[simp] theorem zrO:List.replicate 0 x= []:=rfl
@[simp] theorem zrP:(x::xs).set 0 y=y::xs:=rfl
@[simp] theorem zrQ:(x::xs).set (n+1) y=x::xs.set n y:=rfl
@[simp] theorem zrD:(x::xs)[0]?=some x:=rfl
@[simp] theorem zrE:(x::xs)[n+1]?=xs[n]?:=rfl
@[simp] theorem zrK:(!true)=false:=rfl
@[simp] theorem zrJ:(!false)=true:=rfl
@[simp] theorem ze1:(some x).isSome=true:=rfl
@[simp] theorem zrC:(some x).getD y=x:=rfl
@[simp] theorem zrB:(none:Option α).getD y=y:=rfl
@[simp] theorem zr6 {q:α->Bool} :(x::xs).all q=(q x&&xs.all q):=rfl
@[simp] theorem zr7 {q:α->Bool} :([]:List α).all q=true:=rfl
@[simp] theorem zr_ {m:Nat} :Nat.ble (n+1) (m+1)=Nat.ble n m:=rfl
end
section
variable {Q:K3} {st:z5} {x:PO} {xs:List PV} {kvs:List (z8×PV)} {i j:Int} {a b:Str} {p q:Bool} {l:List (Str×Int)}
@[simp] theorem zrA {m:Nat} :xA m Q (rW l) st=Q (rW l) (st.take m):=rfl
@[simp] theorem zrL:yR (rW l)=true:=rfl
end
theorem cB:(∀{α:Type} {x:α} {xs:List α},atI (x::xs) 0=some x)/\(∀{α:Type} {x y:α} {xs:List α},atI (x::y::xs) 1=some y)/\(∀{α:Type} {x y z:α} {xs:List α},atI (x::y::z::xs) 2=some z)/\(∀{α:Type} {x y z u:α} {xs:List α},atI (x::y::z::u::xs) 3=some u)/\(∀{α:Type} {x y z u v:α} {xs:List α},atI (x::y::z::u::v::xs) 4=some v)/\
  (∀{n:Nat},w9 (n+1) 0=some 0)/\(∀{n:Nat},w9 (n+2) 1=some 1)/\(∀{p:Prop},(True/\p)=p)/\(∀{p:Prop},(p/\True)=p)/\(∀{q r:Prop},(if True then q else r)=q)/\(∀{q r:Prop},(if False then q else r)=r)/\((false=true)=False)/\(∀{p:Prop},(p∨True)=True)/\(∀{p:Prop},(True∨p)=True)/\(∀{p:Prop},(p/\p)=p)/\
  (∀{α:Type} {st:List α},st.take (st.length+0)=st)/\(∀{α:Type} {st:List α},st.take st.length=st)/\(∀{α:Type} {st:List α} {i:Nat} {x:α},(st.set i x).take (st.length+0)=st.set i x)/\(∀{α:Type} {st:List α} {i:Nat} {x:α},(st.set i x).take st.length=st.set i x)/\(∀{α:Type} {st:List α} {i:Nat} {x y:α},(st.set i x).set i y=st.set i y)/\
  (∀{α:Type} {st:List α} {i:Nat} {x:α},(st[i]?).isSome=true->(st.set i x)[i]?=some x)/\(∀{α:Type} {st:List α} {x:α},(st++ [x])[st.length]?=some x)/\(∀{α:Type} {st:List α} {x y:α},(st++ [x]).set st.length y=st++ [y])/\(∀{α:Type} {st:List α} {x:α},(st++ [x]).take (st.length+0)=st)/\(∀{α:Type} {st:List α} {x:α},(st++ [x]).take st.length=st)/\(∀{α:Type} {st:List α} {x:α},(st++ [x]).take (st.length+1)=st++ [x])/\
  (∀{b:Bool},(b&&true)=b)/\(∀{b:Bool},(true&&b)=b)/\(∀{m:Nat},Nat.ble 0 m=true)/\(∀{m:Nat},(0<=m)=True)/\(∀{n:Nat},max n 0=n)/\(∀{n:Nat},max 0 n=n)/\(∀{h:Decidable True},@decide True h=true)/\(∀{h:Decidable False},@decide False h=false)/\
  (∀{Q:K3} {st:z5} {x:PO},xA (st.length+1) Q (.obj st.length) (st++ [x])=Q (.obj st.length) (st++ [x]))/\(∀{Q:K3} {st:z5} {xs:List PV},xA (st.length+0) Q (.obj st.length) (st++ [.lst xs])=Q (.lst xs) st)/\(∀{Q:K3} {st:z5} {kvs:List (z8×PV)},xA (st.length+0) Q (.obj st.length) (st++ [.dct kvs])=Q (.dct kvs) st)/\
  (∀{Q:K3} {st:z5} {xs:List PV},xA st.length Q (.obj st.length) (st++ [.lst xs])=Q (.lst xs) st)/\(∀{Q:K3} {st:z5} {kvs:List (z8×PV)},xA st.length Q (.obj st.length) (st++ [.dct kvs])=Q (.dct kvs) st):=
 ⟨at0,at1,at2,at3,at4,ix0,ix1,true_and _,and_true _,if_pos trivial,if_neg id,ll,or_true _,true_or _,and_self _,zqT,fk,fS,fS,set_set,zl2,qE,j0,zdo,zdo,zqS,Bool.and_true _,Bool.true_and _,Nat.ble_eq_true_of_le (eh _),eq_true (eh _),Nat.max_zero _,Nat.zero_max _,(by simp),(by simp),zlp,iO,zeV,iO,zeV⟩
set_option Elab.async false
set_option linter.all false
set_option maxRecDepth 100000
set_option maxHeartbeats 4000000
def fZ:List (zB×zB)->zG->z5->(List (PV×PV)->z5->Prop)->Prop
 | [],_,st,Q=>Q [] st
 | (tk,tv)::r,env,st,Q=>tk env st λx st1=>tv env st1 λy st2=>fZ r env st2 λps st3=>Q ((x,y)::ps) st3
abbrev PRs (K:Frag)(A:List Addr)(H:Hp):List (PV×PV)->List (V×V)->Prop:=Paired λp q=>RE K A H p.1 q.1/\RE K A H p.2 q.2
theorem zhr {K:Frag} : ∀{trs:List (zB×zB)} {A:List Addr} {env:zG} {st:z5} {σ:St} {H:Hp} {Q3:List (PV×PV)->z5->Prop} {Q:List (V×V)->Hp->Prop},yU K A H σ env st->fZ trs env st Q3->
  (∀A' H' st' ps qs,zS A H A' H'->RS K A' H' st'->PRs K A' H' ps qs->Q3 ps st'->Q qs H')->fQ (trs.map λp=>(zP K p.1,zP K p.2)) σ H Q
 | [],A,env,st,σ,H,Q3,Q,rel,h,k=>k A H st [] [] (.refl _ _) rel.rs .nil h
 | (tk,tv)::r,A,env,st,σ,H,Q3,Q,rel,h,k=>
  ⟨A,env,st,_,rel,h,λA1 H1 st1 x v g1 s1 e1 h1=>⟨A1,env,st1,_,rel.grow g1 s1,h1,λA2 H2 st2 y u g2 s2 e2 h2=>
   zhr (trs:=r) (rel.grow (g1.trans g2) s2) h2 λA3 H3 st3 ps qs g3 s3 e3 h3=>k A3 H3 st3 _ _ ((g1.trans g2).trans g3) s3 (.cons ⟨e1.grow (g2.trans g3),e2.grow g3⟩ e3) h3⟩⟩
theorem zlY {k:z8} :vR (tF k)=some k:=by cases k <;> rfl
section
variable {X:Cx}
abbrev iE (K:Frag)(trs:List (zB×zB)):List (TE×TE):=trs.map λp=>(zP K p.1,zP K p.2)
theorem zpn {pos:Pos} :qP X pos [] [] (iE X.K []):=zoO
theorem gI {pos:Pos}{k v:Expr}{ks:List (Option Expr)}{vs:List Expr}{Tk Tv:zB}{trs:List (zB×zB)}(hk:PE X k (zP X.K Tk))(hv:PE X v (zP X.K Tv))(hr:qP X pos ks vs (iE X.K trs)):qP X pos (some k::ks) (v::vs) (iE X.K ((Tk,Tv)::trs)):=zoN hk hv hr
end
set_option Elab.async false
set_option linter.all false
set_option maxRecDepth 100000
set_option maxHeartbeats 4000000
open PySem.SeqAt
section
variable {X:Cx} {o e:Expr} {es:List Expr} {apos cpos:Pos} {To:zB} {TA:yD} {id:String} {name:Str} {R:PV->zV}
def zbH:PV->Bool | .tup _=>true | _=>false
@[simp] theorem zsL {xs:List PV} :zbH (.tup xs)=true:=rfl
def zrl (R:PV->zV)(To:zB)(TA:yD):zB:=λenv st Q=>To env st λx st1=>zbH x=true/\TA env st1 λys st2=>R x ys st2 Q
@[simp] theorem zuE {env:zG}{st:z5}{Q:K3} :zrl R To TA env st Q=To env st λx st1=>zbH x=true/\TA env st1 λys st2=>R x ys st2 Q:=rfl
end
set_option Elab.async false
set_option linter.all false
set_option maxRecDepth 100000
set_option maxHeartbeats 4000000
set_option Elab.async false
set_option linter.all false
set_option maxRecDepth 100000
set_option maxHeartbeats 4000000
set_option Elab.async false
set_option linter.all false
set_option maxRecDepth 100000
set_option maxHeartbeats 4000000
def hV (kvs:List (List Int×Int))(k:List Int):Option Int:=(kvs.find? λkv=>decide (kv.1=k)).map (·.2)
def zh5 (kvs:List (List Int×Int))(k:List Int)(v:Int):List (List Int×Int):=
 if(kvs.any λkv=>decide (kv.1=k))=true then kvs.map (λkv=>if kv.1=k then(kv.1,v)else kv)else kvs++ [(k,v)]
def zgz:PV->z5->Option (List (List Int×Int))
 | .itb kvs,_=>some kvs
 | .obj i,st=>(match st[i]? with | some (.itb kvs)=>some kvs | _=>none)
 | _,_=>none
def zrq:zB:=λ_ st Q=>Q (.obj st.length) (st++ [.itb []])
def zrs (Ta:zB)(TA:yD):zB:=λenv st Q=>Ta env st λx st1=>TA env st1 λys st2=> ∃(k:List Int) (kvs:List (List Int×Int)) (v:Int),ys=k.map PV.int/\zgz x st2=some kvs/\k.length<=100/\hV kvs k=some v/\Q (.int v) st2
def zry (Td:zB)(TA:yD)(Tv:zB):yV:=λD env st=>Tv env st λv st1=>Td env st1 λx st2=>TA env st2 λys st3=> ∃(k:List Int) (i:Nat) (kvs:List (List Int×Int)) (z:Int),ys=k.map PV.int/\v= .int z/\x= .obj i/\st3[i]?=some (.itb kvs)/\k.length<=100/\kvs.length < sizeLine/\D.nx env (st3.set i (.itb (zh5 kvs k z)))
@[simp] theorem zuP {env:zG}{st:z5}{Q:K3} :zrq env st Q=Q (.obj st.length) (st++ [.itb []]):=rfl
@[simp] theorem zuU {Ta:zB}{TA:yD}{env:zG}{st:z5}{Q:K3} :zrs Ta TA env st Q=(Ta env st λx st1=>TA env st1 λys st2=> ∃(k:List Int) (kvs:List (List Int×Int)) (v:Int),ys=k.map PV.int/\zgz x st2=some kvs/\k.length<=100/\hV kvs k=some v/\Q (.int v) st2):=rfl
@[simp] theorem zvh {Td:zB}{TA:yD}{Tv:zB}{D:xV}{env:zG}{st:z5} :zry Td TA Tv D env st=(Tv env st λv st1=>Td env st1 λx st2=>TA env st2 λys st3=> ∃(k:List Int) (i:Nat) (kvs:List (List Int×Int)) (z:Int),ys=k.map PV.int/\v= .int z/\x= .obj i/\st3[i]?=some (.itb kvs)/\k.length<=100/\kvs.length < sizeLine/\D.nx env (st3.set i (.itb (zh5 kvs k z)))):=rfl
set_option Elab.async false
set_option linter.all false
set_option maxRecDepth 100000
set_option maxHeartbeats 4000000
def zrn (good:pS->Prop)(i:Nat)(TA:yD):zB:=λenv st Q=> ∃D:pS,env[i]?=some (some (.clo D))/\good D/\TA env st λxs st1=> ∃(k:List Int) (v:Int),xs=k.map PV.int/\k.length=3/\hV D.kvs k=some v/\Q (.int v) st1
@[simp] theorem zuI {good:pS->Prop}{i:Nat}{TA:yD}{env:zG}{st:z5}{Q:K3} :zrn good i TA env st Q= ∃D:pS,env[i]?=some (some (.clo D))/\good D/\TA env st λxs st1=> ∃(k:List Int) (v:Int),xs=k.map PV.int/\k.length=3/\hV D.kvs k=some v/\Q (.int v) st1:=rfl
set_option Elab.async false
set_option linter.all false
set_option maxRecDepth 100000
set_option maxHeartbeats 4000000
def zpr:R3:=λx y st Q=> ∃xs ys,sJ x st=some xs/\sJ y st=some ys/\xs.length+ys.length<=sizeLine/\Q (.obj st.length) (st++ [.lst (xs++ys)])
theorem zmZ {X:Cx} :yI X (binaryOp .Add) (xQ X.K zpr):=uK λpins s σ H A st x y v w vv ww Q3 Q I rs ex ey rv rw h k=>by
 obtain⟨xs,ys,e1,e2,hl,q⟩:=h;obtain⟨a,vs,rfl,h1,r1,z1⟩:=nQ rs ex e1;obtain⟨b,us,rfl,h2,r2,z2⟩:=nQ rs ey e2;rw[r1.len,r2.len]at hl;exact zhg pins s σ H _ _ vv ww Q I rv rw ⟨_,_,_,_,rfl,rfl,h1,h2,hl,k.lstO rs (r1.append r2) (by rw[af];exact hl) q⟩
set_option Elab.async false
set_option linter.all false
set_option maxRecDepth 100000
set_option maxHeartbeats 4000000
section
variable {X:Cx} {a b e:Expr} {es:List Expr} {pos p p2:Pos} {Ta Tb:zB} {TA:yD}
def rA (xs:List PV):List PV:=xs.mapIdx λi x=> .tup [.int (i:Int),x]
theorem rB {xs:List PV} :(rA xs).length=xs.length:=by unfold rA;simp
theorem o4 {xs:List PV}{i:Nat}{y:PV}(h:(rA xs)[i]?=some y): ∃x,xs[i]?=some x/\y= .tup [.int (i:Int),x]:=by
 unfold rA at h;rw[kf]at h;cases e:xs[i]? with
 | none=>rw[e]at h;cases h
 | some x=>rw[e]at h;exact⟨x,rfl,(bx h).symm⟩
theorem zgw {K:Frag}{A:List Addr}{H:Hp}{a:Addr}{xs:List PV}{src:x6}(hz:xs.length<=sizeLine)(hv: ∀A' H' st,zS A H A' H'->RS K A' H' st->pA src st->∃vs,yE K H' a vs/\RVs K A' H' xs vs):sB K A H src (dC K a) (rA xs) where
 go:=λi A' H' st g s ok hi=>by
  obtain⟨vs,h,r⟩:=hv A' H' st g s ok;rw[rB,r.len]at hi;exact⟨vs,vs[i],h,by simp[hi]⟩
 yld:=λi x A' H' st v H2 hx g s ok y=>by
  obtain⟨p,x',hp,hx',rfl,rfl⟩:=y;obtain⟨vs,h,r⟩:=hv A' H' st g s ok;obtain⟨z,hz',rfl⟩:=o4 hx;obtain⟨w,ew,rw'⟩:=r.get hz';have:=hx' vs h;rw[ew]at this;cases this;exact⟨.new hp,s.new hp,.val (.tup (.inl ⟨.inl yS,s.fresh hp⟩) (by show 2<=sizeLine;decide) (.cons (.int _) (.cons (rw'.grow (.new hp)) .nil)))⟩
 stop:=λA' H' st g s ok=>by
  obtain⟨vs,h,r⟩:=hv A' H' st g s ok;exact⟨vs,h,by rw[rB,r.len];exact ak _⟩
 small:=by rw[rB];exact hz
def zbV (x:PV)(st:z5)(F:x6->List PV->Prop):Prop:=(∃xs,x= .lst xs/\F none xs)∨∃i xs,x= .obj i/\st[i]?=some (.lst xs)/\F (some (i,.lst xs)) xs
def zl_ (T:yD):wX:=λenv st Q=>T env st λzs st1=> ∃z,zs= [z]/\zbV z st1 λsrc xs=>Q src (rA xs) st1
theorem zc1 {elts:List Expr}{k:Nat}{pos':Pos}(hg:Gl X "enumerate")(hm:X.mg "enumerate" =none)(ha:PA X [a] (wY X.K TA))(hs:starEach [a] X.env= [(false,eval a X.env)]:=by rfl):PI X (.Tuple elts k pos') (.Call (.Name "enumerate" p) [a] [] pos) (t6 X.K (zl_ TA)):=by
 refine nV (zo_ hg hm ha hs) λσ H R ⟨A,env,st,Q3,rel,h,k⟩=>⟨A,env,st,_,rel,h,λA1 H1 st1 zs vs g1 s1 e1 h1=> ?_⟩;obtain⟨z,rfl,h1⟩:=h1;obtain⟨v,rfl,e⟩:=yA.one e1;rcases h1 with⟨xs,rfl,h1⟩ | ⟨i,xs,rfl,q,h1⟩
 ·cases e with | val e=>cases e with | lst t hz r=>
   exact⟨_,rfl,⟨_,t.sq⟩,k A1 H1 st1 _ _ _ g1 s1 (zgw (by rw[r.len];exact hz) λA' H' st' g s _=>⟨_,(t.grow g).sq,r.grow g⟩) h1⟩
 ·cases e with
  | val e=>cases e
  | obj eo=>
   obtain⟨vs,h2,r,hz⟩:=s1.at_ _ _ _ eo q;exact⟨_,rfl,⟨_,.of h2⟩,k A1 H1 st1 _ _ _ g1 s1 (zgw (by rw[r.len];exact hz) λA' H' st' g s ok=>by
    obtain⟨vs',h2',r',_⟩:=s.at_ _ _ _ (g.sub eo) ok;exact⟨vs',.of h2',r'⟩) h1⟩
end
end L3
namespace Sets
open PySem
def zjD (xs:Array Nat):Prop:= ∀i j (hi:i < xs.size) (hj:j < xs.size),i < j->xs[i] < xs[j]
structure oX (led:Bool)(n:Nat)(t:SetTable):Prop where
 fits:t.fits n=true
 led:t.led=led
 rise:zjD t.place
 dum:t.dummies= #[]
set_option Elab.async false
set_option linter.all false
set_option maxRecDepth 100000
set_option maxHeartbeats 4000000
open PyProof.Rows
def zjJ (led:Bool)(a:Addr)(es:Array (Int×Value))(h:Heap):Prop:= ∃o ep t,h.get? a=some o/\o.ExactSet/\o.data= .set es ep t/\oX led es.size t
set_option Elab.async false
set_option linter.all false
set_option maxRecDepth 100000
set_option maxHeartbeats 4000000
set_option Elab.async false
set_option linter.all false
set_option maxRecDepth 100000
set_option maxHeartbeats 4000000
set_option Elab.async false
set_option linter.all false
set_option maxRecDepth 100000
set_option maxHeartbeats 4000000
set_option Elab.async false
set_option linter.all false
set_option maxRecDepth 100000
set_option maxHeartbeats 4000000
section
variable {prog:Program} {w:World} {A:Around} {E:Value->Shared->Prop} {s:Shared}
abbrev zml (w:World):Bool:= !w.params.followText "set-order"
end
inductive i7 {α β:Type}(R:α->β->Prop):List α->List β->Prop
 | nil:i7 R [] []
 | cons {a:α} {b:β} {l:List α} {m:List β} :R a b->i7 R l m->i7 R (a::l) (b::m)
def zjO {K:Type}[DecidableEq K](ds:List K)(k:K):List K:=if k∈ds then ds else ds++ [k]
def dd {K:Type}[DecidableEq K](ks:List K):List K:=ks.foldl zjO []
section
variable {prog:Program} {w:World} {K:Type} [DecidableEq K] (knd:KeyKind prog w K)
def IsE (e:Int×Value)(k:K):Prop:=knd.is k e.2=true/\e.1=knd.hash k/\e.2.scannable=true
def zjf (es:Array (Int×Value))(ds:List K):Prop:= ∃ds':List K,ds'.Perm ds/\i7 (IsE knd) es.toList ds'
variable {knd}
end
set_option Elab.async false
set_option linter.all false
set_option maxRecDepth 100000
set_option maxHeartbeats 4000000
section
variable {prog:Program} {w:World} {A:Around} {E:Value->Shared->Prop} {s:Shared} {K:Type} [DecidableEq K] {knd:KeyKind prog w K}
def Holds (knd:KeyKind prog w K)(a:Addr)(ds:List K)(h:Heap):Prop:= ∃es,zjJ (zml w) a es h/\zjf knd es ds
end
end Sets
set_option maxHeartbeats 1000000
namespace L3
section
variable {α:Type} [DecidableEq α] {w U u l:List α} {A B a b:Nat}
structure zj3 (w:List α)(A B:Nat)(U:List α):Prop where
 ab:A<=B
 bn:B<=w.length
 an:A < w.length
 front: ∀x∈U,x∉w.take A
 zkp: ∀x∈U,x∉w.drop B
 hd: ∀x,U.head?=some x->w[A]?≠some x
 ne:U= []->A < B
 ls:A < B->∀x,U.getLast?=some x->w[B - 1]?≠some x
def gl (w:List α):Nat->List (Nat×Nat×List α)->List α
 | k,[]=>w.drop k
 | k,(a,b,u)::r=>(w.take a).drop k++u++gl w b r
structure Dn (w:List α)(ds:List (Nat×Nat×List α)):Prop where
 nd:w.Nodup
 hull: ∀(i:Nat) (c:Nat×Nat×List α),ds[i]?=some c->zj3 w c.1 c.2.1 c.2.2/\∀x∈c.2.2,x∉w
 apart: ∀(i j:Nat) (c d:Nat×Nat×List α),i < j->ds[i]?=some c->ds[j]?=some d->c.2.1<=d.1/\c.1 < d.1
variable {ds:List (Nat×Nat×List α)} {h k:Nat} {x:List α} {n:Nat}
end
set_option Elab.async false
set_option linter.all false
set_option maxRecDepth 100000
set_option maxHeartbeats 4000000
open PySem PySem.Spec PyProof.Rows L2
section
variable {X:Cx}
def zcE:PV->zV:=λx xs st Q=> ∃(i k:Nat) (y:PV) (zs:List PV),x= .obj i/\xs= [.int (k:Nat)]/\st[i]?=some (.lst zs)/\zs[k]?=some y/\Q y (st.set i (.lst (zs.eraseIdx k)))
theorem RVs.erase {K:Frag}{A:List Addr}{H:Hp} : ∀{xs:List PV} {vs:List V} (n:Nat),RVs K A H xs vs->RVs K A H (xs.eraseIdx n) (vs.eraseIdx n)
 | _,_,_,.nil=> .nil
 | _,_,0,.cons r t=>t
 | _,_,n+1,.cons r t=> .cons r (RVs.erase n t)
theorem zgX:tT X "list.pop" (rY X.K zcE):=by
 intro pins s σ H v vs vv us Q I rv rvs ⟨A,st,x,xs,Q3,rs,ex,exs,h,k⟩;obtain⟨i,n,y,zs,rfl,rfl,q,hy,h⟩:=h;obtain⟨w,rfl,e1⟩:=yA.one exs;cases xF e1;cases ex with
 | val e=>cases e
 | obj eo=>
  have hm:=cj eo;obtain⟨ws,h1,r,z⟩:=rs.at_ _ _ _ eo q;obtain⟨u,hu,ru⟩:=r.get hy;have hlt:n < ws.length:=(ad.mp hu).1;have hi:((n:Nat):Int) < 2 ^ 63:=Int.lt_of_lt_of_le (wf.mpr (bc hlt z)) (by decide);refine zmG pins s σ H _ _ vv us Q I rv rvs ⟨_,ws,(n:Int),n,u,rfl,rfl,h1,Int.le_trans (by decide: -(2:Int) ^ 63<=0) (wg n),hi,PySem.StrLaws.seqIndex_nonneg (wg n) (wf.mpr hlt),hu,k A _ _ _ _ (.put hm) (rs.put (q:= .lst (zs.eraseIdx n)) eo ⟨_,yS,(r.erase n).grow (.put hm),?_⟩) (.val (ru.grow (.put hm))) h⟩;exact bq (ii ..) z
end
end L3
set_option maxHeartbeats 4000000
namespace L2
open PySem PySem.Spec PyProof.Rows
section
variable {prog:Program} {w:World} {A:Around} {E:Value->Shared->Prop} {s:Shared}
theorem zlb {it t:Addr}{i:Nat}{its:Array Value}{x:Value}{Q:Value->Shared->Prop}(hit:s.heap.IsTupleIter it t i)(ht:s.heap.IsTuple t its)(hx:its[i]?=some x)
  (hQ: ∀h',h'.IsTupleIter it t (i+1)->Heap.SameBut it s.heap h'->Q x {s with heap:=h'}):bf (bt prog w) A (Builtin.SmallTypes.nextOf (.ref it)) Q E s:=by
 obtain⟨o,ho,hc,hd⟩:=id hit;obtain⟨_,hol,_,_,hdl⟩:=ht;unfold Builtin.SmallTypes.nextOf;refine ah (jf (name:=Str.ofString "__next__") hit.typeIs ju (ki ju hit.typeIs pf ?_ (ow _)));refine ah (m:=field (.ref it) 0) (jj ho hd (x:= .ref t) rfl ?_);rw[if_neg (show ¬ ((Value.ref t==Value.none)=true)from ef)];refine ah (m:=field (.ref it) 1) (jj ho hd (x:= .int i 0) rfl ?_);refine ah (m:=seqItems? (.ref t)) (uq hol hdl ?_);simp only[dj,hx];refine ah (wpAny_setField ho hd (by simp) (ay ⟨x,rfl,ay (hQ _ ⟨_,jl _ ho (Obj.isFreed_of_fields (wj hd _)),(Obj.cls_mapFields ..).trans hc,?_⟩ (ou ..))⟩));rw[wj hd];simp[rawInt]
theorem zla {it t:Addr}{i:Nat}{its:Array Value}{Q:Value->Shared->Prop}(hh:A.handled=none)(hit:s.heap.IsTupleIter it t i)(ht:s.heap.IsTuple t its)(hx:its[i]?=none)
  (hE: ∀h' e,Heap.ExtBut it s.heap h'->(∃o,h'.get? e=some o/\o.cls= .type "StopIteration")->E (.ref e) {s with heap:=h'}):bf (bt prog w) A (Builtin.SmallTypes.nextOf (.ref it)) Q E s:=by
 obtain⟨o,ho,hc,hd⟩:=id hit;obtain⟨_,hol,_,_,hdl⟩:=ht;unfold Builtin.SmallTypes.nextOf;refine ah (jf (name:=Str.ofString "__next__") hit.typeIs ju (ki ju hit.typeIs pf ?_ (ow _)));refine ah (m:=field (.ref it) 0) (jj ho hd (x:= .ref t) rfl ?_);rw[if_neg (show ¬ ((Value.ref t==Value.none)=true)from ef)];refine ah (m:=field (.ref it) 1) (jj ho hd (x:= .int i 0) rfl ?_);refine ah (m:=seqItems? (.ref t)) (uq hol hdl ?_);simp only[dj,hx];refine ah (ma (ah (wpAny_setField ho hd (by simp) ?_)));refine ah (m:=newExc (.type "StopIteration") []) ?_;simp only[newExc,newTuple];refine ah (dg ?_ (by size_fits));refine ah (m:=firstArgMember _ _) (wpAny_of_eq (a:=Value.none) (by first | rfl | (simp only[firstArgMember];rfl)) (dg ?_ (by size_fits)));simp only[raiseNew];refine ah (wpAny_handled ?_)
 first | rw[show A.in1.handled=none from hh] | rw[hh]
 exact ah (ay (wpAny_throw (hE _ _ (((ou ..).extBut.push _).push _) ⟨_,cb _ rfl,rfl⟩)))
end
theorem zeN {prog:Program}{w:World}{A:Around}(hh:A.handled=none)(it t:Addr)(hne:t≠it)(its:Array Value):Draws prog w A it [it,t] its.size (λi v=>its[i]?=some v) (λi h=>h.IsTupleIter it t i/\h.IsTuple t its) where
 live:=λ_ _ st=>let⟨o,ho,_⟩:=st.1;⟨o,ho⟩
 frame:=λ_ _ _ st hk=>⟨st.1.at λo e=>hk it (by simp) o e,let⟨o,ho,r⟩:=st.2;⟨o,hk t (by simp) o ho,r⟩⟩
 item:=λi s Q E hi st hQ=>zlb st.1 st.2 (x:=its[i]) (by simp[hi]) λh' hit' hs'=>hQ _ h' s.toks (by simp[hi]) ⟨hit',st.2.extBut hs'.extBut hne⟩ hs'
 done:=λs Q E st hE=>zla hh st.1 st.2 (by simp) hE
open AutoSeq1 (wpAny_loadPart') in
theorem zlh (t:Addr)(its:Array Value)(n:Nat)(dct:Option Addr)(sl:Array (Option Value)):
  Meets (Builtin.«enumerate.__new__» ⟨[.type "enumerate",.ref t],[]⟩) (λ_ R s=>s.heap.get? t=some {cls:= .type "tuple",dict:=dct,data:= .seq its n,slots:=sl} /\
   R (.ok (.ret (.ref (s.heap.push {cls:= .type "tuple_iterator",data:= .fields #[.ref t,.int 0 0]}).objs.size)))
    {s with heap:=(s.heap.push {cls:= .type "tuple_iterator",data:= .fields #[.ref t,.int 0 0]}).push {cls:= .type "enumerate",data:= .fields #[.none,.bool false,.ref s.heap.objs.size,rawInt 0,.none,.none]}}):=
 .of_wp λprog w A R s h=>by
  obtain⟨hp,g,d,tk,os⟩:=s;obtain⟨ht,h⟩:=h;have hsub:=sub_enumerate;have hT:Heap.IsTuple (Shared.heap ⟨hp,g,d,tk,os⟩) t its:=⟨_,ht,rfl,n,rfl⟩
  wp_walk using tj ht
  refine wpAny_stack_any λst=>ay ?_
  split
  ·rename_i c _ _ _ _ _
   cases(c==Value.type "enumerate") <;> (wp_walk using tj ht,pe hT;exact⟨_,rfl,h⟩)
  ·wp_walk using tj ht,pe hT
   exact⟨_,rfl,h⟩
theorem zk1 {prog:Program}{w:World}{A:Around}{E:Value->Shared->Prop}{s:Shared}{t:Addr}{its:Array Value}{Q:Value->Shared->Prop}(hT:s.heap.IsTuple t its)
  (h: ∀h',IsEnum h' (s.heap.objs.size+1) s.heap.objs.size 0 .none->h'.IsTupleIter s.heap.objs.size t 0->h'.objs.size=s.heap.objs.size+2->(∀b o,s.heap.get? b=some o->h'.get? b=some o)->Q (.ref (s.heap.objs.size+1)) {s with heap:=h'}):
  bf (bt prog w) A (call (.type "enumerate") [.ref t]) Q E s:=by
 obtain⟨⟨c,dct,dt,sl⟩,ht,hc,n,hd⟩:=hT;cases hc;cases hd;refine callType_new F.called_enumerate (by decide) (F.typeCall_enumerate_1 _) (F.newCall_enumerate_1 _) (λobj=>vb obj _) F.entry_enumerate_new (zlh t its n dct sl) ⟨ht,?_⟩;have hz:(s.heap.push {cls:= .type "tuple_iterator",data:= .fields #[.ref t,.int 0 0]}).objs.size=s.heap.objs.size+1:=ft ..;show _/\_;rw[hz];have he:IsEnum ((s.heap.push {cls:= .type "tuple_iterator",data:= .fields #[.ref t,.int 0 0]}).push {cls:= .type "enumerate",data:= .fields #[.none,.bool false,.ref s.heap.objs.size,rawInt 0,.none,.none]}) (s.heap.objs.size+1) s.heap.objs.size 0 .none:=by
  have:=cb (s.heap.push {cls:= .type "tuple_iterator",data:= .fields #[.ref t,.int 0 0]}) (o:= {cls:= .type "enumerate",data:= .fields #[.none,.bool false,.ref s.heap.objs.size,rawInt 0,.none,.none]}) rfl;rw[hz]at this;exact this
 exact⟨⟨_,he,rfl⟩,h _ he ⟨_,ar _ (cb _ rfl),rfl,rfl⟩ (by rw[ft,hz]) λb o x=>ar _ (ar _ x)⟩
def dD (K:Frag)(a:Addr):It:=
 ⟨λi H=> ∃xs x,x5 K H a xs/\xs[i]?=some x,λi H y H'=> ∃p x,H p=none/\(∀xs,x5 K H a xs->xs[i]?=some x)/\y= .ref p/\H'=zI H p (.tup [.int i,x]),λi H=> ∃xs,x5 K H a xs/\xs.length=i⟩
theorem zrb {P:Program}{w:World}{K:Frag}{elts:List Expr}{k:Nat}{pos:Pos}(a e it:Addr)(ne:e≠it)(ae:a≠e)(ai:a≠it):
  rV P w K (.Tuple elts k pos) (dD K a) [e,it] e (λi h=>(∃old,IsEnum h e it i old)/\h.IsTupleIter it a i) where
 mem:=by simp
 obj:=λi h st b hb=>by
  obtain⟨⟨old,he⟩,o,ho,c,d⟩:=st;rcases bd.mp hb with rfl | hb
  ·exact⟨_,he,λv z=>by cases z⟩
  ·rw[aq.mp hb];exact⟨o,ho,λv z=>by rw[d]at z;cases z⟩
 keep:=λi h h' st kk=>by
  obtain⟨⟨old,he⟩,hit⟩:=st;exact⟨⟨old,kk e (by simp) _ he⟩,hit.at λo e'=>kk it (by simp) o e'⟩
 item:=by
  intro X hP hw hK hc i pins s σ H E I hf st hg;subst hP hw hK;obtain⟨xs,x,hq,hx⟩:=hg;obtain⟨its,rv,p,hz⟩:=I.tuple hq;obtain⟨u,hu,ru⟩:=rv.get hx;obtain⟨⟨old,he⟩,hit⟩:=st;have le:e < s.heap.objs.size:=ba he;have li:it < s.heap.objs.size:=by obtain⟨o,ho,_⟩:=hit;exact ba ho
  have hi:i < its.toArray.size:=by have:=(ad.mp hu).1;simpa using this
  refine wpAny_pyNext_enum_itemD (zeN (A:=X.A.in1) (I.ok.hd hc) it a ai its.toArray) he ⟨hit,p⟩ hi ne (by simp[ne,ae.symm]) λx' h' tk hPx ho hst hT hsz kk=>⟨_,rfl,?_⟩;have ex:x'=u:=by
   have h1:its.toArray[i]?=some u:=by simpa using hu
   rw[h1]at hPx;exact(bx hPx).symm
  subst ex;refine pq (s:= {s with heap:=h',toks:=tk+1}) ho λh2 he2 hs2=> ?_;have nT:s.heap.objs.size≠e:=cw le;have hT2:h2.get? s.heap.objs.size=some {cls:= .type "tuple",data:= .seq #[.int i tk,x']} :=(hs2.2 _ nT).trans hT;have I1:z6 X pins σ H {s with heap:=h2,toks:=tk+1} :=I.turnedL (fp:= [e,it]) (λb o hb q=>(hs2.2 b λz=>hb (by simp[z])).trans (kk b o (λz=>hb (by simp[z])) (λz=>hb (by simp[z])) q)) hf;have I2:z6 X pins σ (zI H s.heap.objs.size (.tup [.int i,x])) {s with heap:=h2,toks:=tk+1} :=by
   refine nL I1 I.fresh I.sz (cw I.lt) (λx' c e' z=> ?_) (λp' hp z=> ?_) ⟨(by show 2<=sizeLine;decide),[.int i tk,x'],.cons ⟨_,rfl⟩ (.cons ru .nil),_,hT2,rfl,_,rfl,rfl⟩
   ·obtain⟨v,q⟩:=I.cell x' c e'
    have:=q.lt;rw[z]at this;exact ck _ this
   ·have:=ba (I.pin p' hp).1;rw[z]at this;exact ck _ this
  refine⟨.ref s.heap.objs.size,_,I2,rfl,⟨_,x,I.fresh,λys hy=>by rw[I.tuple_inj hy hq];exact hx,rfl,rfl⟩,⟨⟨x',by simpa using he2⟩,hst.1.at λo e'=>(hs2.2 it ne.symm).trans e'⟩,λb hb=> ?_⟩;have nb:b≠s.heap.objs.size:=by
   rcases bd.mp hb with rfl | hb
   ·exact bj le
   ·rw[aq.mp hb];exact bj li
  rw[yO nb];exact(hf b hb).1
 done:=by
  intro X hP hw hK hc i pins s σ H E I hf st hg;subst hP hw hK;obtain⟨xs,hq,rfl⟩:=hg;obtain⟨its,rv,p,hz⟩:=I.tuple hq;obtain⟨⟨old,he⟩,hit⟩:=st;have hl:=rv.length;have hl2:xs.length=its.toArray.size:=by simpa using hl
  rw[hl2]at hit;exact wpAny_pyNext_enum_endD (zeN (A:=X.A.in1) (I.ok.hd hc) it a ai its.toArray) he ⟨hit,p⟩ λh' eb=>⟨rfl,I.turnedL (t':=s.toks) (fp:= [e,it]) (λb o hb q=>eb b o (λz=>hb (by simp[z])) q) hf⟩
 self:=λ_ _ _ _ _ st h=>by
  obtain⟨⟨old,he⟩,_⟩:=st;exact np he h
section
variable {X:Cx} {elts:List Expr} {k:Nat} {pos':Pos}
def zlA (K:Frag)(ta:TA):TI:=λσ H R=>ta σ H λvs H1=> ∃a,vs= [.ref a]/\(∃xs,x5 K H1 a xs)/\R (dD K a) H1
theorem zoA {a:Expr}{ta:TA}{p pos:Pos}(hg:Gl X "enumerate")(hm:X.mg "enumerate" =none)(ha:PA X [a] ta)(hs:starEach [a] X.env= [(false,eval a X.env)]:=by rfl):PI X (.Tuple elts k pos') (.Call (.Name "enumerate" p) [a] [] pos) (zlA X.K ta):=⟨λpins s σ H R I h=>by
 refine Call_ (tY I hg hm boot_enumerate (callWith_type1 (zR (ha pos pins s σ H _ I h) λus s1 ⟨vs,H1,I1,r1,q1⟩=> ?_) hs rfl));obtain⟨a,e,⟨xs,hq⟩,q⟩:=q1;subst e;obtain⟨u,rfl,ru⟩:=uC r1;cases ru;obtain⟨its,rv,p,hz⟩:=I1.tuple hq;have la:a < s1.heap.objs.size:=by obtain⟨o,ho,_⟩:=p;exact ba ho
 refine zk1 p λh' hE hI hsz kk=> ?_;refine np hE ?_;refine⟨s1.heap.objs.size+1,[s1.heap.objs.size+1,s1.heap.objs.size],_,_,H1,rfl,I1.kept (t':=s1.toks) kk,zrb a _ _ (qw _) (bj (qh la)) (bj la),⟨⟨.none,by simpa using hE⟩,hI⟩,λb hb=> ?_,q⟩;rcases bd.mp hb with rfl | hb
 ·exact I1.fpOk (fw _) (I1.hok.fresh (fw _))
 ·rw[aq.mp hb];exact I1.fpOk (ak _) (I1.hok.fresh (ak _))⟩
end
end L2
namespace L3
open PySem PySem.Spec PyProof.Rows L2
section
variable {X:Cx} {a:Expr} {p pos:Pos} {TA:yD}
theorem zlM {K:Frag}{A:List Addr}{H:Hp}{a:Addr}{xs:List PV}(hz:xs.length<=sizeLine)(hv: ∀A' H' st,zS A H A' H'->RS K A' H' st->∃vs,x5 K H' a vs/\RVs K A' H' xs vs):sB K A H none (dD K a) (rA xs) where
 go:=λi A' H' st g s ok hi=>by
  obtain⟨vs,h,r⟩:=hv A' H' st g s;rw[rB,r.len]at hi;exact⟨vs,vs[i],h,by simp[hi]⟩
 yld:=λi x A' H' st v H2 hx g s ok y=>by
  obtain⟨p,x',hp,hx',rfl,rfl⟩:=y;obtain⟨vs,h,r⟩:=hv A' H' st g s;obtain⟨z,hz',rfl⟩:=o4 hx;obtain⟨w,ew,rw'⟩:=r.get hz';have:=hx' vs h;rw[ew]at this;cases this;exact⟨.new hp,s.new hp,.val (.tup (.inl ⟨.inl yS,s.fresh hp⟩) (by show 2<=sizeLine;decide) (.cons (.int _) (.cons (rw'.grow (.new hp)) .nil)))⟩
 stop:=λA' H' st g s ok=>by
  obtain⟨vs,h,r⟩:=hv A' H' st g s;exact⟨vs,h,by rw[rB,r.len]⟩
 small:=by rw[rB];exact hz
def zlB (T:yD):wX:=λenv st Q=>T env st λzs st1=> ∃xs,zs= [.tup xs]/\Q none (rA xs) st1
theorem zh_ {elts:List Expr}{k:Nat}{pos':Pos}(hg:Gl X "enumerate")(hm:X.mg "enumerate" =none)(ha:PA X [a] (wY X.K TA))(hs:starEach [a] X.env= [(false,eval a X.env)]:=by rfl):PI X (.Tuple elts k pos') (.Call (.Name "enumerate" p) [a] [] pos) (t6 X.K (zlB TA)):=by
 refine nV (zoA hg hm ha hs) λσ H R ⟨A,env,st,Q3,rel,h,k⟩=>⟨A,env,st,_,rel,h,λA1 H1 st1 zs vs g1 s1 e1 h1=> ?_⟩;obtain⟨xs,rfl,h1⟩:=h1;obtain⟨v,rfl,e⟩:=yA.one e1;cases e with | val e=>cases e with | tup t hz r=>
  exact⟨_,rfl,⟨_,t.sq⟩,k A1 H1 st1 _ _ _ g1 s1 (zlM (by rw[r.len];exact hz) λA' H' st' g s=>⟨_,(t.grow g).sq,r.grow g⟩) h1⟩
end
set_option Elab.async false
set_option linter.all false
set_option maxRecDepth 100000
set_option maxHeartbeats 4000000
def tX (m:Nat)(y:PV):Option PV->Option PV
 | some (.obj i)=>if i=m then some y else some (.obj i)
 | o=>o
def lN (m:Nat)(y:PV)(env:zG):zG:=env.map (tX m y)
section
variable {K:Frag} {A:List Addr} {H:Hp} {σ:St} {env:zG} {st0:z5} {xs:List PV}
theorem yU.freeze (r:yU K A H σ env (st0++ [.lst xs])):yU K (A.take st0.length) H σ (lN st0.length (.lst xs) env) st0:=by
 have s:=r.rs.take st0.length;have et:(st0++ [PO.lst xs]).take st0.length=st0:=by rw[cr (ak _),fk]
 rw[et]at s;refine⟨s,by unfold lN;rw[aa];exact r.len,λi x e=> ?_⟩;unfold lN at e;rw[aw]at e;cases e1:env[i]? with
 | none=>rw[e1]at e;cases e
 | some o=>
  rw[e1]at e;have e2:tX st0.length (.lst xs) o=some x:=bx e;cases o with
  | none=>cases e2
  | some y=>
   obtain⟨v,ev,re⟩:=r.at_ i y e1;refine⟨v,ev,?_⟩;cases re with
   | val rv=>
    have:y=x:=by
     cases y with
     | obj j=>cases rv
     | _=>exact bx e2
    rw[<- this];exact .val (rv.less qZ)
   | obj eo=>
    rename_i j a;unfold tX at e2;dsimp only at e2;by_cases hj:j=st0.length
    ·rw[if_pos hj]at e2
     cases e2;subst hj;obtain⟨vs,h1,rr,z⟩:=r.rs.at_ _ _ _ eo (by simp:(st0++ [PO.lst xs])[st0.length]?=some (.lst xs));refine .val (.lst (.inl ⟨.inl h1,λhm'=> ?_⟩) z (rr.less qZ));obtain⟨k,hk,ek⟩:=kl hm';rw[cf]at hk;have e3:A[k]?=some a:=by rw[<- dw (show k < st0.length by omega),am (by rw[cf];omega),ek]
     have:=(da (ad.mp e3).1 r.rs.nd).mp (e3.trans eo.symm);omega
    ·rw[if_neg hj]at e2
     cases e2;have hl:=r.rs.len;have hlt:=(ad.mp eo).1;rw[af,bi]at hl;exact .obj (by rw[dw (by omega)];exact eo)
end
section
variable {X:Cx} {a b:Stmt} {rst:List Stmt} {Ts Tu Tw:yV}
def zdy (T:yV):yV:=λD env st=>T {D with nx:=λenv' st'=> ∃st0 xs,st'=st0++ [.lst xs]/\st.length<=st0.length/\D.nx (lN st0.length (.lst xs) env') st0} env st
theorem zhD (h1:PS X a (yY X.K Ts))(h2:PS X b (yY X.K Tu))(h3:xB X rst (yY X.K Tw)):xB X (a::b::rst) (yY X.K (u9 (zdy (u9 Ts Tu)) Tw)):=
 k9 (oE h1 (oE h2 h3)) λD σ H ⟨A,env,st,D3,rel,h,k⟩=>⟨A,env,st,_,rel,h,λA1 H1 σ1 env1 st1 g1 r1 h1=>⟨A1,env1,st1,_,r1,h1,λA2 H2 σ2 env2 st2 g2 r2 h2=>by
  obtain⟨st0,xs,rfl,hl,h2⟩:=h2;exact⟨_,_,st0,D3,r2.freeze,h2,k.after ((g1.trans g2).take (by rw[rel.rs.len];exact hl))⟩,k.rt.after g1,(k.after g1).bk,(k.after g1).ct⟩,k.rt,k.bk,k.ct⟩
end
set_option Elab.async false
set_option linter.all false
set_option maxRecDepth 100000
set_option maxHeartbeats 4000000
section
variable {K:Frag} {A B:List Addr} {H H':Hp}
theorem xT.val {a:Addr}{k:z8}{x:PV} : ∀{kvs:List (z8×PV)} {us:List (z8×V)},xT K A H a kvs us->zO kvs k=some x->∃v,vG us k=some v/\RE K A H x v
 | _,_,.nil,h=>by cases h
 | (k',x')::ps,(k2,v')::qs,.cons r t,h=>by
  have ek:k'=k2:=r.1;have rx:RR K A H a x' v':=r.2;subst ek;by_cases e:k'=k
  ·have e1:zO ((k',x')::ps) k=some x':=by unfold zO;rw[cx,decide_eq_true e];rfl
   rw[e1]at h;cases h;refine⟨v',jB e,?_⟩;cases rx with
   | val r=>exact .val r
   | obj _ _ e=>exact .obj e
  ·have e1:zO ((k',x')::ps) k=zO ps k:=by unfold zO;rw[cx,decide_eq_false e]
   rw[e1]at h;obtain⟨v,e2,r2⟩:=xT.val t h;exact⟨v,(jA (p:=(k',v')) e).trans e2,r2⟩
theorem zS.perm {C C':List Addr}(g:zS A H (A++C) H')(h: ∀b,b∈C'->b∈C):zS A H (A++C') H':=by
 obtain⟨⟨D,e,hD⟩,k,l⟩:=g;have:=sj e;subst this;exact⟨⟨C',rfl,λb m=>hD b (h b m)⟩,k,l⟩
theorem RS.rot {p:Addr}{st tl:z5}{o:PO}(hl:A.length=st.length)(s:RS K (A++p::B) H (st++o::tl))(hn: ∀x∈tl,∀kvs ys,x≠PO.rcd kvs/\x≠PO.ros ys):RS K (A++(B++ [p])) H (st++(tl++ [o])):=by
 have hm: ∀b,b∈A++(B++ [p])->b∈A++p::B:=λb h=>by
  simp only[av,bd,fh,or_false]at h⊢
  rcases h with h | h | h <;> simp[h]
 have hlen:=s.len;rw[af,af,cg,cg]at hlen;have hlB:B.length=tl.length:=by omega
 refine⟨?_,by simp only[af,cg,jm];omega,λi a u h1 h2=> ?_⟩
 ·have hp:(A++(B++ [p])).Perm (A++p::B):=gd A (jv p B)
  exact hp.nodup_iff.mpr s.nd
 ·by_cases hi:i < A.length
  ·rw[ax hi]at h1
   rw[ax (by omega)]at h2;have h1':(A++p::B)[i]?=some a:=by rw[ax hi];exact h1
   refine(s.at_ i a u h1' (by rw[ax (by omega)];exact h2)).less hm λi' j q e l e'=> ?_;have hii:i'=i:=(da (ad.mp e).1 s.nd).mp (e.trans h1'.symm);subst hii;refine⟨i',by rw[ax hi];exact h1,l,?_⟩;rw[ax (by omega)]at e'⊢
   exact e'
  ·rw[aj (by omega)]at h1
   rw[aj (by omega)]at h2;by_cases hj:i < A.length+B.length
   ·rw[ax (by omega)]at h1
    rw[ax (by omega)]at h2;have hu:=hn u (cj h2);have h1':(A++p::B)[i+1]?=some a:=by rw[aj (by omega),show i+1 - A.length=(i - A.length)+1 by omega,fb];exact h1
    have h2':(st++o::tl)[i+1]?=some u:=by rw[aj (by omega),show i+1 - st.length=(i - st.length)+1 by omega,fb];exact h2
    have oa:=s.at_ _ _ _ h1' h2';cases u with
    | lst xs=>obtain⟨vs,e,r,z⟩:=oa;exact⟨vs,e,r.less hm,z⟩
    | dct xs=>obtain⟨vs,e,r,z⟩:=oa;exact⟨vs,e,r.less hm,z⟩
    | tbl T pos q=>obtain⟨ea,ps,e,r⟩:=oa;exact⟨ea,ps,e,r.imp id λ⟨c',e1,e2,e3⟩=>⟨c',e1,e2,λm=>e3 (hm _ m)⟩⟩
    | itb kvs=>exact oa
    | rcd xs=>exact absurd rfl (hu xs []).1
    | ros xs=>exact absurd rfl (hu [] xs).2
    | fd ob xs=>obtain⟨vs,e,r,z⟩:=oa;exact⟨vs,e,r.less hm,z⟩
   ·rw[aj (by omega)]at h1
    rw[aj (by omega)]at h2;have hz:i - A.length - B.length=0:=by
     have:=(ad.mp h1).1;rw[bi]at this;omega
    rw[hz]at h1;rw[show i - st.length - tl.length=0 by omega]at h2;obtain rfl:p=a:=bx h1;obtain rfl:o=u:=bx h2;have h1':(A++p::B)[A.length]?=some p:=by rw[aj (ak _),cv];rfl
    refine(s.at_ A.length p o h1' (by rw[hl,aj (ak _),cv];rfl)).less hm λi' j q e l e'=> ?_;have hii:i'=A.length:=(da (ad.mp e).1 s.nd).mp (e.trans h1'.symm);subst hii;refine⟨A.length+B.length,by rw[aj (by omega),aj (by omega),show A.length+B.length - A.length - B.length=0 by omega];rfl,by omega,?_⟩;rw[ax (by omega)]at e'⊢
    exact e'
end
section
variable {X:Cx} {a b e:Expr} {es:List Expr} {pos p2:Pos} {Ta Tb:zB} {TA:yD}
def gO:R3:=λx y st Q=>match x with
 | .obj n=>(match y with
  | .str k=>(match st[n]? with | some (.rcd kvs)=>(match zO kvs (.inr k)with | some z=>Q z st | none=>False) | _=>False)
  | _=>False)
 | _=>False
theorem uJ {k:Nat}(hr:zU k X.A):rS X (xQ X.K gO):=by
 intro value slice pins s σ H v w vv ww Q I rv rw ⟨A,st,x,y,Q3,rs,ex,ey,h,k⟩ hs;unfold gO at h
 split at h
 ·split at h
  ·rename_i n y' kk
   split at h
   ·rename_i kvs q
    split at h
    ·rename_i z e
     cases ex with
     | val ex=>cases ex
     | obj eo=>
      obtain⟨us,h1,r,hzz⟩:=rs.at_ _ _ _ eo q;obtain⟨v',e2,r'⟩:=xT.val r e;exact zbN hr value slice pins s σ H _ _ vv ww Q I rv rw ⟨_,v',rfl,.inl ⟨_,.inr kk,.inl h1,qC ey rfl,e2.symm⟩,k.now rs r' h⟩ hs
    ·exact h.elim
   ·exact h.elim
  ·exact h.elim
 ·exact h.elim
@[simp] theorem v0 {n:Nat}{x:Str}{st:z5}{Q:K3} :gO (.obj n) (.str x) st Q=(match st[n]? with | some (.rcd kvs)=>(match zO kvs (.inr x)with | some z=>Q z st | none=>False) | _=>False):=rfl
def zcG:V->V->V->Hp->(Hp->Prop)->Prop:=λo i v H Q=> ∃a us k,o= .ref a/\i=kV k/\H a=some (.dK us)/\us.length < sizeLine/\Q (zI H a (.dK (wM us k v)))
theorem zhY {k:Nat}(hr:zU k X.A):jV X zcG:=by
 intro pins s σ H o i v ov iv u Q I ro ri rv ⟨a,us,kk,eo,ei,h1,hl,q⟩;subst eo ei;cases ro;exact zeG (by have:=hr.units;omega) I (.inl ⟨us,kk,h1,rfl,hl,rfl⟩) ri rv λs' I'=>⟨_,I',q⟩
theorem zcv {us:List (z8×V)}{k:z8}{v:V}(h:k∉us.map (·.1)):wM us k v=us++ [(k,v)]:=by
 unfold wM;rw[if_neg];intro z;obtain⟨p,hp,e⟩:=fz.mp z;exact h (ca.mpr ⟨p,hp,of_decide_eq_true e⟩)
theorem zgG: ∀{us acc:List (z8×V)},(us.map (·.1)).Nodup->(∀p∈us,p.1∉acc.map (·.1))->uS acc us=acc++us
 | [],acc,_,_=>(db _).symm
 | p::us,acc,hn,hd=>by
  rw[bb,di]at hn;show uS (wM acc p.1 p.2) us=_;rw[zcv (hd p (bz ..)),zgG hn.2 λq hq=> ?_]
  ·simp
  ·rw[ao,av]
   rintro(h | h)
   ·exact hd q (ce _ hq) h
   ·rw[bb,ir,aq]at h
    exact hn.1 (h▸br hq)
def sR (n:Nat):PV->PV
 | .obj j=>if j < n then .obj j else .obj (j - 1)
 | x=>x
theorem zhQ {K:Frag}{A B:List Addr}{H:Hp}{p:Addr} : ∀{kvs:List (z8×PV)} {qs:List (V×V)},(A++(B++ [p])).Nodup->PRs K (A++p::B) H (kvs.map λkv=>(tF kv.1,kv.2)) qs->(∀q∈kvs,q.2≠ .obj A.length)->
  ∃us:List (z8×V),qs=us.map (λkv=>(kV kv.1,kv.2))/\us.map (·.1)=kvs.map (·.1)/\xT K (A++(B++ [p])) H p (kvs.map λq=>(q.1,sR A.length q.2)) us
 | [],qs,_,h,_=>by cases h;exact⟨[],rfl,rfl,.nil⟩
 | kv::kvs,qs,hd,h,hn=>by
  have hm: ∀b,b∈A++(B++ [p])->b∈A++p::B:=λb h=>by
   simp only[av,bd,fh,or_false]at h⊢
   rcases h with h | h | h <;> simp[h]
  cases h with
  | @cons _ b _ _ r t=>
   obtain⟨us,rfl,ek,rk⟩:=zhQ hd t λq hq=>hn q (ce _ hq);obtain⟨q1,q2⟩:=b;have e1:q1=kV kv.1:=qC r.1 zlY;subst e1;refine⟨(kv.1,q2)::us,rfl,by rw[bb,bb,ek],.cons ⟨rfl,?_⟩ rk⟩;have h0:=hn kv (bz ..);obtain⟨k0,x0⟩:=kv;have r2:=r.2;dsimp only at r2 h0⊢
   have ip:(A++(B++ [p]))[A.length+B.length]?=some p:=by rw[aj (by omega),aj (by omega),show A.length+B.length - A.length - B.length=0 by omega];rfl
   cases r2 with
   | val rv=>
    have:sR A.length x0=x0:=by
     cases x0 with
     | obj j=>cases rv
     | _=>rfl
    rw[this];exact .val (rv.less hm)
   | obj eo=>
    rename_i j q;have hjA:j≠A.length:=λz=>h0 (by rw[z]);unfold sR;dsimp only
    split
    ·rename_i hj
     refine .obj ip (by omega) ?_;rw[ax hj]at eo⊢
     exact eo
    ·rename_i hj
     have hb:=(ad.mp eo).1;rw[af,cg]at hb;refine .obj ip (by omega) ?_;rw[aj (by omega),show j - A.length=(j - 1 - A.length)+1 by omega,fb]at eo;rw[aj (by omega),ax (by omega)];exact eo
theorem xT.append {K:Frag}{A:List Addr}{H:Hp}{a:Addr} : ∀{x y:List (z8×PV)} {c d:List (z8×V)},xT K A H a x c->xT K A H a y d->xT K A H a (x++y) (c++d)
 | _,_,_,_,.nil,h=>h
 | _,_,_,_,.cons r t,h=> .cons r (xT.append t h)
def zix (K:Frag)(i:Nat)(k5 k6:Str):TS:=mI (ziw (zdj zdk (zdj zdk zis))) (zge K 2 (zb9 (zb_ (fR i) (tC (.str k5)) zcG) (zb9 (zb_ (fR i) (tC (.str k6)) zcG) zgd)))
def nW (n:Nat)(k5 k6:Str)(kvs:List (z8×PV))(m:Nat):List (z8×PV):=kvs.map (λq=>(q.1,sR n q.2))++ [(.inr k5,.obj m),(.inr k6,.obj (m+1))]
def zd3 (i:Nat)(k5 k6:Str)(trs:List (zB×zB)):yV:=λD env st=>fZ trs env (st++ [.dct []]) λps st2=> ∃(kvs:List (z8×PV)) (tl:z5),ps=kvs.map (λkv=>(tF kv.1,kv.2))/\kvs.length<=13/\st2=st++ .dct []::tl/\
 (∀x∈tl,∀kvs ys,x≠PO.rcd kvs/\x≠PO.ros ys)/\(∀q∈kvs,q.2≠ .obj st.length)/\((kvs.map λ(q:z8×PV)=>q.1)++ [Sum.inr k5,Sum.inr k6]).Nodup/\i < env.length/\
 D.nx (env.set i (some (.obj (st.length+tl.length+2)))) (st++(tl++ [.dct [],.dct [],.rcd (nW st.length k5 k6 kvs (st.length+tl.length))]))
theorem zpq {i:Nat}{x:Str}{k5 k6:Str}{pos' dpos:Pos}{keys:List (Option Expr)}{values:List Expr}{trs:List (zB×zB)}{s2:Stmt}{rst:List Stmt}{Tw:yV}(hN:X.N.Nodup)(hi:X.N[i]?=some x)(hx:uN X.env.scope x)
  (h:qP X dpos keys values (iE X.K trs)) (hall:keys.all (·.isSome)=true) (hl:keys.length=values.length) (h0:keys≠ []) (h15:keys.length<=15) (h2:PS X s2 (zix X.K i k5 k6)) (h3:xB X rst (yY X.K Tw))
  (hs:swapsWith (.Dict keys values dpos) (some (.Name x pos')) pos.line X.env=pure false:=by rfl) (hf:X.fn x=true∨X.env.scope.names.lookup x=some .local:=by first | exact .inl rfl | exact .inr rfl | assumption):
  xB X (.Assign [.Name x pos'] (.Dict keys values dpos) pos::s2::rst) (yY X.K (u9 (zd3 i k5 k6 trs) Tw)):=by
 refine k9 (oE (zh3 hN hi hx (zom h hall hl h0 h15) hs hf) (oE h2 h3)) λD σ H ⟨A,env,st,D3,rel,hT,k⟩=> ?_;intro p hp;have hT':=hT;unfold u9 zd3 at hT';have g0:zS A H (A++ [p]) (zI H p (.dK [])):= .newObj hp;have rs1:RS X.K (A++ [p]) (zI H p (.dK [])) (st++ [.dct []]):=rel.rs.newObj (q:= .dct []) hp ⟨[],yS,.nil,eh _⟩;refine zhr (rel.grow g0 rs1) hT' λA2 H2 st2 ps qs g s2 e hQ=> ?_;obtain⟨kvs,tl,rfl,h13,rfl,hno,hne,hnd,hie,q⟩:=hQ;have hAl:=rel.rs.len;obtain⟨B,eA,hB⟩:=g.ext;rw[au,List.singleton_append]at eA;subst eA;have g2:zS A H (A++p::B) H2:=g0.trans g;have s3:=s2.rot hAl hno;rw[<- hAl]at hne;obtain⟨us,rfl,ek,rr⟩:=zhQ s3.nd e hne;have hpA:(A++p::B)[A.length]?=some p:=by rw[aj (ak _),cv];rfl
 obtain⟨us0,e0,r0,_⟩:=s2.at_ _ _ _ hpA (by rw[hAl,aj (ak _),cv];rfl);cases r0;have hul:us.length=kvs.length:=by rw[<- aa (f:=(·.1)),ek,aa]
 refine⟨e0,us,rfl,by omega,?_⟩;have hnd':=bp.mp hnd;have hm0:uS [] us=us:=by rw[zgG (by rw[ek];exact hnd'.1) (λ_ _ z=>by simp at z)];rfl
 rw[hm0];have g3:zS A H (A++(B++ [p])) H2:=g2.perm λb hb=>by
  simp only[av,bd,fh,or_false]at hb⊢
  rcases hb with hb | hb <;> simp[hb]
 have hp3:(A++(B++ [p]))[A.length+B.length]?=some p:=by rw[aj (by omega),aj (by omega),show A.length+B.length - A.length - B.length=0 by omega];rfl
 have mp:p∈A++(B++ [p]):=cj hp3;have hlB:B.length=tl.length:=by
  have:=s2.len;rw[af,af,cg,cg]at this;omega
 have gp:zS (A++(B++ [p])) H2 (A++(B++ [p])) (zI H2 p (.dK us)):= .put mp;have s4:RS X.K (A++(B++ [p])) (zI H2 p (.dK us)) (st++(tl++ [.rcd (kvs.map λq=>(q.1,sR A.length q.2))])):=by
  have:=s3.put (o:= .dK us) (q:= .rcd (kvs.map λq=>(q.1,sR A.length q.2))) hp3 ⟨us,yS,xT.grow gp rr,by rw[cp];omega⟩;rw[cq _ _ (by omega),cq _ _ (by omega),show A.length+B.length - st.length - tl.length=0 by omega]at this;exact this
 show zix X.K i k5 k6 _ (σ.set i (some (.ref p))) (zI H2 p (.dK us));intro p3 hp3n p4 hp4n;refine⟨by show 2<=sizeLine;decide,λp5 hp5n=>⟨p5,[.ref p3,.ref p4],rfl,.inl (.inl yS),rfl,?_⟩⟩;have hσ:(σ.set i (some (V.ref p)))[i]?=some (some (.ref p)):=by
  rw[dh (by rw[<- rel.len];exact hie)]
 have g5:zS (A++(B++ [p])) (zI H2 p (.dK us)) (A++(B++ [p])++ [p3]) (zI (zI H2 p (.dK us)) p3 (.dK [])):= .newObj hp3n;have s5:=s4.newObj (p:=p3) (o:= .dK []) (q:= .dct []) hp3n ⟨[],yS,.nil,eh _⟩;have s6:=s5.newObj (p:=p4) (o:= .dK []) (q:= .dct []) hp4n ⟨[],yS,.nil,eh _⟩;have g6:=g5.trans (.newObj (o:= .dK []) hp4n);have s7:=s6.new (o:= .tup [.ref p3,.ref p4]) hp5n;have g7:=g6.trans (.new (o:= .tup [.ref p3,.ref p4]) hp5n);have hpp3:p≠p3:=λz=>by rw[<- z,yS]at hp3n;cases hp3n
 have hpp4:p≠p4:=λz=>by rw[<- z,yO hpp3,yS]at hp4n;cases hp4n
 have hpp5:p≠p5:=λz=>by rw[<- z,yO hpp4,yO hpp3,yS]at hp5n;cases hp5n
 have eA':A++(B++ [p])++ [p3]++ [p4]=(A++B)++p:: [p3,p4]:=by simp
 have eS':st++(tl++ [PO.rcd (kvs.map λq=>(q.1,sR A.length q.2))])++ [PO.dct []]++ [PO.dct []]=(st++tl)++PO.rcd (kvs.map λq=>(q.1,sR A.length q.2)):: [.dct [],.dct []]:=by simp
 rw[eA',eS']at s7;have s8:=s7.rot (by rw[af,af];omega) (by intro x hx kvs ys;constructor <;> (intro z;subst z;simp at hx));rw[eA']at g7;have gAll:zS A H (A++(B++p:: [p3,p4])) (zI (zI (zI (zI H2 p (.dK us)) p3 (.dK [])) p4 (.dK [])) p5 (.tup [.ref p3,.ref p4])):=by
  have:=(g3.trans gp).trans g7;rw[au]at this;exact this
 have g8:zS A H (A++(B++([p3,p4]++ [p]))) (zI (zI (zI (zI H2 p (.dK us)) p3 (.dK [])) p4 (.dK [])) p5 (.tup [.ref p3,.ref p4])):=gAll.perm λb hb=>by
  simp only[av,bd,fh,or_false]at hb⊢
  rcases hb with hb | (hb | hb) | hb <;> simp[hb]
 rw[<- au]at g8;have hat:(A++B++([p3,p4]++ [p]))[A.length+B.length+2]?=some p:=by
  rw[aj (by rw[af];omega),af,show A.length+B.length+2 - (A.length+B.length)=2 by omega];rfl
 obtain⟨us8,e8,r8,_⟩:=s8.at_ _ _ _ hat (by rw[aj (by rw[af];omega),af,show A.length+B.length+2 - (st.length+tl.length)=2 by omega];rfl);have e9:us8=us:=by
  rw[yO hpp5,yO hpp4,yO hpp3,yS]at e8;cases e8;rfl
 subst e9;have k1:(Sum.inr k5:z8)∉us8.map (·.1):=by
  rw[ek];intro z;exact hnd'.2.2 _ z _ (by simp) rfl
 have hk56:(Sum.inr k5:z8)≠ .inr k6:=by
  have:=hnd'.2.1;simp at this;intro z;cases z;exact this rfl
 have k2:(Sum.inr k6:z8)∉(us8++ [(Sum.inr k5,V.ref p3)]).map (λ(q:z8×V)=>q.1):=by
  rw[ao,av,ek];rintro(z | z)
  ·exact hnd'.2.2 _ z _ (by simp) rfl
  ·simp only[bb,ir,aq]at z
   exact hk56 z.symm
 refine⟨.ref p3,[.ref p4],rfl,.ref p,hσ,p,us8,.inr k5,rfl,rfl,e8,by rw[cp];omega,?_⟩;rw[zcv k1];refine⟨.ref p4,[],rfl,.ref p,hσ,p,_,.inr k6,rfl,rfl,yS,by rw[cp,af,bi];omega,?_⟩;rw[zcv k2];refine⟨rfl,?_⟩;have m8:p∈A++B++([p3,p4]++ [p]):=cj hat;have g9:=(zS.put (H:=zI (zI (zI (zI H2 p (.dK us8)) p3 (.dK [])) p4 (.dK [])) p5 (.tup [.ref p3,.ref p4])) (o:=HO.dK (us8++ [(Sum.inr k5,V.ref p3)])) m8).trans (zS.put (o:=HO.dK (us8++ [(Sum.inr k5,V.ref p3)]++ [(Sum.inr k6,V.ref p4)])) m8);have a3:(A++B++([p3,p4]++ [p]))[A.length+B.length]?=some p3:=by
  rw[aj (by rw[af];omega),af,cv];rfl
 have a4:(A++B++([p3,p4]++ [p]))[A.length+B.length+1]?=some p4:=by
  rw[aj (by rw[af];omega),af,show A.length+B.length+1 - (A.length+B.length)=1 by omega];rfl
 have r9:=xT.append (xT.append (xT.grow g9 r8) (y:= [(Sum.inr k5,.obj (A.length+B.length))]) (d:= [(Sum.inr k5,V.ref p3)]) (.cons ⟨rfl,.obj hat (by omega) a3⟩ .nil)) (y:= [(Sum.inr k6,.obj (A.length+B.length+1))]) (d:= [(Sum.inr k6,V.ref p4)]) (.cons ⟨rfl,.obj hat (by omega) a4⟩ .nil);have s9:=s8.put (q:= .rcd ((kvs.map λ(q:z8×PV)=>(q.1,sR A.length q.2))++ [(Sum.inr k5,.obj (A.length+B.length))])) hat (o:=HO.dK (us8++ [(Sum.inr k5,V.ref p3)])) ⟨_,yS,xT.append (xT.grow (.put m8) r8) (.cons ⟨rfl,.obj hat (by omega) a3⟩ .nil),by rw[cp,af,bi];omega⟩;have s10:=s9.put (q:= .rcd (nW A.length k5 k6 kvs (A.length+B.length))) hat (o:=HO.dK (us8++ [(Sum.inr k5,V.ref p3)]++ [(Sum.inr k6,V.ref p4)])) ⟨_,yS,by
  have:=r9;rw[au (kvs.map _)]at this;exact this,by rw[cp,af,af,bi,bi];omega⟩
 have g10:=g8.trans g9;have eFin:(((st++tl)++([PO.dct [],.dct []]++ [PO.rcd (kvs.map λq=>(q.1,sR A.length q.2))])).set (A.length+B.length+2) (.rcd ((kvs.map λq=>(q.1,sR A.length q.2))++ [(Sum.inr k5,.obj (A.length+B.length))]))).set (A.length+B.length+2) (.rcd (nW A.length k5 k6 kvs (A.length+B.length)))=st++(tl++ [.dct [],.dct [],.rcd (nW st.length k5 k6 kvs (st.length+tl.length))]):=by
  rw[my,cq _ _ (by rw[af];omega),af,show A.length+B.length+2 - (st.length+tl.length)=2 by omega,au,hAl,hlB];rfl
 rw[eFin]at s10;have hrel:=(rel.grow g10 s10).set i (x:= .obj (st.length+tl.length+2)) (v:= .ref p) (.obj (by rw[<- hAl,<- hlB];exact hat));exact⟨_,_,_,D3,hrel,q,k.after g10⟩
end
set_option Elab.async false
set_option linter.all false
set_option maxRecDepth 100000
set_option maxHeartbeats 4000000
section
variable {X:Cx}
def zrt (T:zB):zB:=λenv st Q=>T env st λx st1=>match x with | .lst xs=>Q (.lst xs.reverse) st1 | _=>False
@[simp] theorem zuY {T:zB}{env:zG}{st:z5}{Q:K3} :zrt T env st Q=(T env st λx st1=>match x with | .lst xs=>Q (.lst xs.reverse) st1 | _=>False):=rfl
def uI (lo hi:Int):List V:=(List.range (hi - lo).toNat).map λ(i:Nat)=> .int (lo+(i:Int))
def zqD (ta:TA):TE:=λσ H Q=>ta σ H λvs H1=> ∃lo hi:Int,vs= [.int lo,.int hi]/\(-(2 ^ 20)<=lo/\lo < 2 ^ 20/\ -(2 ^ 20)<=hi/\hi < 2 ^ 20)/\∀p,H1 p=none->Q (.ref p) (zI H1 p (.lst (uI lo hi)))
theorem zop {a b:Expr}{ta:TA}{p p2 pos pos2:Pos}(hc:X.calm=true)(hg:Gl X "list")(hm:X.mg "list" =none)(hg2:Gl X "range")(hm2:X.mg "range" =none)(ha:PA X [a,b] ta)
  (hs:starEach [a,b] X.env= [(false,eval a X.env),(false,eval b X.env)]) (hs1:starEach [b] X.env= [(false,eval b X.env)]) (hs2:starEach [.Call (.Name "range" p2) [a,b] [] pos2] X.env= [(false,eval (.Call (.Name "range" p2) [a,b] [] pos2) X.env)]):
  PE X (.Call (.Name "list" p) [.Call (.Name "range" p2) [a,b] [] pos2] [] pos) (zqD ta):=⟨λpins s σ H Q I h=>by
 refine iz (tY I hg hm (show bootBuiltins "list" =some (.type "list") by decide+kernel) (callWith_type1 ?_ hs2 rfl));rw[hs2];show bf _ _ (spliced ((false,eval (.Call (.Name "range" p2) [a,b] [] pos2) X.env)::backTo pos [])) _ _ s;refine pb (iz (tY I hg2 hm2 ux (callWith_type1 (zR (ha pos2 pins s σ H _ I h) λus s1 ⟨vs,H1,I1,r1,q1⟩=> ?_) (by rw[hs,hs1]) (by rw[hs1];rfl))));obtain⟨lo,hi,rfl,⟨b1,b2,b3,b4⟩,q⟩:=q1;cases r1 with
 | cons r rr=>
  cases rr with
  | cons r' rr=>
   cases rr;obtain⟨t,rfl⟩:=r;obtain⟨t',rfl⟩:=r';refine call_range_2 ?_;refine qd ?_;have hrs:Builtin.Range.rangeSize lo hi 1=(((hi - lo).toNat:Nat):Int):=by rw[vi];split <;> omega
   refine call_list_range (n:=(hi - lo).toNat) (I1.ok.hd hc) (wz ..) (small_one (by omega) (by omega) (by omega) (by omega)) hrs (by omega) λh' tk acc c' k1 hS hacc=> ?_;have kp:=k1;have k5: ∀b o,s1.heap.get? b=some o->h'.get? b=some o:=λb o e=>k1 b o (ar _ e);refine⟨.ref _,_,I1.laid (t':=tk) (o:= .lst (uI lo hi)) k5 (by rw[ft];exact fw _) ⟨by unfold uI;rw[aa,dz,cp];omega,acc.toList,c',mN ?_ λj v x hv hx=> ?_,by simpa using hS⟩,rfl,q _ (I1.hok.fresh (by rw[ft];exact fw _))⟩
   ·unfold uI;rw[aa,dz];simpa using hacc.1.symm
   ·obtain⟨u,rfl⟩:=hacc.2 j v (by simpa using hv)
    unfold uI at hx;rw[aw]at hx;cases ej:(List.range (hi - lo).toNat)[j]? with
    | none=>rw[ej]at hx;cases hx
    | some k=>
     rw[ej]at hx;cases hx;have:=ad.mp ej;obtain⟨hj,e⟩:=this;rw[ph]at e;subst e;exact⟨u,by rw[wy]⟩⟩
def ziG (T:yD):zB:=λenv st Q=>T env st λxs st1=>match xs with | [.int lo,.int hi]=>(-(2 ^ 20)<=lo/\lo < 2 ^ 20/\ -(2 ^ 20)<=hi/\hi < 2 ^ 20)/\Q (.obj st1.length) (st1++ [.lst ((List.range (hi - lo).toNat).map λ(i:Nat)=> .int (lo+(i:Int)))]) | _=>False
@[simp] theorem zva {T:yD}{env:zG}{st:z5}{Q:K3} :ziG T env st Q=(T env st λxs st1=>match xs with | [.int lo,.int hi]=>(-(2 ^ 20)<=lo/\lo < 2 ^ 20/\ -(2 ^ 20)<=hi/\hi < 2 ^ 20)/\Q (.obj st1.length) (st1++ [.lst ((List.range (hi - lo).toNat).map λ(i:Nat)=> .int (lo+(i:Int)))]) | _=>False):=rfl
theorem zcU {K:Frag}{A:List Addr}{H:Hp}{α:Type}(f:α->Int): ∀l:List α,RVs K A H (l.map λi=>PV.int (f i)) (l.map λi=>V.int (f i))
 | []=> .nil
 | x::l=> .cons (.int _) (zcU f l)
theorem zph {a b:Expr}{TA:yD}{p p2 pos pos2:Pos}(hc:X.calm=true)(hg:Gl X "list")(hm:X.mg "list" =none)(hg2:Gl X "range")(hm2:X.mg "range" =none)(ha:PA X [a,b] (wY X.K TA))
  (hs:starEach [a,b] X.env= [(false,eval a X.env),(false,eval b X.env)]:=by rfl) (hs1:starEach [b] X.env= [(false,eval b X.env)]:=by rfl) (hs2:starEach [.Call (.Name "range" p2) [a,b] [] pos2] X.env= [(false,eval (.Call (.Name "range" p2) [a,b] [] pos2) X.env)]:=by rfl):
  PE X (.Call (.Name "list" p) [.Call (.Name "range" p2) [a,b] [] pos2] [] pos) (zP X.K (ziG TA)):=by
 refine xU (zop hc hg hm hg2 hm2 ha hs hs1 hs2) λσ H Q ⟨A,env,st,Q3,rel,h,k⟩=>⟨A,env,st,_,rel,h,λA1 H1 st1 xs vs g1 s1 e1 h1=> ?_⟩
 split at h1
 ·rename_i lo hi
  obtain⟨v,w,rfl,r1,r2⟩:=yA.two e1;cases xF r1;cases xF r2;refine⟨lo,hi,rfl,h1.1,λp hp=>k (A1++ [p]) _ _ _ _ (g1.trans (.newObj hp)) (s1.newObj (q:= .lst _) hp ⟨_,yS,zcU _ _,?_⟩) (.obj (o9 s1.len)) h1.2⟩;have:=h1.1;unfold uI;rw[aa,dz,cp];omega
 ·exact h1.elim
end
section
variable {prog:Program} {w:World} {A:Around} {E:Value->Shared->Prop}
theorem zeM {I:Addr}{fp wr:List Addr}{n:Nat}{P:Nat->Value->Prop}{St:Nat->Heap->Prop}(W:Walks prog w A I fp wr n P St): ∀(m i:Nat) (s:Shared) (Q:List Value->Shared->Prop),St i s.heap->i+m<=n->
  (∀vs h' tk,vs.length=m->(∀(j:Nat) (v:Value),vs[j]?=some v->P (i+j) v)->St (i+m) h'->(∀b o,b∉wr->s.heap.get? b=some o->h'.get? b=some o)->Q vs {s with heap:=h',toks:=tk})->bf (bt prog w) A (draw (.ref I) m) Q E s
 | 0,i,s,Q,st,_,hQ=>by
  show bf _ _ (pure []) Q E s;exact ay (hQ [] s.heap s.toks rfl (λj v h=>by simp at h) st λ_ _ _ e=>e)
 | m+1,i,s,Q,st,hle,hQ=>by
  show bf _ _ (pyNext (.ref I) >>= _) Q E s;refine ah (W.item i s _ _ (by omega) st λv h1 tk1 hv st1 k1=> ?_);refine ah (du (zeM W m (i+1) {s with heap:=h1,toks:=tk1} _ st1 (by omega) λvs h2 tk2 hl hP st2 k2=>ay ?_));refine hQ (v::vs) h2 tk2 (by rw[cg,hl]) (λj u hj=> ?_) (by rw[show i+(m+1)=i+1+m by omega];exact st2) λb o hb e=>k2 b o hb (k1 b o hb e);cases j with
  | zero=>simp at hj;subst hj;exact hv
  | succ j=>rw[show i+(j+1)=i+1+j by omega];exact hP j u (by simpa using hj)
theorem zrk {x:Str}{t:Tok}{targets:List (Bool×(Value->Sem Unit))}{Q:Unit->Shared->Prop}{s:Shared}(hh:A.handled=none)(hn:targets.length=x.cps.size)(hst:targets.findIdx? (·.1)=none)
  (h: ∀vs h' tk,vs.length=x.cps.size->(∀(j:Nat) (v:Value),vs[j]?=some v->SignAt x j v)->(∀b o,s.heap.get? b=some o->h'.get? b=some o)->bf (bt prog w) A (assignInOrder (targets.map (·.2)) vs) Q E {s with heap:=h',toks:=tk}):
  bf (bt prog w) A (unpack (.str x t) targets) Q E s:=by
 unfold unpack;rw[hn,hst];refine ah (du ?_);unfold unpackItems;refine ah ?_;unfold notIterableAtAll;refine ah (sy (T:= "str") rfl PySem.F.slot_str_iter.lookup ?_);refine ay ?_;simp only[ll,if_false];refine ah (du (wpAny_pyIter_strU ?_));have hW: ∃St:Nat->Heap->Prop,Walks prog w A s.heap.objs.size [s.heap.objs.size] [s.heap.objs.size] x.cps.size (SignAt x) St/\St 0 (s.heap.push {cls:= .type (strIterType x),data:= .fields #[.str x t,.int 0 0]}):=by
  unfold strIterType;by_cases ha:x.cps.all (· < 128)=true
  ·rw[if_pos ha]
   exact⟨_,Walks.strAscii hh _ x t,⟨_,cb _ rfl,rfl,rfl⟩⟩
  ·rw[if_neg ha]
   exact⟨_,Walks.strWide hh _ x t,⟨_,cb _ rfl,rfl,rfl⟩⟩
 obtain⟨St,W,st⟩:=hW;refine ah (du (zeM W x.cps.size 0 _ _ st (by omega) λvs h1 tk1 hl hP st1 k1=> ?_));rw[if_neg (by omega)];refine ah (du (W.done _ _ _ (by simpa using st1) λh2 tk2 k2=> ?_));simp only[Option.isSome_none,ll,if_false];refine ay (h vs h2 tk2 hl (λj v hj=>by simpa using hP j v hj) λb o e=> ?_);have hb:b∉ [s.heap.objs.size]:=λz=>bj (ba e) (aq.mp z);exact k2 b o hb (k1 b o hb (ar _ e))
end
section
variable {X:Cx} {es:List Expr} {pos:Pos}
def mD (x:Str):List Str:=x.cps.toList.map λc=>⟨#[c]⟩
def zly (n:Nat)(t:uP):TG:=λv σ H Q=> ∃x:Str,v= .str x/\x.cps.size=n/\t ((mD x).map V.str) σ H Q
theorem zo5 {k:Nat}{t:uP}{n:Nat}(hc:X.calm=true)(h:uD X es t)(hn:(assignEach es X.env).length=n:=by rfl)(hst:(assignEach es X.env).findIdx? (·.1)=none:=by rfl):PG X (.Tuple es k pos) (zly n t):=by
 refine⟨λpins s σ H v u Q I r hw=> ?_⟩;obtain⟨x,rfl,hl,hw⟩:=hw;obtain⟨t0,rfl⟩:=r;rw[assign_Tuple];refine ah (kw (zrk (I.ok.hd hc) (by rw[hn,hl]) hst λvs h' tk hv hP kp=> ?_));have I1:z6 X pins σ H {s with heap:=h',toks:=tk} :=I.kept (t':=tk) kp;refine h pins _ σ H _ _ Q I1 (mN ?_ λj v x' hv' hx'=> ?_) hw
 ·unfold mD;rw[aa,aa,fm,hv]
 ·obtain⟨c,u,e,rfl⟩:=hP j v hv'
  unfold mD at hx';rw[cy,aw]at hx';rw[gw,e]at hx';cases hx';exact⟨u,rfl⟩
def gTS (n:Nat)(gs:tV):xL:=λx env st Q=>match x with | .str z=>z.cps.size=n/\gs ((mD z).map PV.str) env st Q | _=>False
@[simp] theorem zsw {n:Nat}{gs:tV}{z:Str}{env:zG}{st:z5}{Q:zG->z5->Prop} :gTS n gs (.str z) env st Q=(z.cps.size=n/\gs ((mD z).map PV.str) env st Q):=rfl
theorem zhR {K:Frag}{A:List Addr}{H:Hp} : ∀l:List Str,yA K A H (l.map PV.str) (l.map V.str)
 | []=> .nil
 | x::l=> .cons (.val (.str _)) (zhR l)
theorem zpl {k:Nat}{n:Nat}{Tgs:tV}(hc:X.calm=true)(h:uD X es (l7 X.K Tgs))(hn:(assignEach es X.env).length=n:=by rfl)(hst:(assignEach es X.env).findIdx? (·.1)=none:=by rfl):PG X (.Tuple es k pos) (vI X.K (gTS n Tgs)):=
 zcs (zo5 hc h hn hst) λv σ H Q ⟨A,env,st,x,Q3,rel,e,q,k⟩=>by
  unfold gTS at q
  split at q
  ·cases sS e
   exact⟨_,rfl,q.1,A,env,st,_,Q3,rel,zhR _,q.2,k⟩
  ·exact q.elim
end
def qJ (x:PV)(st:z5):PV:=match x with
 | .obj i=>(match st[i]? with | some (.lst xs)=> .lst xs | some (.dct kvs)=> .dct kvs | _=> .obj i)
 | x=>x
section
variable {K:Frag} {A:List Addr} {H:Hp} {st:z5}
theorem zpA (rs:RS K A H st){x:PV}{v:V}(e:RE K A H x v)(h:yR (qJ x st)=true):RE K [] H (qJ x st) v:=by
 have hm: ∀b,b∈([]:List Addr)->b∈A:=λb h=>by simp at h
 cases e with
 | val e=>
  have:qJ x st=x:=by cases e <;> rfl
  rw[this];exact .val (e.less hm)
 | obj eo=>
  rename_i i a;unfold qJ at h⊢
  dsimp only at h⊢
  split at h
  ·rename_i xs q
   obtain⟨vs,h1,r,z⟩:=rs.at_ _ _ _ eo q;exact .val (.lst (.inl ⟨.inl h1,by simp⟩) z (r.less hm))
  ·rename_i xs q
   obtain⟨vs,h1,r,z⟩:=rs.at_ _ _ _ eo q;exact .val (.dct ⟨h1,by simp⟩ z (r.less hm))
  ·cases h
theorem zpF:RS K [] H []:=⟨uu,rfl,λi a o h=>by simp at h⟩
theorem zls (rs:RS K A H st){Q3:K3}{Q:VK}(k:xP K A H Q3 Q):xP K [] H (λr _=>(∃b,r= .bl b)/\Q3 r st) Q:=by
 intro A' H' st' r v g s e ⟨⟨b,hb⟩,q⟩;subst hb;cases e with
 | val e=>
  cases e;have g':zS A H A H':=⟨⟨[],by simp,by simp⟩,λb o h _=>g.keep b o h (by simp),g.live⟩;refine k A H' st _ _ g' (rs.move g' λa ha=> ?_) (.val (.bl _)) q;cases hH:H a with
  | none=>exact absurd hH (rs.live ha)
  | some o=>exact g.keep a o hH (by simp)
end
section
variable {X:Cx}
def zc9:zV:=λxs st Q=>match xs with | [x,.ty n]=>yR (qJ x st)=true/\(match w6 (qJ x st) n with | some b=>Q (.bl b) st | none=>False) | _=>False
theorem znf:xO X (.builtin "isinstance") (vV X.K zc9):=λpins s σ H vs us Q I rv ⟨A,st,xs,Q3,rs,ex,h,k⟩=>by
 unfold zc9 at h
 split at h
 ·rename_i x n
  obtain⟨v,w,rfl,r1,r2⟩:=yA.two ex;obtain⟨h0,h⟩:=h
  split at h
  ·rename_i b e
   have r2':RE X.K [] H (.ty n) w:=by
    cases r2 with
    | val r=>exact .val (r.less λb h=>by simp at h)
   refine k8 pins s σ H _ us Q I rv ⟨[],[],[qJ x st,.ty n],_,zpF,.cons (zpA rs r1 h0) (.cons r2' .nil),?_,zls rs k⟩;show(match w6 (qJ x st) n with | some b=>_ | none=>False);rw[e];exact⟨⟨b,rfl⟩,h⟩
  ·exact h.elim
 ·exact h.elim
end
set_option Elab.async false
set_option linter.all false
set_option maxRecDepth 100000
set_option maxHeartbeats 4000000
section
variable {X:Cx}
def zru (T:zB):zB:=λenv st Q=>T env st λx st1=>match x with | .tup xs=>Q (.lst xs.reverse) st1 | _=>False
@[simp] theorem zuZ {T:zB}{env:zG}{st:z5}{Q:K3} :zru T env st Q=(T env st λx st1=>match x with | .tup xs=>Q (.lst xs.reverse) st1 | _=>False):=rfl
end
set_option Elab.async false
set_option linter.all false
set_option maxRecDepth 100000
set_option maxHeartbeats 4000000
section
variable {X:Cx} {a b c:Expr} {pos:Pos} {Ta Tb Tc:zB}
def zro (R R':R3)(Ta Tb Tc:zB):zB:=λenv st Q=>Ta env st λx st1=>Tb env st1 λy st2=>R x y st2 λr st3=>match r with
 | .bl true=>Tc env st3 λz st4=>R' y z st4 Q
 | .bl false=>Q (.bl false) st3
 | _=>False
@[simp] theorem zuJ {R R':R3}{env:zG}{st:z5}{Q:K3} :zro R R' Ta Tb Tc env st Q=(Ta env st λx st1=>Tb env st1 λy st2=>R x y st2 λr st3=>match r with | .bl true=>Tc env st3 λz st4=>R' y z st4 Q | .bl false=>Q (.bl false) st3 | _=>False):=rfl
end
set_option Elab.async false
set_option linter.all false
set_option maxRecDepth 100000
set_option maxHeartbeats 4000000
section
variable {X:Cx} {iter tg a b:Expr} {Ta:zB}
def zl8 (T:zB):wX:=λenv st Q=>T env st λx st1=> ∃(i:Nat) (kvs:List (z8×PV)),x= .obj i/\((st1[i]?=some (.dct kvs)/\∀o,Q (some (i,.fd o kvs)) (kvs.map λq=>tF q.1) (st1.set i (.fd o kvs)))∨∃o,st1[i]?=some (.fd o kvs)/\Q (some (i,.fd o kvs)) (kvs.map λq=>tF q.1) st1)
def zpu:R3:=λx y st Q=>match x with
 | .obj n=>(match y with
  | .str k=>(match st[n]? with | some (.fd _ kvs)=>(match zO kvs (.inr k)with | some z=>Q z st | none=>False) | _=>False)
  | _=>False)
 | _=>False
end
@[simp] theorem zu4 {T:zB}{env:zG}{st:z5}{Q:x6->List PV->z5->Prop} :zl8 T env st Q=(T env st λx st1=> ∃(i:Nat) (kvs:List (z8×PV)),x= .obj i/\((st1[i]?=some (.dct kvs)/\∀o,Q (some (i,.fd o kvs)) (kvs.map λq=>tF q.1) (st1.set i (.fd o kvs)))∨∃o,st1[i]?=some (.fd o kvs)/\Q (some (i,.fd o kvs)) (kvs.map λq=>tF q.1) st1)):=rfl
@[simp] theorem zsU {n:Nat}{x:Str}{st:z5}{Q:K3} :zpu (.obj n) (.str x) st Q=(match st[n]? with | some (.fd _ kvs)=>(match zO kvs (.inr x)with | some z=>Q z st | none=>False) | _=>False):=rfl
end L3
namespace L2
open PySem PySem.Spec PyProof.Rows PySem.W
section
variable {prog:Program} {w:World} {A:Around} {E:Value->Shared->Prop} {s:Shared}
theorem zmo:typeLookup (.type "list") "keys" =pure none:=by rw[sw,oh];kernel_rfl
theorem zmf {a:Addr}{xs:Array Value}{k:Nat}{sl:Array (Option Value)}{u:Tok}{Q:Value->Shared->Prop}
  (hx:s.heap.get? a=some {cls:= .type "list",dict:=none,data:= .seq xs k,slots:=sl}) (hA:A.handled=none)
  (h: ∀h' tk e,Heap.NewExcOf s.heap h' e "AttributeError" ->E (.ref e) {s with heap:=h',toks:=tk}):
  bf (bt prog w) A (getAttrBy (.ref a) (.str "keys" u) false) Q E s:=by
 obtain⟨hp,g,d,tk,os⟩:=s;have hT: ∀tk',(⟨hp,g,d,tk',os⟩:Shared).TypeIs (.ref a) "list" :=λ_=>⟨_,hx,rfl⟩;have f1:=mx;have f3:=mz.lookup;have f4:=mz.bind (.ref a);have f5:=am_list_getattr_none;unfold getAttrBy
 repeat(any_goals (first | assumption | exact hT _ | ((with_reducible show bf _ _ (call (Value.builtin "list.__getattribute__") _ _) _ _ _);refine ka mz (hT _) am_entry_list_getattribute (F.args_list_getattribute_2 _ _) (meets_getattribute_miss_list a xs k sl "keys" _ zmo (by decide+kernel) (by size_fits)) ⟨hx,hA,λh' tk' e hx'=> ?_⟩) | wp_step))
 obtain⟨t',u',he⟩:=hx'.there;show bf _ _ (getattributeRaised _ _ _ _ _ _ _) _ _ _;unfold getattributeRaised
 repeat(any_goals (first | assumption | wp_step))
 exact h _ _ _ hx'.of
theorem zmh {a:Addr}{xs:Array Value}{k:Nat}{sl:Array (Option Value)}{Q:Option Value->Shared->Prop}
  (hx:s.heap.get? a=some {cls:= .type "list",dict:=none,data:= .seq xs k,slots:=sl}) (hA:A.handled=none)
  (h: ∀h' tk,(∀b o,s.heap.get? b=some o->h'.get? b=some o)->Q none {s with heap:=h',toks:=tk}):
  bf (bt prog w) A (getAttr? (.ref a) "keys") Q E s:=by
 unfold getAttr? getAttrBy?;refine ah (wpAny_mkText ?_);refine ah (wpAny_attempt ?_);refine zmf hx hA λh' tk e x=> ?_;obtain⟨o,xs',he,hc,_⟩:=x.there;refine ah (qu (T:= "AttributeError") ⟨_,he,hc⟩ mx ?_);rw[if_pos rfl];exact ay (h h' tk x.keeps)
end
section
variable {prog:Program} {w:World} {A:Around} {E:Value->Shared->Prop} {s:Shared}
theorem zeA {K:Type}[DecidableEq K]{knd:KeyKind prog w K}{D I t:Addr}{items:Array Value}{res:Value}{R:Result->Shared->Prop}(hh:A.handled=none)(hIt:I≠t)(hDt:D≠t)(hDI:D≠I):
  ∀(y2:List (K×Addr×Value)) (i:Nat) (kvs:List (K×Value)) (z:Int) (tok:Tok) (s:Shared),s.heap.IsListIter I t i->s.heap.IsList t items->s.heap.DictOf knd D kvs->
   items.toList.drop i=y2.map (λq=>Value.ref q.2.1)->(∀q∈y2,(∃key,knd.is q.1 key=true/\IsTup s.heap q.2.1 #[key,q.2.2])/\q.2.1≠I/\q.2.1≠D)->kvs.length+y2.length<=sizeLine->
   (∀h' tk,h'.DictOf knd D (merged kvs (y2.map λq=>(q.1,q.2.2)))->(∀b o,b≠I->b≠D->s.heap.get? b=some o->h'.get? b=some o)->R (.ok (.ret res)) {s with heap:=h',toks:=tk})->
   codeAny (bt prog w) A (.builtin "dict.update.loop" ⟨[.ref D,.ref I,.int z tok,res],[]⟩) R s
 | [],i,kvs,z,tok,s,hit,ht,hm,hd,hq,hsz,h=>by
  refine jo iL ?_;rw[ic pB _];have hx:items[i]?=none:=by
   rw[<- gw];have:items.toList.length<=i:=vc.mp hd;exact ql.mpr this
  show bf _ A.in1 (pyNext (.ref I) >>= _) _ _ _;refine ah (uh (A:=A.in1) hh hit ht hx λh1 k1=> ?_);show bf _ A.in1 (Builtin.Dict.addKeywords D [] >>= λ_=>ret res) _ _ _;refine ah (ay (ay ?_));exact h h1 s.toks (hm.at λo e=>k1 D o hDI e) λb o b1 _ e=>k1 b o b1 e
 | q::y2,i,kvs,z,tok,s,hit,ht,hm,hd,hq,hsz,h=>by
  refine jo iL ?_;rw[ic pB _];obtain⟨⟨key,hk,hb⟩,hbI,hbD⟩:=hq q (.head _);have hx:items[i]?=some (Value.ref q.2.1):=by
   rw[<- gw];have:=congrArg (λl=>l[0]?) hd;simpa using this
  have hd':items.toList.drop (i+1)=y2.map (λq=>Value.ref q.2.1):=by
   have:=congrArg List.tail hd;simpa using this
  show bf _ A.in1 (pyNext (.ref I) >>= _) _ _ _;refine ah (tx (A:=A.in1) hit ht hx λh1 it1 sb1=> ?_);have hb1:IsTup h1 q.2.1 #[key,q.2.2]:=mL hb λo e=>(sb1.2 _ hbI).trans e;have hm1:h1.DictOf knd D kvs:=hm.at λo e=>(sb1.2 D hDI).trans e;dsimp only;refine ah (du ?_);refine ah (wpAny_tryCatch (zhp (s:= {s with heap:=h1}) hb1 ?_));dsimp only;refine du (vm (s:= {s with heap:=h1}) hk hm1 (λh2 hm2 sb2=> ?_) (by have:=hsz;simp only[cg]at this;omega));refine ay ⟨ld pB _,?_⟩;have hlen:(stored kvs q.1 q.2.2).length<=kvs.length+1:=by
   unfold stored
   split <;> simp
  refine zeA hh hIt hDt hDI y2 (i+1) (stored kvs q.1 q.2.2) _ _ _ (let⟨o,ho,r⟩:=it1;⟨o,(sb2.2 I (gb hDI)).trans ho,r⟩) ?_ hm2 hd' (λq' m=> ?_) (by simp only[cg]at hsz;omega) λh' tk a b=> ?_
  ·obtain⟨o,ho,r⟩:=ht
   exact⟨o,(sb2.2 t (gb hDt)).trans ((sb1.2 t (gb hIt)).trans ho),r⟩
  ·obtain⟨⟨key',hk',hb'⟩,hbI',hbD'⟩:=hq q' (.tail _ m)
   exact⟨⟨key',hk',mL hb' λo e=>(sb2.2 _ hbD').trans ((sb1.2 _ hbI').trans e)⟩,hbI',hbD'⟩
  ·refine h h' tk a λc o c1 c2 e=>b c o c1 c2 ((sb2.2 c c2).trans ((sb1.2 c c1).trans e))
theorem zk0 {K:Type}[DecidableEq K]{knd:KeyKind prog w K}{t:Addr}{n:Nat}{sl:Array (Option Value)}{y2:List (K×Addr×Value)}{Q:Value->Shared->Prop}(hh:A.handled=none)
  (ht:s.heap.get? t=some {cls:= .type "list",dict:=none,data:= .seq (y2.map λq=>Value.ref q.2.1).toArray n,slots:=sl})
  (hq: ∀q∈y2,∃key,knd.is q.1 key=true/\IsTup s.heap q.2.1 #[key,q.2.2]) (hsz:y2.length<=sizeLine)
  (h: ∀h' tk,h'.DictOf knd s.heap.objs.size (merged [] (y2.map λq=>(q.1,q.2.2)))->(∀b o,s.heap.get? b=some o->h'.get? b=some o)->Q (.ref s.heap.objs.size) {s with heap:=h',toks:=tk}):
  bf (bt prog w) A (call (.type "dict") [.ref t]) Q E s:=by
 refine uk (Q₁:=λobj s₁=>obj= .ref s.heap.objs.size/\s₁= {s with heap:=s.heap.push {cls:= .type "dict",data:= .dict #[]}}) F.kt_called_dict (vd _) wu (kt_code_dict_new _ ⟨rfl,rfl⟩) ?_;rintro obj s₁ ⟨rfl,rfl⟩;have hnew:(s.heap.push {cls:= .type "dict",data:= .dict #[]}).DictOf knd s.heap.objs.size []:=su s.heap;have ht1:(s.heap.push {cls:= .type "dict",data:= .dict #[]}).get? t=some {cls:= .type "list",dict:=none,data:= .seq (y2.map λq=>Value.ref q.2.1).toArray n,slots:=sl} :=ar _ ht;refine⟨hnew.typeIs,wa _ _,?_⟩;unfold Builtin.«dict.__init__»;refine ah ?_;unfold Builtin.Dict.selfAndRest;refine ah (oi hnew.typeIs ?_);show bf _ _ (pure (s.heap.objs.size,[Value.ref t])) _ _ _;refine ay ?_;show bf _ _ (Builtin.Dict.updateFrom "dict.__init__" s.heap.objs.size (.ref t) [] .none) _ _ _;unfold Builtin.Dict.updateFrom;refine ah (jd (T:= "list") ⟨_,ht1,rfl⟩ ?_);rw[if_pos (by decide)];refine ah (zmh ht1 hh λh1 tk k1=> ?_);rw[if_pos (show(none:Option Value).isNone=true from rfl)];refine ah (ma ?_);have ht2:=k1 _ _ ht1;have hD1:h1.DictOf knd s.heap.objs.size []:=hnew.at λo e=>k1 _ o e;refine ah (nk (s:= {s with heap:=h1,toks:=tk}) ⟨_,ht2,rfl,_,rfl⟩ ?_);have lD:s.heap.objs.size < h1.objs.size:=by obtain⟨o,es,ep,ho,_⟩:=id hD1;exact ba ho
 have lt:t < s.heap.objs.size:=ba ht;refine ay ⟨ld pB _,?_⟩;refine zeA (A:=A.in1) (knd:=knd) (t:=t) (items:=(y2.map λq=>Value.ref q.2.1).toArray) hh (cw (fc lt lD)) (cw lt) (bj lD) y2 0 [] _ _ {s with heap:=h1.push {cls:= .type "list_iterator",data:= .fields #[.ref t,.int 0 0]},toks:=tk} ⟨_,cb _ rfl,rfl,rfl⟩ ⟨_,ar _ ht2,rfl,_,rfl⟩ (hD1.push _) (by simp) (λq m=> ?_) (by simpa using hsz) λh' tk' a b=> ?_
 ·obtain⟨key,hk,hb⟩:=hq q m
  have lb:q.2.1 < s.heap.objs.size:=hb.lt;exact⟨⟨key,hk,mL hb λo e=>ar _ (k1 _ _ (ar _ e))⟩,bj (fc lb lD),bj lb⟩
 ·refine⟨rfl,h h' tk' a λc o e=> ?_⟩
  have lc:=ba e;exact b c o (bj (fc lc lD)) (bj lc) (ar _ (k1 _ _ (ar _ e)))
end
section
variable {X:Cx} {pins:List (Addr×Obj)} {σ:St} {H:Hp} {s:Shared}
theorem zkx (hc:X.calm=true):xO X (.type "dict") (λxs H Q=> ∃(t:Addr) (as:List Addr) (ps:List (z8×V)),xs= [.ref t]/\yE X.K H t (as.map V.ref)/\jW X.K H as ps/\∀p,H p=none->Q (.ref p) (zI H p (.dK (uS [] ps)))):=by
 intro pins s σ H xs us Q I r h;obtain⟨t,as,ps,rfl,ht,hp,q⟩:=h;obtain⟨u,rfl,ru⟩:=uC r;cases ru;obtain⟨its,rv,⟨o,n,e1,e3,hd,e4⟩,hz⟩:=I.list ht;cases zcL rv;obtain⟨y2,r1,r2,r3⟩:=zcM I hp;have hl:=iZ r2;rw[aa]at hl;have hz':y2.length<=sizeLine:=by
  rw[aa,<- r1,aa]at hz;exact hz
 obtain⟨c,dct,dat,sl⟩:=o;dsimp only at hd e3 e4;subst hd e3 e4;have ea:as.map Value.ref=y2.map λq=>Value.ref q.2.1:=by rw[<- r1,cy];rfl
 rw[ea]at e1;refine zk0 (knd:=xN X.prog X.w) (I.ok.hd hc) e1 r3 hz' λh' tk dd k=> ?_;refine⟨.ref s.heap.objs.size,_,I.laid (t':=tk) (o:= .dK (uS [] ps)) k (ak _) ?_,rfl,q _ I.fresh⟩;refine lF ?_ (beq_eq_false_iff_ne.mpr (gb (bj I.big))) (KV.merge r2 .nil) dd;have:=lV ps [];simp only[jm,lw]at this;exact bq this (by rw[hl];exact hz')
end
end L2
namespace L3
open PySem PySem.Spec PyProof.Rows L2
def zc4:zV:=λxs st Q=>match xs with | [.lst ys]=> ∃ps,ys.map nU=ps.map some/\Q (.dct (tH [] ps)) st | _=>False
section
variable {X:Cx}
theorem znc (hc:X.calm=true):xO X (.type "dict") (vV X.K zc4):=by
 intro pins s σ H vs us Q I rv ⟨A,st,xs,Q3,rs,ex,h,k⟩;unfold zc4 at h
 split at h
 ·obtain⟨v,rfl,ex1⟩:=yA.one ex
  obtain⟨ps,e,h⟩:=h;cases ex1 with | val e1=>cases e1 with | lst t z r=>
   obtain⟨as,ks,rfl,hp,hk⟩:=zcn r e;have hl:ks.length<=sizeLine:=by rw[<- ib hp];rw[aa]at z;exact z
   exact zkx hc pins s σ H _ us Q I rv ⟨_,as,ks,rfl,t.sq,hp,k.dct rs (RKs.merge .nil hk) (zgH hl) h⟩
 ·exact h.elim
end
set_option Elab.async false
set_option linter.all false
set_option maxRecDepth 100000
set_option maxHeartbeats 4000000
set_option Elab.async false
set_option linter.all false
set_option maxRecDepth 100000
set_option maxHeartbeats 4000000
set_option Elab.async false
set_option linter.all false
set_option maxRecDepth 100000
set_option maxHeartbeats 4000000
set_option Elab.async false
set_option linter.all false
set_option maxRecDepth 100000
set_option maxHeartbeats 4000000
set_option Elab.async false
set_option linter.all false
set_option maxRecDepth 100000
set_option maxHeartbeats 4000000
set_option Elab.async false
set_option linter.all false
set_option maxRecDepth 100000
set_option maxHeartbeats 4000000
set_option Elab.async false
set_option linter.all false
set_option maxRecDepth 100000
set_option maxHeartbeats 4000000
section
variable {X:Cx}
def kD (neg:Bool):R3:=λx y st Q=>match x,y with | .bl a,.bl b=>Q (.bl (if neg then !(a==b)else a==b)) st | _,_=>False
theorem zeP {neg a b:Bool}{st:z5}{Q:K3} :kD neg (.bl a) (.bl b) st Q=Q (.bl (if neg then !(a==b)else a==b)) st:=rfl
theorem znd:yI X (compareOp .Is) (xQ X.K (kD false)):=uK λpins s σ H A st x y v w vv ww Q3 Q I rs ex ey rv rw h k=>by
 unfold kD at h
 split at h
 ·rename_i a b
  cases ex with | val ex=>cases ex;cases ey with | val ey=>cases ey;cases rv;cases rw;exact ah (ay (ay ⟨.bl (a==b),H,I,(by cases a <;> cases b <;> rfl),k.now rs (.val (.bl _)) h⟩))
 ·exact h.elim
theorem zni:yI X (compareOp .IsNot) (xQ X.K (kD true)):=uK λpins s σ H A st x y v w vv ww Q3 Q I rs ex ey rv rw h k=>by
 unfold kD at h
 split at h
 ·rename_i a b
  cases ex with | val ex=>cases ex;cases ey with | val ey=>cases ey;cases rv;cases rw;exact ah (ay (ay ⟨.bl (!(a==b)),H,I,(by cases a <;> cases b <;> rfl),k.now rs (.val (.bl _)) h⟩))
 ·exact h.elim
end
set_option Elab.async false
set_option linter.all false
set_option maxRecDepth 100000
set_option maxHeartbeats 4000000
section
variable {prog:Program} {w:World} {A:Around} {E:Value->Shared->Prop} {s:Shared}
theorem zjS {sl:Addr}{vs:Value}{n:Nat}{Q:Int×Int×Nat->Shared->Prop}(hs:s.heap.IsSliceOf sl .none .none vs)(pv:IsPart vs (some (-1)))(h:Q ((n:Int) - 1,-1,n) s):bf (bt prog w) A (Builtin.Slice.sliceApplied (.ref sl) (pure (n:Int))) Q E s:=by
 obtain⟨os,hos,hcs,hds⟩:=id hs;unfold Builtin.Slice.sliceApplied Builtin.Slice.sliceFields;refine ah (ah (jj hos hds (x:= .none) rfl (ah (jj hos hds (x:= .none) rfl (ah (jj hos hds (x:=vs) rfl (ay ?_)))))));refine ah (HT.slicePart_ pv ?_);show bf _ _ (if((-1:Int)==0)=true then _ else _) _ _ s;rw[if_neg (by decide)];refine ah (HT.slicePart_ .none (ah (HT.slicePart_ .none (ah (ay ?_)))));have e1:Builtin.Slice.sliceAdjust none none (-1) (n:Int)=((n:Int) - 1,-1):=by unfold Builtin.Slice.sliceAdjust;simp
 have e2:Builtin.Slice.slicePlaces ((n:Int) - 1) (-1) (-1)=n:=by
  unfold Builtin.Slice.slicePlaces;rw[if_neg (by decide),show(- -1:Int)=1 by decide,vw]
  split <;> omega
 show bf _ _ (match Builtin.Slice.sliceAdjust none none (-1) (n:Int)with | (lo,hi)=>pure (lo,(-1:Int),Builtin.Slice.slicePlaces lo hi (-1))) _ _ s;rw[e1];show bf _ _ (pure ((n:Int) - 1,(-1:Int),Builtin.Slice.slicePlaces ((n:Int) - 1) (-1) (-1))) _ _ s;rw[e2];exact ay h
theorem zoG (xs:Array Value):((List.range xs.size).filterMap λ(m:Nat)=>xs[((xs.size:Int) - 1+(m:Int) * (-1)).toNat]?).toArray=xs.toList.reverse.toArray:=by
 have gen: ∀(l:List Value) (n:Nat),n<=l.length->(List.range n).filterMap (λ(m:Nat)=>l.toArray[((n:Int) - 1+(m:Int) * (-1)).toNat]?)=(l.take n).reverse:=by
  intro l n
  induction n with
  | zero=>intro _;simp
  | succ n ih=>
   intro h;rw[lr,cn,lj];have h1:l.toArray[(((n+1:Nat):Int) - 1+((0:Nat):Int) * (-1)).toNat]?=some l[n]:=by
    rw[show((((n+1:Nat):Int) - 1+((0:Nat):Int) * (-1)).toNat)=n by omega];simp
   rw[h1];have e:((λ(m:Nat)=>l.toArray[(((n+1:Nat):Int) - 1+(m:Int) * (-1)).toNat]?) ∘ Nat.succ)=λ(m:Nat)=>l.toArray[((n:Int) - 1+(m:Int) * (-1)).toNat]?:=by
    funext m
    show l.toArray[(((n+1:Nat):Int) - 1+((m+1:Nat):Int) * (-1)).toNat]?=_
    congr 2
    omega
   rw[e,ih (by omega),mJ (x:=l[n]) (by simp),jh];rfl
 have:=gen xs.toList xs.size (by simp);simp only[kc]at this;rw[this,cc (by simp)]
theorem zl0 {t sl:Addr}{items:Array Value}{vs:Value}{Q:Value->Shared->Prop}(ht:IsTup s.heap t items)(hs:s.heap.IsSliceOf sl .none .none vs)(pv:IsPart vs (some (-1)))
  (h:Q (.ref s.heap.objs.size) {s with heap:=s.heap.push {cls:= .type "tuple",data:= .seq items.toList.reverse.toArray}})
  (hsz:items.size<=sizeLine):bf (bt prog w) A (getItem (.ref t) (.ref sl)) Q E s:=by
 have htake:sizeOk (.seq items.toList.reverse.toArray):=by
  show items.toList.reverse.toArray.size<=sizeLine;rw[bo,io,fm];exact hsz
 obtain⟨os,hos,hcs,hds⟩:=id hs;have hTs:s.TypeIs (.ref sl) "slice" :=⟨os,hos,hcs⟩;unfold getItem
 try with_reducible refine du ?_
 first | refine ah (ay ?_) | skip
 refine ah (qe ht.typeIs (by decide) ?_);refine ah (jf (name:=Str.ofString "__getitem__") ht.typeIs df
  (ki df ht.typeIs ot ?_ (pc _ _)))
 show bf _ _ (Builtin.Tuple.tupleItemsOf (.ref t) >>= _) _ _ s;refine ah (vk ht ?_);refine ah (jd hTs ?_);rw[if_pos (by decide)];refine ah (zjS hs pv ?_);have hno: ¬ (((items.size:Int) - 1==0&&(-1:Int)==1&&items.size==items.size)=true):=by
  intro q;rw[fe,fe]at q;exact absurd q.1.2 (by decide)
 show bf _ _ (if((items.size:Int) - 1==0&&(-1:Int)==1&&items.size==items.size)=true then _ else _) _ _ s;rw[if_neg hno,zoG]
 first
  | exact ah (m:=Builtin.Tuple.tupleExact _) (dg (ay ⟨_,rfl,ay h⟩) htake)
  | exact ah (m:=Builtin.Tuple.tupleExact _) (dg (ah (ay (ay ⟨_,rfl,ay h⟩))) htake)
  | exact ah (ah (m:=Builtin.Tuple.tupleExact _) (dg (ay (ay ⟨_,rfl,ay h⟩)) htake))
  | exact ah (ah (m:=Builtin.Tuple.tupleExact _) (dg (ay ⟨_,rfl,ay h⟩) htake))
end
section
variable {X:Cx}
def zqN (K:Frag)(te:TE)(tl:TO):TE:=λσ H Q=>te σ H λx H1=>tl σ H1 λl H2=>l=some (-1)/\∃a xs,x= .ref a/\x5 K H2 a xs/\∀p,H2 p=none->Q (.ref p) (zI H2 p (.tup xs.reverse))
theorem zow {e se:Expr}{te:TE}{tl:TO}{p2 pos:Pos}(he:PE X e te)(hl:L2.PO X (some se) tl):PE X (.Subscript e (.Slice none none (some se) p2) pos) (zqN X.K te tl):=by
 refine⟨λpins s σ H Q I h=> ?_⟩;refine uy (zR (he pins s σ H _ I h) λv s1 ⟨x,H1,I1,r1,q1⟩=> ?_);refine xb ?_;rw[pp];refine ay (ay ?_);refine zR (hl pins s1 σ H1 _ I1 q1) λvu s3 ⟨u,H3,I3,pu,hu,a,xs,ex,hx,q⟩=> ?_;subst hu ex;cases r1;have I4:z6 X pins σ H3 {s3 with heap:=s3.heap.push {cls:= .type "slice",data:= .fields #[.none,.none,vu]}} :=I3.kept (t':=s3.toks) λb ob q=>ar _ q;obtain⟨its,r,ht,hz⟩:=I4.tuple hx;have hlen:=r.length;show bf (bt X.prog X.w) X.A (subscriptTail e (.Slice none none (some se) p2) (.ref a) (.ref s3.heap.objs.size)) (EP X pins σ Q) X.xe {s3 with heap:=s3.heap.push {cls:= .type "slice",data:= .fields #[.none,.none,vu]}};refine xg (ops:= [.ref a,.ref s3.heap.objs.size]) ht.typeIs df.lookup ?_ (by with_unfolding_all rfl);refine zl0 ht (pd ..) pu ?_ (by rw[bo] <;> omega);refine⟨.ref _,_,I4.laid (t':=s3.toks) (o:= .tup xs.reverse) (λb ob q=>ar _ q) (ak _) ?_,rfl,q _ (I4.hok.fresh (ak _))⟩;exact⟨by rw[io];exact hz,its.reverse,r.reverse,uY.new _ _⟩
def ziM (T:zB)(Tl:sE):zB:=λenv st Q=>T env st λx st1=>Tl env st1 λl st2=>l=some (-1)/\(match x with | .tup xs=>Q (.tup xs.reverse) st2 | _=>False)
theorem zpk {e se:Expr}{Ta:zB}{Tl:sE}{p2 pos:Pos}(he:PE X e (zP X.K Ta))(hl:L2.PO X (some se) (nF X.K Tl)):PE X (.Subscript e (.Slice none none (some se) p2) pos) (zP X.K (ziM Ta Tl)):=by
 refine xU (zow he hl) λσ H Q ⟨A,env,st,Q3,rel,h,k⟩=>⟨A,env,st,_,rel,h,λA1 H1 st1 x v g1 s1 e1 h1=>⟨A1,env,st1,_,rel.grow g1 s1,h1,λA2 H2 st2 l g2 s2 h2=>⟨h2.1,?_⟩⟩⟩;have h3:=h2.2
 split at h3
 ·cases e1.grow g2 with | val e=>cases e with | tup t z r=>
   exact⟨_,_,rfl,t.sq,(k.after (g1.trans g2)).tup s2 r.reverse (by rw[io];exact z) h3⟩
 ·exact h3.elim
end
set_option Elab.async false
set_option linter.all false
set_option maxRecDepth 100000
set_option maxHeartbeats 4000000
section
variable {X:Cx} {a b e:Expr} {es:List Expr} {x:Str} {p pos pos':Pos} {k:Nat} {Ta Tb:zB} {TA:yD}
theorem qx (hr:zU k X.A)(ha:PE X a (zP X.K Ta))(hb:PE X b (zP X.K Tb))(hs:dN b:=by exact λ_ _=>rfl):PE X (.Subscript a b pos) (zP X.K (sU pG Ta Tb)):=wN (zng hr) ha hb hs
theorem qn (i:Nat)(hN:X.N.Nodup)(hi:X.N[i]?=some x:=by rfl)(hx:uN X.env.scope x:=by exact Or.inl rfl)(hf:X.fn x=true∨X.env.scope.names.lookup x=some .local:=by first | exact .inl rfl | exact .inr rfl | assumption):PG X (.Name x pos) (vI X.K (gN i)):=pD hN hi hx hf
theorem qz (i:Nat)(hN:X.N.Nodup)(he:PE X e (zP X.K Ta))(hi:X.N[i]?=some x:=by rfl)(hx:uN X.env.scope x:=by exact Or.inl rfl)(hs:swapsWith e (some (.Name x pos')) pos.line X.env=pure false:=by rfl)(hf:X.fn x=true∨X.env.scope.names.lookup x=some .local:=by first | exact .inl rfl | exact .inr rfl | assumption):
  PS X (.Assign [.Name x pos'] e pos) (yY X.K (pQ Ta (gN i))):=nX hN hi hx he hs hf
theorem qc {op:CmpOp}{R:R3}(ho:yI X (compareOp op) (xQ X.K R))(ha:PE X a (zP X.K Ta))(hb:PE X b (zP X.K Tb))(hm:behindInMarks op b=false:=by exact sM _):PT X (.Compare a [op] [b] pos) (yZ X.K (mM (sU R Ta Tb))):=pE ho ha hb hm
theorem qk {S:zV}{f:Addr}{fd:FuncData}{ps:List Str}{q:Str}{st:Stmt}(F:yG X.prog X.w X.K X.mg X.base yH k f fd ps (yC X.K S))(hr:zU k X.A)(hm:X.mg x=some (.ref f))(hk:yP X.K x q st f fd)(hb:tP X.K fd ps [])
  (ha:PA X (e::es) (wY X.K TA)) (hg:Gl X x:=by rfl) (hdb:(x==("__debug__" :Str))=false:=by decide) (he:starEach (e::es) X.env=(false,eval e X.env)::starEach es X.env:=by rfl) (hpl:(backTo pos (starEach es X.env)).any (·.1)=false:=by rfl):
  PE X (.Call (.Name x p) (e::es) [] pos) (zP X.K (rR S TA)):=zpg F hr hg hm hk.kp hb ha hdb he hpl
end
set_option Elab.async false
set_option linter.all false
set_option maxRecDepth 100000
set_option maxHeartbeats 4000000
abbrev XW:=Addr->Option (Str×PV)->Prop
abbrev zr5:=List PV->z5->K3->XW->Prop
end L3
namespace L2
open PySem PySem.Spec PyProof.Rows
def dF (K:Frag)(a b:Addr):It:=
 ⟨λi H=> ∃xs ys x y,yE K H a xs/\yE K H b ys/\xs[i]?=some x/\ys[i]?=some y,λi H z H'=> ∃p x y,H p=none/\(∀xs,yE K H a xs->xs[i]?=some x)/\(∀ys,yE K H b ys->ys[i]?=some y)/\z= .ref p/\H'=zI H p (.tup [x,y]),
  λi H=> ∃xs ys,yE K H a xs/\yE K H b ys/\(xs.length<=i∨ys.length<=i)⟩
theorem zrf {P:Program}{w:World}{K:Frag}{elts:List Expr}{k:Nat}{pos:Pos}(a b z TI TO i1 i2:Addr)(D:ZipApart z TI TO i1 i2 a b):
  rV P w K (.Tuple elts k pos) (dF K a b) [z,TI,TO,i1,i2] z (λi h=>IsZip h z TI TO .none/\IsPair h TI (.ref i1) (.ref i2)/\(∃u v,IsPair h TO u v)/\h.IsListIter i1 a i/\h.IsListIter i2 b i) where
 mem:=by simp
 obj:=λi h st c hc=>by
  obtain⟨hz,hTI,⟨u,v,hTO⟩,⟨o1,e1,c1,d1⟩,o2,e2,c2,d2⟩:=st;simp only[bd,fh,or_false]at hc;rcases hc with rfl | rfl | rfl | rfl | rfl
  ·exact⟨_,hz,λv z=>by cases z⟩
  ·exact⟨_,hTI,λv z=>by cases z⟩
  ·exact⟨_,hTO,λv z=>by cases z⟩
  ·exact⟨_,e1,λv z=>by rw[d1]at z;cases z⟩
  ·exact⟨_,e2,λv z=>by rw[d2]at z;cases z⟩
 keep:=λi h h' st kk=>by
  obtain⟨hz,hTI,⟨u,v,hTO⟩,h1,h2⟩:=st;exact⟨kk z (by simp) _ hz,kk TI (by simp) _ hTI,⟨u,v,kk TO (by simp) _ hTO⟩,h1.at λo e=>kk i1 (by simp) o e,h2.at λo e=>kk i2 (by simp) o e⟩
 item:=by
  intro X hP hw hK hc i pins s σ H E I hf st hg;subst hP hw hK;obtain⟨xs,ys,x,y,hq,hq2,hx,hy⟩:=hg;obtain⟨its,rv,p,hz⟩:=I.list hq;obtain⟨its2,rv2,p2,hz2⟩:=I.list hq2;obtain⟨u,hu,ru⟩:=rv.get hx;obtain⟨u2,hu2,ru2⟩:=rv2.get hy;obtain⟨he,hTI,⟨ua,ub,hTO⟩,h1,h2⟩:=st;have lts: ∀b∈ [z,TI,TO,i1,i2],b < s.heap.objs.size:=λb hb=>by
   simp only[bd,fh,or_false]at hb;rcases hb with rfl | rfl | rfl | rfl | rfl
   ·exact ba he
   ·exact ba hTI
   ·exact ba hTO
   ·obtain⟨o,ho,_⟩:=h1;exact ba ho
   ·obtain⟨o,ho,_⟩:=h2;exact ba ho
  refine wpAny_pyNext_zip_item D he hTI hTO h1 h2 p.isList p2.isList (x:=u) (y:=u2) (by simpa using hu) (by simpa using hu2) λh' ho hTO' h1' h2' hT hsz kk=>⟨_,rfl,?_⟩;refine wpAny_letOwnedTupleGo_zip (s:= {s with heap:=h'}) ho λh3 he3 hs3=> ?_;have nT:s.heap.objs.size≠z:=cw (lts z (by simp));have hT2:IsPair h3 s.heap.objs.size u u2:=(hs3.2 _ nT).trans hT;have I1:z6 X pins σ H {s with heap:=h3} :=I.turnedL (t':=s.toks) (fp:= [z,TI,TO,i1,i2]) (λb o hb q=>(hs3.2 b λe=>hb (by simp[e])).trans (kk b o (λe=>hb (by simp[e])) (λe=>hb (by simp[e])) (λe=>hb (by simp[e])) (λe=>hb (by simp[e])) q)) hf;have I2:z6 X pins σ (zI H s.heap.objs.size (.tup [x,y])) {s with heap:=h3} :=by
   refine nL I1 I.fresh I.sz (cw I.lt) (λx' c e' z=> ?_) (λp' hp z=> ?_) ⟨(by show 2<=sizeLine;decide),[u,u2],.cons ru (.cons ru2 .nil),_,hT2,rfl,_,rfl,rfl⟩
   ·obtain⟨v,q⟩:=I.cell x' c e'
    have:=q.lt;rw[z]at this;exact ck _ this
   ·have:=ba (I.pin p' hp).1;rw[z]at this;exact ck _ this
  refine⟨.ref s.heap.objs.size,_,I2,rfl,⟨_,x,y,I.fresh,λys hy=>by rw[I.list_inj hy hq];exact hx,λys' hy'=>by rw[I.list_inj hy' hq2];exact hy,rfl,rfl⟩,
   ⟨he3,?_,⟨u,u2,(hs3.2 _ D.TOz).trans hTO'⟩,h1'.at λo e'=>(hs3.2 _ D.i1z).trans e',h2'.at λo e'=>(hs3.2 _ D.i2z).trans e'⟩,λb hb=> ?_⟩
  ·exact(hs3.2 _ D.TIz).trans (kk TI _ D.TIz D.TITO D.TIi1 D.TIi2 hTI)
  rw[yO (bj (lts b hb))];exact(hf b hb).1
 done:=by
  intro X hP hw hK hc i pins s σ H E I hf st hg;subst hP hw hK;obtain⟨xs,ys,hq,hq2,hx⟩:=hg;obtain⟨its,rv,p,hz⟩:=I.list hq;obtain⟨its2,rv2,p2,hz2⟩:=I.list hq2;obtain⟨he,hTI,⟨ua,ub,hTO⟩,h1,h2⟩:=st;have hl:=rv.length;have hl2:=rv2.length;refine wpAny_pyNext_zip_end (I.ok.hd hc) D he hTI hTO h1 h2 p.isList p2.isList ?_ λh' eb=>⟨rfl,I.turnedL (t':=s.toks) (fp:= [z,TI,TO,i1,i2]) (λb o hb q=>eb b o (λe=>hb (by simp[e])) (λe=>hb (by simp[e])) (λe=>hb (by simp[e])) (λe=>hb (by simp[e])) q) hf⟩;rcases hx with hx | hx
  ·left;simp;omega
  ·right;simp;omega
 self:=λ_ _ _ _ _ st h=>wpAny_pyIter_zip st.1 h
section
variable {X:Cx} {elts:List Expr} {k:Nat} {pos':Pos}
def zlE (K:Frag)(ta:TA):TI:=λσ H R=>ta σ H λvs H1=> ∃a b,vs= [.ref a,.ref b]/\(∃xs,yE K H1 a xs)/\(∃ys,yE K H1 b ys)/\R (dF K a b) H1
theorem zoD {a b:Expr}{ta:TA}{p pos:Pos}(hg:Gl X "zip")(hm:X.mg "zip" =none)(ha:PA X [a,b] ta)(hs:starEach [a,b] X.env= [(false,eval a X.env),(false,eval b X.env)]:=by rfl)(hs2:starEach [b] X.env= [(false,eval b X.env)]:=by rfl):PI X (.Tuple elts k pos') (.Call (.Name "zip" p) [a,b] [] pos) (zlE X.K ta):=⟨λpins s σ H R I h=>by
 refine Call_ (tY I hg hm boot_zip (callWith_type1 (zR (ha pos pins s σ H _ I h) λus s1 ⟨vs,H1,I1,r1,q1⟩=> ?_) (by rw[hs,hs2]) (by rw[hs2];rfl)));obtain⟨a,b,e,⟨xs,hq⟩,⟨ys,hq2⟩,q⟩:=q1;subst e;obtain⟨u,v,rfl,ru,rv⟩:=zK.two r1;cases ru;cases rv;obtain⟨its,rv,p,hz⟩:=I1.list hq;obtain⟨its2,rv2,p2,hz2⟩:=I1.list hq2;refine call_zip_2 p.isList p2.isList λh' hZ hTI hTO hI1 hI2 hsz kk=> ?_;refine wpAny_pyIter_zip hZ ?_;refine⟨_,[s1.heap.objs.size+4,s1.heap.objs.size+2,s1.heap.objs.size+3,s1.heap.objs.size,s1.heap.objs.size+1],_,_,H1,rfl,I1.kept (t':=s1.toks) kk,zrf a b _ _ _ _ _ (zipApart_new p.lt p2.lt),⟨hZ,hTI,⟨_,_,hTO⟩,hI1,hI2⟩,λc hc=> ?_,q⟩;have up: ∀n:Nat,uX X pins H1 (s1.heap.objs.size+n):=λn=>I1.fpOk (rg _ n) (I1.hok.fresh (rg _ n));simp only[bd,fh,or_false]at hc;rcases hc with rfl | rfl | rfl | rfl | rfl
 ·exact up 4
 ·exact up 2
 ·exact up 3
 ·exact up 0
 ·exact up 1⟩
theorem zkw (hc:X.calm=true):xO X (.builtin "any") (λxs H Q=> ∃(l:Addr) (bs:List Bool),xs= [.ref l]/\yE X.K H l (bs.map V.bl)/\Q (.bl (bs.any id)) H):=by
 (first | refine⟨?_⟩ | skip)
 intro pins s σ H xs us Q I r h;obtain⟨l,bs,rfl,hl,q⟩:=h;obtain⟨u,rfl,ru⟩:=uC r;cases ru;obtain⟨its,rv,p,_⟩:=I.list hl;have hlt:l < s.heap.objs.size:=p.lt;refine call_any_walk (nk p.isList ?_);refine⟨s.heap.objs.size,[s.heap.objs.size,l],[s.heap.objs.size],its.toArray.size,_,_,λi=>(bs[i]?).getD false,rfl,Walks.list (A:=X.A.in1) (I.ok.hd hc) _ l (bj hlt) its.toArray,
  ⟨⟨_,cb _ rfl,rfl,rfl⟩,p.isList.push _⟩,λi v s' Q' E' hP hQ=> ?_,λh' tk hk=> ?_⟩
 ·obtain⟨b,e,rfl⟩:=(iC rv).get i v (by simpa using hP)
  simp only[e,qr]at hQ;exact jw hQ
 ·have e:((List.range its.toArray.size).any λi=>(bs[i]?).getD false)=bs.any id:=by
   rw[bo,(iC rv).length,ln,fz,fz];constructor
   ·rintro⟨i,hi,hb⟩
    have hi':=dk.mp hi;rw[am hi']at hb;exact⟨bs[i],gz hi',hb⟩
   ·rintro⟨b,hb,e⟩
    obtain⟨i,hi,rfl⟩:=kl hb;exact⟨i,dk.mpr hi,by rw[am hi];exact e⟩
  rw[e];exact⟨.bl (bs.any id),H,I.kept (LSm.kept_iter hk),rfl,q⟩
end
set_option Elab.async false
set_option linter.all false
set_option maxRecDepth 100000
set_option maxHeartbeats 4000000
section
variable {prog:Program} {w:World} {A:Around} {E:Value->Shared->Prop} {s:Shared} {KT:Type} [DecidableEq KT] {knd:KeyKind prog w KT}
theorem zpR {d:Addr}{kvs:List (KT×Value)}{k:KT}{key dv:Value}{Q:Value->Shared->Prop}(hkey:knd.is k key=true)(hm:s.heap.DictOf knd d kvs)(hz:kvs.length<=sizeLine)
  (old: ∀v,valueAt kvs k=some v->Q v {s with toks:=s.toks+1}) (new:valueAt kvs k=none->∀h',h'.DictOf knd d (stored kvs k dv)->Heap.SameBut d s.heap h'->Q dv {s with heap:=h',toks:=s.toks+1}):
  bf (bt prog w) A (dictSetDefault d key dv) Q E s:=by
 have hmap:=hm.mapOf;obtain⟨o,es,ep,ho,hc,hd,hk,hp,hn⟩:=hm;have hl:=hp.length;have hsz:es.size<=sizeLine:=by rw[<- fm];omega
 unfold dictSetDefault
 (try with_reducible refine du ?_)
 refine ah (knd.pyHash hkey (ah (wpAny_dictFind_of (s:= {s with toks:=s.toks+1}) hkey ho hd hk ?_)));have hix:(es.findIdx? λe=>knd.is k e.key)=kvs.findIdx? λkv=>decide (kv.1=k):=by
  rw[<- hp.findIdx k];rcases es with⟨l⟩;simp
 cases hi:es.findIdx? λe=>knd.is k e.key with
 | some i=>
  have hlt:i < es.size:=(Array.findIdx?_eq_some_iff_findIdx_eq.mp hi).1;refine ah (wpAny_dictEntries (s:= {s with toks:=s.toks+1}) ho hd ?_);rw[mm hlt];refine ah (ma (ay (old _ ?_)));obtain⟨o',es',ep',ho',_,hd',_,hf⟩:=hmap;rw[ho]at ho';cases ho';rw[hd]at hd';cases hd';rw[<- hf k,findBy_of_findIdx?,hi];show(es[i]?).map (·.val)=_;rw[mm hlt];rfl
 | none=>
  have hnk:k∉kvs.map (·.1):=not_mem_of_findIdx_none (hix▸hi);have hna: ¬ (kvs.any λkv=>decide (kv.1=k))=true:=λz=>by
   obtain⟨kv,h1,h2⟩:=fz.mp z;exact hnk (ca.mpr ⟨kv,h1,of_decide_eq_true h2⟩)
  have hval:valueAt kvs k=none:=by
   unfold valueAt;rw[Option.map_eq_none_iff,nc];intro kv h1 h2;exact hnk (ca.mpr ⟨kv,h1,of_decide_eq_true h2⟩)
  refine ah (ma (ah (wpAny_updateDictKeys (hz:=hsz) (s:= {s with toks:=s.toks+1}) ho hd (ay (new hval _ ⟨_,_,ep+1,jl _ ho (Obj.isFreed_of_dict (ve hd _)),hc.mapDictKeys _,ve hd _,hk.push hkey _,?_,?_⟩ (ou ..))))))
  ·rw[stored,if_neg hna]
   have:=hp.append hkey (knd.hash k) dv;rcases es with⟨l⟩
   simpa using this
  ·rw[stored,if_neg hna,ao,bp]
   exact⟨hn,by simp,λa ha b hb e=>hnk (by rw[aq.mp hb]at e;have e2:a=k:=e;exact e2▸ha)⟩
theorem zmA {d:Addr}{k:KT}{key:Value}(hkey:knd.is k key=true)(hd:(d==sysModules)=false)(dv:Value):
  MeetsIn prog w (Builtin.«dict.setdefault» ⟨[.ref d,key,dv],[]⟩) (λ_ R s=> ∃kvs,s.heap.DictOf knd d kvs/\kvs.length<=sizeLine/\(∀v,valueAt kvs k=some v->R (.ok (.ret v)) {s with toks:=s.toks+1})/\
   (valueAt kvs k=none->∀h',h'.DictOf knd d (stored kvs k dv)->Heap.SameBut d s.heap h'->R (.ok (.ret dv)) {s with heap:=h',toks:=s.toks+1})):=
 .of_wp λA R s ⟨kvs,hm,hz,h1,h2⟩=>by
  unfold Builtin.«dict.setdefault» Builtin.Dict.keyAndDefault;refine ah (ah (oi hm.typeIs ?_));show bf _ _ (pure (d,key,some dv)) _ _ s;refine ay ?_;show bf _ _ (if(d==sysModules)=true then _ else(dictSetDefault d key dv >>= _)) _ _ s;rw[if_neg (by rw[hd];decide)];exact ah (zpR hkey hm hz (λv hv=>ay ⟨v,rfl,h1 v hv⟩) λhn h' hm' hs'=>ay ⟨dv,rfl,h2 hn h' hm' hs'⟩)
end
section
variable {X:Cx} {pins:List (Addr×Obj)} {σ:St} {H:Hp} {s:Shared} {a:Addr} {kvs:List (z8×V)} {k:z8} {u:Value} {A:Around} {E:Value->Shared->Prop}
theorem zkT {v:V}{r:Value}{Q:Value->Shared->Prop}(I:z6 X pins σ H s)(e:H a=some (.dK kvs))(ry:zT (kV k) u)(rv:zT v r)(hl:kvs.length < sizeLine)
  (h: ∀w' s' x,(∃y,vG kvs k=some y/\zT y w'/\x=y/\z6 X pins σ H s')∨(vG kvs k=none/\zT v w'/\x=v/\z6 X pins σ (zI H a (.dK (wM kvs k v))) s')->Q w' s'):
  bf (bt X.prog X.w) A (call (.builtin "dict.setdefault") [.ref a,u,r]) Q E s:=by
 obtain⟨z,hd,vs,rel,dd⟩:=lG I.hok e;refine call_meetsIn ox dd.typeIs PySem.F.entry_dict_setdefault (PySem.F.args_dict_setdefault_3 _ _ _) (zmA (knd:=xN X.prog X.w) (qW ry) hd r) ⟨vs,dd,by rw[<- rel.length];exact z,λw hw=> ?_,λhn h' dd' hs=> ?_⟩
 ·have:=rel.val k
  rw[hw]at this;cases hv:vG kvs k with
  | none=>rw[hv]at this;cases this
  | some y=>
   rw[hv]at this;exact h w _ y (.inl ⟨y,hv,this,rfl,I.tok _⟩)
 ·have:=rel.val k
  rw[hn]at this;cases hv:vG kvs k with
  | some y=>rw[hv]at this;cases this
  | none=>
   have he: ∃q,h'.get? a=some q:=let⟨q,_,_,hq,_⟩:=dd';⟨q,hq⟩;have hpl:=nO kvs k v;exact h r _ v (.inr ⟨hv,rv,rfl,iJ I (by rw[e];exact True.intro) hs he (lF (by omega) hd (rel.put k rv) dd')⟩)
theorem zbG: ∀{ns:List Int} {us:List Value},zK (ns.map V.int) us->IntsAre us ns
 | [],_,.nil=> .nil
 | _::_,_,.cons r t=>by obtain⟨tk,rfl⟩:=r;exact .cons _ tk (zbG t)
theorem zk4:xO X (.builtin "sorted") (λxs H Q=> ∃(a:Addr) (ss:List Int),xs= [.ref a]/\x5 X.K H a (ss.map V.int)/\ss.length < 64/\∀p (ss':List Int),H p=none->ss'.Perm ss->ss'.Pairwise (· <= ·)->Q (.ref p) (zI H p (.lst (ss'.map V.int)))):=by
 intro pins s σ H xs us Q I r h;obtain⟨a,ss,rfl,ha,h64,q⟩:=h;obtain⟨u,rfl,ru⟩:=uC r;cases ru;obtain⟨its,rv,pl,hz⟩:=I.tuple ha;have hlen:=rv.length;rw[aa]at hlen;obtain⟨o,ho,hc,n,hd⟩:=pl;have hS:=zbG rv;refine Calls.call_function_entry kind_sorted plain_sorted entry_sorted (args_sorted1 _) ?_;unfold Builtin.«sorted»;refine ah (m:=checkCount "sorted" 1 1 _) (ay ?_);refine ah (wpAny_collect_seq a (.inr rfl) ho hc hd (λh' kp0=> ?_) (by rw[bo,<- hlen];exact bq (iq h64) (by decide)));show bf _ _ (newList its >>= _) _ _ _;have I1:z6 X pins σ H {s with heap:=h'} :=I.kept (t':=s.toks) kp0;refine ah (wpAny_newList ?_);have hL:(h'.push (seqObj "list" its.toArray 0)).get? h'.objs.size=some (seqObj "list" its.toArray 0):=cb _ rfl;refine ah (du (ki slot_list_sort ⟨_,hL,rfl⟩ entry_list_sort (list_sort_tree (s:= {s with heap:=h'.push (seqObj "list" its.toArray 0)}) hL hS (by omega) λout ss' h1 h2 h3=>⟨_,rfl,?_⟩) (args_list_sort _)));obtain⟨e,he⟩:=sortedHeap_at (out:=out) hL;have kp: ∀b o,h'.get? b=some o->(sortedHeap (h'.push (seqObj "list" its.toArray 0)) h'.objs.size its out).get? b=some o:=λb o z=>by
  have hb:=ba z;rw[sortedHeap_old (bj hb) (by rw[ft];exact qh hb)];exact ar _ z
 refine ay ⟨_,rfl,.ref h'.objs.size,_,I1.laid (t':=s.toks) (o:= .lst (ss'.map V.int)) kp (ak _) ⟨?_,out.toList,e,zd6 h1,?_⟩,rfl,q _ ss' I1.fresh h2 h3⟩
 ·rw[aa,h2.length_eq];exact bq (iq h64) (by decide)
 ·rw[kc];exact he
def zp4:V->List V->Hp->VK->Prop:=λx vs H Q=> ∃(l:Addr) (ns:List Int) (n:Int) (j:Nat),x= .ref l/\vs= [.int n]/\H l=some (.lst (ns.map V.int))/\ns[j]?=some n/\(∀m,m < j->ns[m]?≠some n)/\Q .non (zI H l (.lst ((ns.eraseIdx j).map V.int)))
theorem zlF {us:List Value}{ns:List Int}(h:IntsAre us ns): ∀(m:Nat) (u:Value),us[m]?=some u->∃a t,ns[m]?=some a/\u= .int a t:=by
 induction h with
 | nil=>intro m u e;cases e
 | cons a t _ ih=>
  intro m u e;cases m with
  | zero=>cases e;exact⟨a,t,rfl,rfl⟩
  | succ m=>exact ih m u (by simpa using e)
def isN (n:Int):Value->Bool
 | .int a _=>a==n
 | _=>false
theorem zmH:jT X "list.remove" zp4:=by
 (first | refine⟨?_⟩ | skip)
 intro pins s σ H x vs v us Q I rx rv h;obtain⟨l,ns,n0,j,rfl,rfl,hH,hj,hjn,q⟩:=h;cases rx;obtain⟨u,rfl,ru⟩:=rv.one;obtain⟨tk,rfl⟩:=ru;obtain⟨z,its,n,r,hl,e⟩:=I.lstM hH;have hS:=zbG r;rw[aa]at hl z;have hlt:j < its.toArray.size:=by rw[bo,<- hl];exact(ad.mp hj).1
 have at_: ∀m (hm:m < its.toArray.size),∃a t,ns[m]?=some a/\its.toArray[m]= .int a t:=λm hm=>zlF hS m _ (by rw[<- mm hm];simp);refine ka rh ⟨_,e,rfl⟩ PySem.F.entry_list_remove (PySem.F.args_list_remove_2 _ _) (MeetsSeq.list_remove l its.toArray n (.int n0 tk) (isN n0) (λw' hw=> ?_) j hlt ?_ ?_ (by rw[bo];omega)) ⟨e,?_⟩
 ·obtain⟨m,hm,rfl⟩:=Array.getElem_of_mem hw
  obtain⟨a,t,_,h2⟩:=at_ m hm;rw[h2];exact .int a n0 t tk
 ·obtain⟨a,t,h1,h2⟩:=at_ j hlt
  rw[h2];rw[hj]at h1;cases h1;exact beq_self_eq_true _
 ·intro m hm hlt'
  obtain⟨a,t,h1,h2⟩:=at_ m hm;rw[h2];exact Bool.eq_false_iff.mpr λz=>hjn m hlt' (by rw[h1,show a=n0 from by simpa [isN]using z])
 have hre:=r.eraseIdx j;refine⟨.non,_,I.lset (its':=its.eraseIdx j) hH e ?_ (ys:=(ns.eraseIdx j).map V.int) ?_ ?_,rfl,q⟩
 ·show its.toArray.eraseIdxIfInBounds j=(its.eraseIdx j).toArray
  rw[ko]
 ·have em: ∀(l:List Int) (i:Nat),(l.map V.int).eraseIdx i=(l.eraseIdx i).map V.int:=λl=>by
   induction l with
   | nil=>intro i;rfl
   | cons a l ih=>intro i;cases i with
    | zero=>rfl
    | succ i=>rw[bb,gm,gm,bb,ih]
  rw[em]at hre;exact hre
 ·have:=ii (l:=ns) (i:=j)
  rw[aa];omega
end
end L2
namespace L3
open PySem PySem.Spec PyProof.Rows L2
section
variable {X:Cx} {a b e:Expr} {es:List Expr} {pos p p2:Pos} {Ta Tb:zB} {TA:yD}
def kC:zV:=λxs st Q=>match xs with | [x]=> ∃bs:List Bool,sJ x st=some (bs.map PV.bl)/\Q (.bl (bs.any id)) st | _=>False
theorem zcf (hc:X.calm=true):xO X (.builtin "any") (vV X.K kC):=by
 intro pins s σ H vs us Q I rv ⟨A,st,xs,Q3,rs,ex,h,k⟩;unfold kC at h
 split at h
 ·obtain⟨v,rfl,ex1⟩:=yA.one ex
  obtain⟨bs,e,h⟩:=h;obtain⟨a,ws,rfl,hs,r,z⟩:=nQ rs ex1 e;cases zcS r;exact zkw hc pins s σ H _ us Q I rv ⟨a,bs,rfl,hs,k.now rs (.val (.bl _)) h⟩
 ·exact h.elim
def gR:zV:=λxs st Q=>match xs with | [x]=> ∃ns:List Int,x= .tup (ns.map PV.int)/\ns.length < 64/\∀ns':List Int,ns'.Perm ns->ns'.Pairwise (· <= ·)->Q (.lst (ns'.map PV.int)) st | _=>False
theorem zgY:xO X (.builtin "sorted") (vV X.K gR):=by
 intro pins s σ H vs us Q I rv ⟨A,st,xs,Q3,rs,ex,h,k⟩;unfold gR at h
 split at h
 ·obtain⟨v,rfl,ex1⟩:=yA.one ex
  obtain⟨ns,rfl,hl,h⟩:=h;cases ex1 with | val ex1=>cases ex1 with | tup t z r=>
   cases zcT r;refine zk4 pins s σ H _ us Q I rv ⟨_,ns,rfl,t.sq,hl,λp ns' hp h1 h2=> ?_⟩;exact k.lst rs (iX ns') (by rw[aa,h1.length_eq];exact bq (iq hl) (by decide)) (h ns' h1 h2) p hp
 ·exact h.elim
def qM (xs ys:List PV):List PV:=(xs.zip ys).map λq=> .tup [q.1,q.2]
theorem zd_ {xs ys:List PV} :(qM xs ys).length=min xs.length ys.length:=by unfold qM;simp
theorem ziY {xs ys:List PV}{i:Nat}{z:PV}(h:(qM xs ys)[i]?=some z): ∃x y,xs[i]?=some x/\ys[i]?=some y/\z= .tup [x,y]:=by
 unfold qM at h;rw[aw]at h;cases e:(xs.zip ys)[i]? with
 | none=>rw[e]at h;cases h
 | some q=>
  rw[e]at h;obtain⟨h1,h2⟩:=kb.mp e;exact⟨q.1,q.2,h1,h2,(bx h).symm⟩
theorem zgy {K:Frag}{A:List Addr}{H:Hp}{a b:Addr}{xs ys:List PV}{src:x6}{vs:List V}(hz:xs.length<=sizeLine)(hv: ∀A' H' st,zS A H A' H'->RS K A' H' st->pA src st->∃us,yE K H' a us/\RVs K A' H' xs us)(tb:sC K A H b vs)(rb:RVs K A H ys vs):sB K A H src (dF K a b) (qM xs ys) where
 go:=λi A' H' st g s ok hi=>by
  obtain⟨us,h,ra⟩:=hv A' H' st g s ok;rw[zd_,ra.len,rb.len]at hi;exact⟨us,vs,us[i],vs[i],h,(tb.grow g).sq,am (by omega),am (by omega)⟩
 yld:=λi x A' H' st v H2 hx g s ok y=>by
  obtain⟨us,h,ra⟩:=hv A' H' st g s ok;obtain⟨p,x1,y1,hp,h1,h2,rfl,rfl⟩:=y;obtain⟨z1,z2,e1,e2,rfl⟩:=ziY hx;obtain⟨w1,f1,r1⟩:=ra.get e1;obtain⟨w2,f2,r2⟩:=(rb.grow g).get e2;have q1:=h1 us h;have q2:=h2 vs (tb.grow g).sq;rw[f1]at q1;cases q1;rw[f2]at q2;cases q2;exact⟨.new hp,s.new hp,.val (.tup (.inl ⟨.inl yS,s.fresh hp⟩) (by show 2<=sizeLine;decide) (.cons (r1.grow (.new hp)) (.cons (r2.grow (.new hp)) .nil)))⟩
 stop:=λA' H' st g s ok=>by
  obtain⟨us,h,ra⟩:=hv A' H' st g s ok;refine⟨us,vs,h,(tb.grow g).sq,?_⟩;rw[zd_,ra.len,rb.len];omega
 small:=by rw[zd_];omega
def zgp (T:yD):wX:=λenv st Q=>T env st λzs st1=> ∃x ys,zs= [x,.lst ys]/\zbV x st1 λsrc xs=>Q src (qM xs ys) st1
theorem zhA {elts:List Expr}{k:Nat}{pos':Pos}(hg:Gl X "zip")(hm:X.mg "zip" =none)(ha:PA X [a,b] (wY X.K TA))(hs:starEach [a,b] X.env= [(false,eval a X.env),(false,eval b X.env)]:=by rfl)(hs2:starEach [b] X.env= [(false,eval b X.env)]:=by rfl):PI X (.Tuple elts k pos') (.Call (.Name "zip" p) [a,b] [] pos) (t6 X.K (zgp TA)):=by
 refine nV (zoD hg hm ha hs hs2) λσ H R ⟨A,env,st,Q3,rel,h,k⟩=>⟨A,env,st,_,rel,h,λA1 H1 st1 zs vs g1 s1 e1 h1=> ?_⟩;obtain⟨x,ys,rfl,h1⟩:=h1;obtain⟨v,w,rfl,e,e2⟩:=yA.two e1;cases e2 with | val e2=>cases e2 with | lst t2 hz2 r2=>
  rcases h1 with⟨xs,rfl,h1⟩ | ⟨i,xs,rfl,q,h1⟩
  ·cases e with | val e=>cases e with | lst t hz r=>
    exact⟨_,_,rfl,⟨_,t.sq⟩,⟨_,t2.sq⟩,k A1 H1 st1 none _ _ g1 s1 (zgy (by rw[r.len];exact hz) (λA' H' st' g s _=>⟨_,(t.grow g).sq,r.grow g⟩) t2 r2) h1⟩
  ·cases e with
   | val e=>cases e
   | obj eo=>
    obtain⟨us,h2,r,hz⟩:=s1.at_ _ _ _ eo q;exact⟨_,_,rfl,⟨_,.of h2⟩,⟨_,t2.sq⟩,k A1 H1 st1 _ _ _ g1 s1 (zgy (by rw[r.len];exact hz) (λA' H' st' g s ok=>by
     obtain⟨vs',h2',r',_⟩:=s.at_ _ _ _ (g.sub eo) ok;exact⟨vs',.of h2',r'⟩) t2 r2) h1⟩
@[simp] theorem zu5 {T:yD}{env:zG}{st:z5}{Q:x6->List PV->z5->Prop} :zgp T env st Q=T env st λzs st1=> ∃x ys,zs= [x,.lst ys]/\zbV x st1 λsrc xs=>Q src (qM xs ys) st1:=rfl
def zhI:PV->zV:=λx xs st Q=> ∃(i:Nat) (k:z8) (kvs:List (z8×PV)) (y z:PV),x= .obj i/\xs= [y,z]/\vR y=some k/\yR z=true/\st[i]?=some (.dct kvs)/\kvs.length < sizeLine/\
 ((∃v,zO kvs k=some v/\Q v st)∨(zO kvs k=none/\Q z (st.set i (.dct (wH kvs k z)))))
theorem znl:tT X "dict.setdefault" (rY X.K zhI):=by
 intro pins s σ H v vs vv us Q I rv rvs ⟨A,st,x,xs,Q3,rs,ex,exs,h,k⟩;obtain⟨i,kk,kvs,y,z,rfl,rfl,ek,hz,q,hl,h⟩:=h;obtain⟨w,w2,rfl,ey,ez⟩:=yA.two exs;have rz:=ez.rv hz;cases ex with
 | val e=>cases e
 | obj eo=>
  have hm:=cj eo;obtain⟨ks,h1,r,hkl⟩:=rs.at_ _ _ _ eo q;cases rv;obtain⟨u,u2,rfl,ru,ru2⟩:=zK.two rvs;have ew:=qC ey ek;subst ew;have hlen:=r.len;refine zkT I h1 ru ru2 (by omega) λw' s' x' hx=> ?_;rcases hx with⟨y',e1,e2,rfl,I'⟩ | ⟨e1,e2,rfl,I'⟩
  ·rcases r.val (k:=kk)with⟨x2,v2,f1,f2,r'⟩ | ⟨f1,f2⟩
   ·rw[e1]at f2;cases f2
    rcases h with⟨v3,h1',h2'⟩ | ⟨h1',_⟩
    ·rw[f1]at h1';cases h1'
     exact⟨_,H,I',e2,k.now rs (.val r') h2'⟩
    ·rw[f1]at h1';cases h1'
   ·rw[e1]at f2;cases f2
  ·rcases r.val (k:=kk)with⟨x2,v2,f1,f2,r'⟩ | ⟨f1,f2⟩
   ·rw[e1]at f2;cases f2
   ·rcases h with⟨v3,h1',h2'⟩ | ⟨_,h2'⟩
    ·rw[f1]at h1';cases h1'
    ·refine⟨_,_,I',e2,k A _ _ _ _ (.put hm) (rs.put (q:= .dct (wH kvs kk z)) eo ⟨_,yS,RKs.put (rz.grow (.put hm)) (r.grow (.put hm)),?_⟩) (.val (rz.grow (.put hm))) h2'⟩
     have:=nO ks kk x';omega
def zhH:PV->zV:=λx xs st Q=> ∃(i:Nat) (ns:List Int) (n:Int) (j:Nat),x= .obj i/\xs= [.int n]/\st[i]?=some (.lst (ns.map PV.int))/\ns[j]?=some n/\(∀m,m < j->ns[m]?≠some n)/\Q .non (st.set i (.lst ((ns.eraseIdx j).map PV.int)))
theorem znk:tT X "list.remove" (rY X.K zhH):=by
 intro pins s σ H v vs vv us Q I rv rvs ⟨A,st,x,xs,Q3,rs,ex,exs,h,k⟩;obtain⟨i,ns,n,j,rfl,rfl,q,hj,hjn,h⟩:=h;obtain⟨w,rfl,e1⟩:=yA.one exs;cases xF e1;cases ex with
 | val e=>cases e
 | obj eo=>
  have hm:=cj eo;obtain⟨ws,h1,r,z⟩:=rs.at_ _ _ _ eo q;cases zcT r;refine zmH pins s σ H _ _ vv us Q I rv rvs ⟨_,ns,n,j,rfl,rfl,h1,hj,hjn,k A _ _ _ _ (.put hm) (rs.put (q:= .lst ((ns.eraseIdx j).map PV.int)) eo ⟨_,yS,iX _,?_⟩) (.val .non) h⟩;rw[aa]at z⊢
  exact bq (ii ..) z
end
set_option Elab.async false
set_option linter.all false
set_option maxRecDepth 100000
set_option maxHeartbeats 4000000
theorem yA.app {K:Frag}{A:List Addr}{H:Hp} : ∀{xs ys:List PV} {vs ws:List V},yA K A H xs vs->yA K A H ys ws->yA K A H (xs++ys) (vs++ws)
 | _,_,_,_,.nil,h=>h
 | _,_,_,_,.cons r t,h=> .cons r (yA.app t h)
theorem wW.of {K:Frag}{A:List Addr}{H H':Hp}{p:Addr}(g:zS A H (A++ [p]) H'): ∀{xs:List PV} {vs:List V},yA K A H xs vs->wW K (A++ [p]) H' p xs vs
 | _,_,.nil=> .nil
 | _,_,.cons r t=> .cons (by
   cases r with
   | val r=>exact .val (r.grow g)
   | obj e=>exact .obj (i:=A.length) (o9 rfl) (ad.mp e).1 (g.sub e)) (wW.of g t)
def jE (own:Nat)(g:xL)(tt:yT)(el:zB)(src:x6)(xs:List PV)(Q:List PV->z5->Prop)(env:zG)(st:z5):Prop:= ∃P:Nat->List PV->zG->z5->Prop,P 0 [] (env++List.replicate own none) st/\
 (∀i x ys env st,xs[i]?=some x->P i ys env st->vL src st (g x env st λe s=>tt e s λb s2=>if b=true then el e s2 λy s3=>P (i+1) (ys++ [y]) e s3 else P (i+1) ys e s2))/\
 (∀ys env st,P xs.length ys env st->vL src st (Q ys st))
def zdx (own:Nat)(I:wX)(g:xL)(tt:yT)(el:zB):zB:=λenv st Q=>I env st λsrc xs st1=>jE own g tt el src xs (λys st2=>Q (.obj st2.length) (st2++ [.ros ys])) env st1
theorem zkA {K:Frag}{own:Nat}{g:xL}{tt:yT}{el:zB}{src:x6}{xs:List PV}{Q3:List PV->z5->Prop}{Q:VK}{A:List Addr}{H:Hp}{σ:St}{env:zG}{st:z5}{J:It}(rel:yU K A H σ env st)(it:sB K A H src J xs)
  (h:jE own g tt el src xs Q3 env st) (k: ∀A' H' st' ys vs,zS A H A' H'->RS K A' H' st'->yA K A' H' ys vs->vs.length<=sizeLine->Q3 ys st'->∀D,H' D=none->Q (.ref D) (zI H' D (.lst vs))):eF own J (vI K g) (yZ K tt) (zP K el) Q σ H:=by
 obtain⟨P,p0,hP,hE⟩:=h;refine⟨λi m vs σ' H'=>m=xs.length - i/\i<=xs.length/\vs.length<=i/\∃A' env' st' ys,zS A H A' H'/\yU K A' H' σ' env' st'/\yA K A' H' ys vs/\P i ys env' st',⟨_,rfl,eh _,ak _,A,_,st,[],.refl _ _,rel.more own,.nil,p0⟩,?_⟩;rintro i m vs σ' H' ⟨rfl,hi,hv,A',env',st',ys,g',rel',rv,p'⟩;by_cases hlt:i < xs.length
 ·have hx:xs[i]?=some xs[i]:=am hlt
  have hw:=hP i _ ys env' st' hx p';refine .inr ⟨it.go i A' H' st' g' rel'.rs hw.ok hlt,bc (lm hv hlt) it.small,λvs σ2 H2=>i+1<=xs.length/\vs.length<=i+1/\∃A' env' st' ys,zS A H A' H2/\yU K A' H2 σ2 env' st'/\yA K A' H2 ys vs/\P (i+1) ys env' st',λvs σ2 H2 q=>⟨_,by omega,rfl,q⟩,λv H2 y=> ?_⟩;obtain⟨g2,s2,e2⟩:=it.yld i _ A' H' st' v H2 hx g' rel'.rs hw.ok y;refine⟨A',env',st',_,_,rel'.grow g2 s2,e2,hw.of,λA3 H3 σ3 env3 st3 g3 r3 h3=>⟨A3,env3,st3,_,r3,h3,λA4 H4 st4 b g4 s4 h4=> ?_⟩⟩;have gg:=g2.trans (g3.trans g4);cases b with
  | false=>exact⟨hlt,by omega,A4,env3,st4,ys,g'.trans gg,r3.grow g4 s4,yA.grow gg rv,h4⟩
  | true=>exact⟨A4,env3,st4,_,r3.grow g4 s4,h4,λA5 H5 st5 y v5 g5 s5 e5 h5=>⟨hlt,by rw[af,bi];omega,A5,env3,st5,ys++ [y],g'.trans (gg.trans g5),(r3.grow g4 s4).grow g5 s5,yA.app (yA.grow (gg.trans g5) rv) (.cons e5 .nil),h5⟩⟩
 ·have e:i=xs.length:=by omega
  subst e;have hw:=hE ys env' st' p';have hz:=bq hv it.small;exact .inl ⟨it.stop A' H' st' g' rel'.rs hw.ok,hz,k A' H' st' ys vs g' rel'.rs rv hz hw.of⟩
section
variable {X:Cx} {scope:Scope} {N' own:List Str} {Ti:wX} {Tg:xL} {tt:yT} {te:zB}
theorem zk9 {K:Frag}{own:Nat}{σ:St}{H:Hp}{Q:VK} :zP K (zdx own Ti Tg tt te) σ H Q->j6 own (t6 K Ti) (vI K Tg) (yZ K tt) (zP K te) σ H Q:=by
 rintro⟨A,env,st,Q3,rel,h,k⟩;refine⟨A,env,st,_,rel,h,λA1 H1 st1 src xs J g1 s1 it h1=>zkA (rel.grow g1 s1) it h1 λA2 H2 st2 ys vs g2 s2 r2 hz q D hD=> ?_⟩;exact k (A2++ [D]) _ _ _ _ (g1.trans (g2.trans (.newObj hD))) (s2.newObj (q:= .ros ys) hD ⟨vs,yS,wW.of (.newObj hD) r2,hz⟩) (.obj (o9 s2.len)) q
theorem zhC {elt target iter:Expr}{ifs:List Expr}{pos spos pos':Pos}{i0:Nat}{x:Str}(S:sW X scope N' own)(hN:X.N.Nodup)(hi0:X.N[i0]?=some x)(hx:uN X.env.scope x)(hc:X.calm=true)(hi:PI X target iter (t6 X.K Ti))
  (hg: ∀C s H fp pins,PG (xM X scope (N'++own) C s H fp pins) target (vI X.K Tg)) (ht: ∀C s H fp pins,PF (xM X scope (N'++own) C s H fp pins) ifs (yZ X.K tt)) (he: ∀C s H fp pins,PE (xM X scope (N'++own) C s H fp pins) elt (zP X.K te))
  (hs: ∀x,foldedSetIterable iter X.env x=pure x:=by intro _;rfl) (hsw:swapsWith (.ListComp elt [⟨target,iter,ifs,0⟩] scope pos) (some (.Name x pos')) spos.line X.env=pure true:=by rfl)
  (hf:X.fn x=true∨X.env.scope.names.lookup x=some .local:=by first | exact .inl rfl | exact .inr rfl | assumption):
  PS X (.Assign [.Name x pos'] (.ListComp elt [⟨target,iter,ifs,0⟩] scope pos) spos) (yY X.K (pQ (zdx own.length Ti Tg tt te) (gN i0))):=by
 refine tZ (zh4 hN hi0 hx S hc hi hg ht he hs hsw hf) λD σ H h=> ?_;obtain⟨A,env,st,Q3,rel,h,k⟩:=l8 h;exact zk9 ⟨A,env,st,Q3,rel,h,λA1 H1 st1 r v g s e q=>lA (k A1 H1 st1 r v g s e q)⟩
def xZ (n m:Nat):List PV:=(List.range m).map λk=> .obj (n+k)
def kE:R3:=λx y st Q=>match x with
 | .obj n=>(match y with
  | .int k=>(match st[n]? with | some (.ros xs)=>(match atI xs k with | some z=>Q z st | none=>False) | _=>False)
  | _=>False)
 | _=>False
theorem wW.get {K:Frag}{A:List Addr}{H:Hp}{a:Addr} : ∀{xs:List PV} {vs:List V} {j:Nat} {x:PV},wW K A H a xs vs->xs[j]?=some x->∃v,vs[j]?=some v/\RE K A H x v
 | _,_,0,_,.cons r t,h=>by
  cases h;refine⟨_,rfl,?_⟩;cases r with
  | val r=>exact .val r
  | obj _ _ e=>exact .obj e
 | _,_,j+1,_,.cons r t,h=>by
  obtain⟨v,e,r'⟩:=wW.get t (by simpa using h);exact⟨v,by simpa using e,r'⟩
 | _,_,_,_,.nil,h=>by cases h
theorem nS {k:Nat}(hr:zU k X.A):rS X (xQ X.K kE):=by
 intro value slice pins s σ H v w vv ww Q I rv rw ⟨A,st,x,y,Q3,rs,ex,ey,h,k⟩ hs;unfold kE at h
 split at h
 ·split at h
  ·rename_i n y' kk
   split at h
   ·rename_i xs q
    split at h
    ·rename_i z e
     cases ex with
     | val ex=>cases ex
     | obj eo=>
      cases xF ey;obtain⟨vs,h1,r,hzz⟩:=rs.at_ _ _ _ eo q;have hl:xs.length=vs.length:=ib r;unfold atI at e;cases hn:w9 xs.length kk with
      | none=>rw[hn]at e;cases e
      | some j=>
       rw[hn]at e;obtain⟨v',e2,r'⟩:=wW.get r e;exact zbO value slice pins s σ H _ _ vv ww Q I rv rw ⟨_,_,kk,v',rfl,rfl,.of h1,by unfold atI;rw[<- hl,hn];exact e2,k.now rs r' h⟩ hs
    ·exact h.elim
   ·exact h.elim
  ·exact h.elim
 ·exact h.elim
@[simp] theorem zi8 {own:Nat}{I:wX}{g:xL}{tt:yT}{el:zB}{env:zG}{st:z5}{Q:K3} :zdx own I g tt el env st Q=(I env st λsrc xs st1=>jE own g tt el src xs (λys st2=>Q (.obj st2.length) (st2++ [.ros ys])) env st1):=rfl
@[simp] theorem zsW {n:Nat}{i:Int}{st:z5}{Q:K3} :kE (.obj n) (.int i) st Q=(match st[n]? with | some (.ros xs)=>(match atI xs i with | some z=>Q z st | none=>False) | _=>False):=rfl
end
def nK (n m:Nat)(y:PV):Option PV->Option PV
 | some (.obj i)=>if i=m then some y else if i < n then some (.obj i)else none
 | o=>o
section
variable {K:Frag} {A:List Addr} {H:Hp} {σ:St} {env:zG} {st0:z5} {L:List (List PV)}
theorem zhj {n j:Nat}{a:Addr}(hd:A.Nodup)(h:A[j]?=some a)(hj:n<=j):a∉A.take n:=λhm=>by
 obtain⟨k,hk,ek⟩:=kl hm;rw[cf]at hk;have e3:A[k]?=some a:=by rw[<- dw (show k < n by omega),am (by rw[cf];omega),ek]
 have:=(da (ad.mp e3).1 hd).mp (e3.trans h.symm);omega
theorem yU.freezeR (r:yU K A H σ env (st0++(L.map PO.lst++ [PO.ros (xZ st0.length L.length)]))):yU K (A.take st0.length) H σ (env.map (nK st0.length (st0.length+L.length) (.lst (L.map PV.lst)))) st0:=by
 have s:=r.rs.take st0.length;have et:(st0++(L.map PO.lst++ [PO.ros (xZ st0.length L.length)])).take st0.length=st0:=by rw[cr (ak _),fk]
 rw[et]at s;have hAl:=r.rs.len;rw[af,af,aa,bi]at hAl;refine⟨s,by rw[aa];exact r.len,λi x e=> ?_⟩;rw[aw]at e;cases e1:env[i]? with
 | none=>rw[e1]at e;cases e
 | some o=>
  rw[e1]at e;have e2:nK st0.length (st0.length+L.length) (.lst (L.map PV.lst)) o=some x:=bx e;cases o with
  | none=>cases e2
  | some y=>
   obtain⟨v,ev,re⟩:=r.at_ i y e1;refine⟨v,ev,?_⟩;cases re with
   | val rv=>
    have:y=x:=by
     cases y with
     | obj j=>cases rv
     | _=>exact bx e2
    rw[<- this];exact .val (rv.less qZ)
   | obj eo=>
    rename_i j a;unfold nK at e2;dsimp only at e2;by_cases hj:j=st0.length+L.length
    ·rw[if_pos hj]at e2
     cases e2;subst hj;obtain⟨vs,h1,rr,z⟩:=r.rs.at_ _ _ _ eo (by rw[aj (by omega),aj (by rw[aa];omega),aa,show st0.length+L.length - st0.length - L.length=0 by omega];rfl);have hl:(xZ st0.length L.length).length=vs.length:=ib rr;have hl2:L.length=vs.length:=by rw[<- hl];unfold xZ;simp
     refine .val (.lst (.inl ⟨.inl h1,zhj r.rs.nd eo (by omega)⟩) z ?_);have build: ∀(L':List (List PV)) (vs':List V) (n:Nat),L'.length=vs'.length->(∀(k:Nat) (l:List PV),L'[k]?=some l->∃p:Addr,vs'[k]?=some (V.ref p)/\RV K (A.take st0.length) H (.lst l) (.ref p))->RVs K (A.take st0.length) H (L'.map PV.lst) vs':=by
      intro L'
      induction L' with
      | nil=>intro vs' n hl _;cases vs' with
       | nil=>exact .nil
       | cons=>cases hl
      | cons l L' ih=>
       intro vs' n hl hk;cases vs' with
       | nil=>cases hl
       | cons v vs'=>
        obtain⟨p,e1,rp⟩:=hk 0 l rfl;cases e1;exact .cons rp (ih vs' 0 (by simpa using hl) λk l' hl'=>by simpa using hk (k+1) l' (by simpa using hl'))
     refine build L vs 0 hl2 λk l hk=> ?_;have hkl:=(ad.mp hk).1;have hx:(xZ st0.length L.length)[k]?=some (.obj (st0.length+k)):=by unfold xZ;rw[aw,il hkl];rfl
     obtain⟨v',e3,r3⟩:=wW.get rr hx;cases r3 with
     | val r3=>cases r3
     | obj e4=>
      obtain⟨ws,f1,f2,f3⟩:=r.rs.at_ _ _ _ e4 (by rw[aj (by omega),ax (by rw[aa];omega),show st0.length+k - st0.length=k by omega,aw,hk];rfl);exact⟨_,e3,.lst (.inl ⟨.inl f1,zhj r.rs.nd e4 (by omega)⟩) f3 (f2.less qZ)⟩
    ·rw[if_neg hj]at e2
     split at e2
     ·cases e2
      exact .obj (by rw[dw (by assumption)];exact eo)
     ·cases e2
end
section
variable {X:Cx} {a b:Stmt} {rst:List Stmt} {Ts Tu Tw:yV}
def zdz (T:yV):yV:=λD env st=>T {D with nx:=λenv' st'=> ∃(st0:z5) (L:List (List PV)),st'=st0++(L.map PO.lst++ [PO.ros (xZ st0.length L.length)])/\st.length<=st0.length/\D.nx (env'.map (nK st0.length (st0.length+L.length) (.lst (L.map PV.lst)))) st0} env st
theorem zhE (h1:PS X a (yY X.K Ts))(h2:PS X b (yY X.K Tu))(h3:xB X rst (yY X.K Tw)):xB X (a::b::rst) (yY X.K (u9 (zdz (u9 Ts Tu)) Tw)):=
 k9 (oE h1 (oE h2 h3)) λD σ H ⟨A,env,st,D3,rel,h,k⟩=>⟨A,env,st,_,rel,h,λA1 H1 σ1 env1 st1 g1 r1 h1=>⟨A1,env1,st1,_,r1,h1,λA2 H2 σ2 env2 st2 g2 r2 h2=>by
  obtain⟨st0,L,rfl,hl,h2⟩:=h2;exact⟨_,_,st0,D3,r2.freezeR,h2,k.after ((g1.trans g2).take (by rw[rel.rs.len];exact hl))⟩,k.rt.after g1,(k.after g1).bk,(k.after g1).ct⟩,k.rt,k.bk,k.ct⟩
end
set_option Elab.async false
set_option linter.all false
set_option maxRecDepth 100000
set_option maxHeartbeats 4000000
section
variable {X:Cx} {a:Expr} {ta:L2.TA} {T3:yD} {p p2 pos pos2:Pos}
def zqE (ta:L2.TA):TE:=λσ H Q=>ta σ H λvs H1=> ∃n:Nat,vs= [.int (n:Int)]/\n < 2 ^ 20/\∀p,H1 p=none->Q (.ref p) (zI H1 p (.lst (uI 0 n)))
theorem zoq (hc:X.calm=true)(hg:Gl X "list")(hm:X.mg "list" =none)(hg2:Gl X "range")(hm2:X.mg "range" =none)(ha:PA X [a] ta)
  (hs:starEach [a] X.env= [(false,eval a X.env)]) (hs2:starEach [.Call (.Name "range" p2) [a] [] pos2] X.env= [(false,eval (.Call (.Name "range" p2) [a] [] pos2) X.env)]):
  PE X (.Call (.Name "list" p) [.Call (.Name "range" p2) [a] [] pos2] [] pos) (zqE ta):=⟨λpins s σ H Q I h=>by
 refine iz (tY I hg hm (show bootBuiltins "list" =some (.type "list") by decide+kernel) (callWith_type1 ?_ hs2 rfl));rw[hs2];show bf _ _ (spliced ((false,eval (.Call (.Name "range" p2) [a] [] pos2) X.env)::backTo pos [])) _ _ s;refine pb (iz (tY I hg2 hm2 ux (callWith_type1 (zR (ha pos2 pins s σ H _ I h) λus s1 ⟨vs,H1,I1,r1,q1⟩=> ?_) hs rfl)));obtain⟨n,rfl,b1,q⟩:=q1;obtain⟨u,rfl,t,rfl⟩:=zK.one r1;refine call_range_1 (qd ?_);have hrs:Builtin.Range.rangeSize 0 (n:Int) 1=((n:Nat):Int):=by rw[vi];split <;> omega
 refine call_list_range (n:=n) (I1.ok.hd hc) (wz ..) (small_one (by omega) (by omega) (by omega) (by omega)) hrs (by omega) λh' tk acc c' k1 hS hacc=> ?_;have k5: ∀b o,s1.heap.get? b=some o->h'.get? b=some o:=λb o e=>k1 b o (ar _ e);have hl:(uI 0 (n:Int)).length=n:=by unfold uI;rw[aa,dz];omega
 refine⟨.ref _,_,I1.laid (t':=tk) (o:= .lst (uI 0 n)) k5 (by rw[ft];exact fw _) ⟨by rw[hl,cp];omega,acc.toList,c',mN ?_ λj v x hv hx=> ?_,by simpa using hS⟩,rfl,q _ (I1.hok.fresh (by rw[ft];exact fw _))⟩
 ·rw[hl];simpa using hacc.1.symm
 ·obtain⟨u,rfl⟩:=hacc.2 j v (by simpa using hv)
  unfold uI at hx;rw[aw]at hx;cases ej:(List.range ((n:Int) - 0).toNat)[j]? with
  | none=>rw[ej]at hx;cases hx
  | some k=>
   rw[ej]at hx;cases hx;obtain⟨hj,e⟩:=ad.mp ej;rw[ph]at e;subst e;exact⟨u,by rw[wy]⟩⟩
def oJ (n:Nat):List PV:=(List.range n).map λ(i:Nat)=> .int (i:Int)
theorem zhP {n:Nat} :uI 0 (n:Int)=(List.range n).map λ(i:Nat)=>V.int (i:Int):=by
 unfold uI;rw[show((n:Int) - 0).toNat=n by omega];exact im λi _=>by rw[gt]
def ziF (o:Bool)(T:yD):zB:=λenv st Q=>T env st λxs st1=> ∃n:Nat,xs= [.int (n:Int)]/\n < 2 ^ 20/\(if o then Q (.obj st1.length) (st1++ [.lst (oJ n)])else Q (.lst (oJ n)) st1)
theorem zcz (o:Bool)(hc:X.calm=true)(hg:Gl X "list")(hm:X.mg "list" =none)(hg2:Gl X "range")(hm2:X.mg "range" =none)(ha:PA X [a] (wY X.K T3))
  (hs:starEach [a] X.env= [(false,eval a X.env)]:=by rfl) (hs2:starEach [.Call (.Name "range" p2) [a] [] pos2] X.env= [(false,eval (.Call (.Name "range" p2) [a] [] pos2) X.env)]:=by rfl):
  PE X (.Call (.Name "list" p) [.Call (.Name "range" p2) [a] [] pos2] [] pos) (zP X.K (ziF o T3)):=by
 refine xU (zoq hc hg hm hg2 hm2 ha hs hs2) λσ H Q ⟨A,env,st,Q3,rel,h,k⟩=>⟨A,env,st,_,rel,h,λA1 H1 st1 xs vs g1 s1 e1 h1=> ?_⟩;obtain⟨n,rfl,hn,h1⟩:=h1;obtain⟨v,rfl,r1⟩:=yA.one e1;cases xF r1;refine⟨n,rfl,hn,λp hp=> ?_⟩;have hz:(uI 0 (n:Int)).length<=sizeLine:=by rw[zhP,aa,dz,cp];omega
 have hr: ∀{A:List Addr} {H:Hp},RVs X.K A H (oJ n) (uI 0 n):=λ{A H} =>by rw[zhP];exact zcU _ _
 cases o with
 | true=>exact k (A1++ [p]) _ _ _ _ (g1.trans (.newObj hp)) (s1.newObj (q:= .lst _) hp ⟨_,yS,hr,hz⟩) (.obj (o9 s1.len)) h1
 | false=>exact(k.after g1).lst s1 hr hz h1 p hp
@[simp] theorem zuX {o:Bool}{T:yD}{env:zG}{st:z5}{Q:K3} :ziF o T env st Q=(T env st λxs st1=> ∃n:Nat,xs= [.int (n:Int)]/\n < 2 ^ 20/\(if o then Q (.obj st1.length) (st1++ [.lst (oJ n)])else Q (.lst (oJ n)) st1)):=rfl
end
end L3
namespace L2
open PySem PySem.Spec PyProof.Rows
theorem zgO: ∀{names:List (Str×NameKind)},(names.filter λy=>y.2== .cell)= []->∀(n:Nat) (acc:List (Str×Addr)) (h:Heap),cellsFrom n names acc=acc/\pushCells h names=h
 | [],_,n,acc,h=>⟨rfl,rfl⟩
 | (x,k)::r,e,n,acc,h=>by
  rw[dy]at e
  split at e
  ·cases e
  ·next hk=>
   obtain⟨h1,h2⟩:=zgO e n acc h;unfold cellsFrom pushCells;rw[if_neg hk,if_neg hk];exact⟨h1,h2⟩
theorem zhe {z:Str} : ∀{names:List (Str×NameKind)},(names.filter λy=>y.2== .cell)= [(z,.cell)]->∀(n:Nat) (acc:List (Str×Addr)) (h:Heap),cellsFrom n names acc=(z,n)::acc/\pushCells h names=h.push {cls:= .type "cell",data:= .cell none}
 | [],e,n,acc,h=>by cases e
 | (x,k)::r,e,n,acc,h=>by
  rw[dy]at e;unfold cellsFrom pushCells
  split at e
  ·next hk=>
   rw[tq]at e;obtain⟨e1,e2⟩:=e;cases e1;obtain⟨h1,h2⟩:=zgO e2 (n+1) ((z,n)::acc) (h.push {cls:= .type "cell",data:= .cell none});rw[if_pos hk,if_pos hk];exact⟨h1,h2⟩
  ·next hk=>
   obtain⟨h1,h2⟩:=zhe e n acc h;rw[if_neg hk,if_neg hk];exact⟨h1,h2⟩
theorem zmV {M:Model}{A:Around}{E:Value->Shared->Prop}{s:Shared}{scope:Scope}{globals:Addr}{cl:List (Str×Addr)}{qual:Str}{env:Env}{z:Str}{Q:Env->Shared->Prop}(hz:(scope.names.filter λy=>y.2== .cell)= [(z,.cell)])
  (hQ: ∀h',h'.Ns s.heap.objs.size (λ_=>none)->h'.IsCell (s.heap.objs.size+1) none->(∀b o,s.heap.get? b=some o->h'.get? b=some o)->Q (newEnv scope s.heap.objs.size globals ((z,s.heap.objs.size+1)::cl) qual none .none (some env) builtinsNs) {s with heap:=h'}):
  bf M A (newFunctionEnv scope globals cl [] qual none .none (some env)) Q E s:=by
 simp only[newFunctionEnv,vy,if_true];refine ah (wpAny_alloc (ah (wpAny_layCells _ (λname kind cells=>by cases hkc:kind==NameKind.cell <;> simp[hkc]) _ _ _ _ ?_)));have hs:({s with heap:=s.heap.push {cls:= .type "dict",data:= .dict #[]}} :Shared).heap.objs.size=s.heap.objs.size+1:=ft ..;rw[hs];obtain⟨h1,h2⟩:=zhe hz (s.heap.objs.size+1) cl (s.heap.push {cls:= .type "dict",data:= .dict #[]});rw[h1];show bf _ _ (forIn ([]:List (Str×Value)) _ _ >>= _) _ _ _;rw[List.forIn_nil];refine ah (ay (ay ?_));show Q _ {s with heap:=pushCells (s.heap.push {cls:= .type "dict",data:= .dict #[]}) scope.names};rw[h2];refine hQ _ ((Heap.Ns.new s.heap (.type "dict")).keeps λb o e=>ar _ e) ?_ λb o e=>ar _ (ar _ e);have:(s.heap.push {cls:= .type "dict",data:= .dict #[]}).objs.size=s.heap.objs.size+1:=ft ..;rw[<- this];exact⟨_,cb _ rfl,rfl⟩
structure pT (X:Cx)(scope:Scope)(N' own:List Str)(z:Str):Prop where
 kind:scope.kind= .function
 onec:(scope.names.filter λy=>y.2== .cell)= [(z,.cell)]
 zf:(z,NameKind.free)∉scope.names
 names: ∀y∈scope.names,y.2= .local->scope.names.lookup y.1=some .local
 frees: ∀y∈scope.names,y.2= .free->X.env.scope.names.lookup y.1=some .cell∨X.env.scope.names.lookup y.1=some .free
 len:N'.length=X.N.length
 pre: ∀(i:Nat) (y:Str),N'[i]?=some y->X.N[i]?=some y∨(y,NameKind.free)∉scope.names
 nol: ∀y∈N',scope.names.lookup y≠some .local/\y≠z
def ze7 (fsc scope:Scope)(N N':List Str)(z:Str):Bool:=
 scope.kind== .function&&(scope.names.filter λy=>y.2== .cell)== [(z,.cell)]&& !(scope.names.any λq=>q.1==z&&q.2== .free)&&scope.names.all (λy=>(y.2 != .local||scope.names.lookup y.1==some .local)&&(y.2 != .free||(fsc.names.lookup y.1==some .cell||fsc.names.lookup y.1==some .free)))
  &&N'.length==N.length&&(N'.zip N).all (λp=>p.1==p.2|| !(scope.names.any λq=>q.1==p.1&&q.2== .free))&&N'.all (λy=>scope.names.lookup y !=some .local&&y !=z)
theorem zkI {X:Cx}{scope fsc:Scope}{N N' own:List Str}{z:Str}(hX:X.env.scope=fsc)(hN:X.N=N)(h:ze7 fsc scope N N' z=true):pT X scope N' own z:=by
 unfold ze7 at h;simp only[fe,qt,beq_iff_eq,bne_iff_ne,xp,ne_eq,wn,wo]at h;obtain⟨⟨⟨⟨⟨⟨h1,h2⟩,h3⟩,h4⟩,h5⟩,h6⟩,h7⟩:=h;subst hX hN;refine⟨h1,h2,λhm=> ?_,λy hy e=> ?_,λy hy e=> ?_,h5,λi y e=> ?_,λy hy=>h7 y hy⟩
 ·have:=h3 _ hm
  simp at this
 ·rcases(h4 y hy).1 with q | q
  ·exact absurd e q
  ·exact q
 ·rcases(h4 y hy).2 with q | q
  ·exact absurd e q
  ·exact q
 ·have hi:i < N'.length:=(ad.mp e).1
  have e2:X.N[i]?=some X.N[i]:=am (by omega);have m:(y,X.N[i])∈N'.zip X.N:=by
   refine ap.mpr ⟨i,?_⟩;rw[kb];exact⟨e,e2⟩
  rcases h6 _ m with q | q
  ·have q':y=X.N[i]:=q
   exact .inl (by rw[e2,q'])
  ·refine .inr λhm=> ?_
   have:=q _ hm;simp at this
abbrev uQ (X:Cx)(scope:Scope)(Nc:List Str)(z:Str)(c C:Addr)(s:Shared)(H:Hp)(fp:List Addr)(pins:List (Addr×Obj)):Cx:=
 {X with N:=Nc,s₀:=s,H₀:=H,env:=compEnvC scope ((z,c)::xW scope.names X.env.cells) C X.env,outer:=X.stack,stack:=X.stack,ex:=fp,fn:=λy=>y==z,pn:=X.pn++pins,xe:=λ_ _=>False}
section
variable {X:Cx} {pins:List (Addr×Obj)} {σ:St} {H:Hp} {s:Shared} {scope:Scope} {N' own:List Str} {z:Str}
theorem pT.cells (S:pT X scope N' own z)(I:z6 X pins σ H s): ∀p∈scope.names,p.2= .free->∃c,X.env.cells.lookup p.1=some c:=λp hp hk=>I.ok.has p.1 (S.frees p hp hk)
theorem qS (S:pT X scope N' own z)(I:z6 X pins σ H s){x:Str}{c0 c:Addr}(h:((z,c0)::xW scope.names X.env.cells).lookup x=some c):(x=z/\c=c0)∨X.env.cells.lookup x=some c:=by
 rw[gy]at h;cases hb:x==z with
 | true=>rw[hb]at h;cases h;exact .inl ⟨beq_iff_eq.mp hb,rfl⟩
 | false=>
  rw[hb]at h;obtain⟨hm,e⟩:=cQ h;obtain⟨d,hd⟩:=S.cells I _ hm rfl;rw[hd]at e;exact .inr (by rw[hd,e];rfl)
theorem zlH (S:pT X scope N' own z)(I:z6 X pins σ H s){c0 C D:Addr}{oD:Obj}{fp:List Addr}{h4:Heap}{tk:Nat}{m:Str->Option Value}(k: ∀b u,s.heap.get? b=some u->h4.get? b=some u)(hC:s.heap.objs.size<=C)(hD:s.heap.objs.size<=D)(hc0:s.heap.objs.size<=c0)(hcc:h4.IsCell c0 none)(hDC:D≠C)(eD:h4.get? D=some oD)(cD: ∀v,oD.data≠ .cell v)
  (ns:h4.Ns C m) (ff: ∀b∈fp,uX X pins H b) (fl: ∀b∈fp,b < s.heap.objs.size):
  z6 (uQ X scope (N'++own) z c0 C s H fp pins) [(D,oD)] (σ++List.replicate own.length none) H {s with heap:=h4,toks:=tk} :=by
 have nostk: ∀{b:Addr},s.heap.objs.size<=b->b∉vA X.stack:=λ{b} hb hm=>by
  rcases bd.mp (I.stkSub b hm)with e | hm
  ·rw[e]at hb;exact absurd (bc I.lt hb) (ck _)
  ·exact I.nofs hb hm
 have old: ∀x c,X.env.cells.lookup x=some c->c < s.heap.objs.size:=λx c e=>by
  obtain⟨v,q⟩:=I.cell x c e;exact q.lt
 have lk: ∀x,((compEnvC scope ((z,c0)::xW scope.names X.env.cells) C X.env).kindOf x=some .cell∨(compEnvC scope ((z,c0)::xW scope.names X.env.cells) C X.env).kindOf x=some .free)->x=z∨(x,NameKind.free)∈scope.names:=λx hx=>by
  have q:scope.names.lookup x=some .cell∨scope.names.lookup x=some .free:=by
   rcases hx with hx | hx
   ·rcases oI (env:=X.env) (names:=scope.names) hx with q | ⟨_,q⟩
    ·exact .inl q
    ·exact .inr q
   ·rcases oI (env:=X.env) (names:=scope.names) hx with q | ⟨w,_⟩
    ·exact .inr q
    ·cases w
  rcases q with q | q
  ·have hm:(x,NameKind.cell)∈(scope.names.filter λy=>y.2== .cell):=ij.mpr ⟨fo q,rfl⟩
   rw[S.onec]at hm;have:=aq.mp hm;exact .inl (congrArg Prod.fst this)
  ·exact .inr (fo q)
 have hz1:((z,c0)::xW scope.names X.env.cells).lookup z=some c0:=by rw[gy,beq_self_eq_true]
 have hx1: ∀{x:Str},x≠z->(x,NameKind.free)∈scope.names->((z,c0)::xW scope.names X.env.cells).lookup x=some ((X.env.cells.lookup x).getD 0):=λ{x} hx hm=>by
  rw[gy,show(x==z)=false from by simpa using hx];exact cR hm
 refine⟨⟨I.ok.mod,S.kind,I.ok.glob,I.ok.blt,hC,λx y c h1 h2=> ?_,λx hx=> ?_,λx c hf h=> ?_,I.ok.hd,I.ok.frames,.inl rfl,λb hb=>⟨?_,λx c h=> ?_⟩,I.bs,bq I.ok.bsz I.sz,λb o e hb=> ?_,λb hb hm=> ?_,I.stack,I.stkFree⟩,
  rfl,I.bare,Un.kept k,⟨m,ns,λi x v e1 e2 e3=> ?_⟩,λx c h=> ?_,I.hok.fresh hC,λx c h=> ?_,λp hp=> ?_,I.hok.kept k,?_⟩
 ·rcases qS S I h1 with⟨e1,e2⟩ | g1
  ·rcases qS S I h2 with⟨e3,_⟩ | g2
   ·rw[e1,e3]
   ·exact absurd (bc (old _ _ g2) (e2▸hc0)) (ck _)
  ·rcases qS S I h2 with⟨_,e4⟩ | g2
   ·exact absurd (bc (old _ _ g1) (e4▸hc0)) (ck _)
   ·exact I.ok.inj x y c g1 g2
 ·by_cases e:x=z
  ·subst e;exact⟨_,hz1⟩
  ·exact⟨_,hx1 e ((lk x hx).resolve_left e)⟩
 ·have hxz:x=z:=beq_iff_eq.mp hf
  subst hxz;have h':((x,c0)::xW scope.names X.env.cells).lookup x=some c:=h;rw[hz1]at h';cases h';exact hc0
 ·have:=fl b hb;intro e;rw[e]at this;exact absurd (bc this hC) (ck _)
 ·rcases qS S I h with⟨_,rfl⟩ | h
  ·exact cw (bc (fl b hb) hc0)
  ·exact(ff b hb).2.2.2.2.1 x c h
 ·rcases(ff b hb).2.2.2.1 with w | w
  ·exact I.ok.noex b o e w
  ·exact absurd (bc (ba e) (bq I.ok.bsz w)) (ck _)
 ·rcases bd.mp (I.stkSub b hm)with e | hm
  ·exact(ff b hb).2.1 e
  ·exact(ff b hb).2.2.1 hm
 ·have hi:i < σ.length:=by
   by_cases hi:i < σ.length
   ·exact hi
   ·rw[aj (by omega),gk]at e2
    split at e2 <;> cases e2
  rw[ax hi]at e2;have hN:N'[i]?=some x:=by
   have e1':(N'++own)[i]?=some x:=e1;rw[ax (by rw[S.len,<- I.len];exact hi)]at e1';exact e1'
  have hxz:=(S.nol x (cj hN)).2;have e3':((compEnvC scope ((z,c0)::xW scope.names X.env.cells) C X.env).kindOf x=some .cell∨(compEnvC scope ((z,c0)::xW scope.names X.env.cells) C X.env).kindOf x=some .free)∨(compEnvC scope ((z,c0)::xW scope.names X.env.cells) C X.env).kindOf x=some .local:=by
   rcases e3 with w | w | w
   ·exact .inr w
   ·exact .inl (.inl w)
   ·exact .inl (.inr w)
  rcases e3' with e3' | e3'
  ·have hm:=(lk x e3').resolve_left hxz
   rcases S.pre i x hN with hX | hX
   ·have fr:=S.frees _ hm rfl
    obtain⟨m0,hn0,hl0⟩:=I.loc;obtain⟨u,r,l⟩:=hl0 i x v hX e2 (by rcases fr with w | w;exact .inr (.inl w);exact .inr (.inr w));refine⟨u,r,.inr ⟨e3',?_⟩⟩;rcases l with⟨w,_⟩ | ⟨_,c,ec,⟨o,ho,hd⟩⟩
    ·rcases fr with f | f <;> (have w':X.env.scope.names.lookup x=some .local:=w;rw[f]at w';cases w')
    ·refine⟨c,?_,⟨o,k _ _ ho,hd⟩⟩
     show((z,c0)::xW scope.names X.env.cells).lookup x=some c;rw[hx1 hxz hm,ec]
     rfl
   ·exact absurd hm hX
  ·rcases oI (env:=X.env) (names:=scope.names) e3' with q | ⟨w,_⟩
   ·exact absurd q (S.nol x (cj hN)).1
   ·cases w
 ·rcases qS S I h with⟨_,rfl⟩ | h
  ·exact⟨_,hcc⟩
  ·obtain⟨v,o,ho,hd⟩:=I.cell x c h
   exact⟨v,o,k _ _ ho,hd⟩
 ·rcases qS S I h with⟨_,rfl⟩ | h
  ·exact I.hok.fresh hc0
  ·exact I.freeC x c h
 ·have hp':p∈(X.pn++pins)++ [(D,oD)]:=hp
  rcases av.mp hp' with hp' | hp'
  ·obtain⟨e,n,ne,nf,d⟩:=I.pin p hp'
   refine⟨k _ _ e,n,bj (bc (ba e) hC),λhm=> ?_,d⟩;rcases bd.mp (I.stkSub p.1 hm)with w | w
   ·exact ne w
   ·exact nf w
  ·have e:p=(D,oD):=by simpa using hp'
   subst e;exact⟨eD,I.hok.fresh hD,hDC,nostk hD,cD⟩
 ·show(σ++List.replicate own.length none).length=(N'++own).length
  rw[af,af,dq,S.len,I.len]
theorem zoV {elt target iter:Expr}{ifs:List Expr}{pos spos pos':Pos}{i0:Nat}{x:Str}{wi:TI}{g:TG}{tt:TT}{te:TE}(hN:X.N.Nodup)(hi0:X.N[i0]?=some x)(hx:uN X.env.scope x)(S:pT X scope N' own z)(hc:X.calm=true)(hi:PI X target iter wi)
  (hg: ∀c C s H fp pins,PG (uQ X scope (N'++own) z c C s H fp pins) target g) (ht: ∀c C s H fp pins,PF (uQ X scope (N'++own) z c C s H fp pins) ifs tt) (he: ∀c C s H fp pins,PE (uQ X scope (N'++own) z c C s H fp pins) elt te)
  (hs: ∀x,foldedSetIterable iter X.env x=pure x:=by intro _;rfl) (hsw:swapsWith (.ListComp elt [⟨target,iter,ifs,0⟩] scope pos) (some (.Name x pos')) spos.line X.env=pure true:=by rfl)
  (hf:X.fn x=true∨X.env.scope.names.lookup x=some .local:=by first | exact .inl rfl | exact .inr rfl | assumption):
  PS X (.Assign [.Name x pos'] (.ListComp elt [⟨target,iter,ifs,0⟩] scope pos) spos) (mI (j6 own.length wi g tt te) (lO i0)):=by
 refine⟨?_⟩;intro pins s σ H D0 I h;rw[uo _ _ _ _ hsw];refine ah (kw (ah ?_));show bf _ X.A (do let _ <- comprehension (.ListComp elt [⟨target,iter,ifs,0⟩] scope pos) scope X.env _ (newList []) false (eval iter X.env) (some (assign (.Name x pos') X.env))) _ _ s;refine ah (jc (mw (use:=some (assign (.Name x pos') X.env)) (Q:=λ_ s'=>SP X pins D0 .next s') rfl hs (cS (S.cells I)) S.kind S.names ?_) (λ_ s' hq=>ay (ay hq)) λ_ _ e=>e);refine zR (hi pins s σ H _ I h) λv s1 h1=>zR h1 λitv s2 h2=> ?_;obtain⟨it,fp,tn,J,H2,e,I2,T,st2,f2,W,⟨m0,w0⟩,turn⟩:=h2;subst e;have fl: ∀b∈fp,b < s2.heap.objs.size:=λb hb=>by obtain⟨o,e,_⟩:=T.obj _ _ st2 b hb;exact ba e
 refine dg (zmV S.onec λh4 ns4 hc4 kp4=> ?_);dsimp only at ns4 hc4 kp4⊢
 generalize hH3:s2.heap.push {cls:= .type "list",dict:=none,data:= .seq ([]:List Value).toArray} =h3 at ns4 hc4 kp4⊢
 have hC:h3.objs.size=s2.heap.objs.size+1:=by rw[<- hH3,ft]
 have hDC:s2.heap.objs.size≠h3.objs.size:=by rw[hC];exact bj (me _)
 have hCle:s2.heap.objs.size<=h3.objs.size:=by rw[hC];exact fw _
 have eD3:h3.get? s2.heap.objs.size=some {cls:= .type "list",data:= .seq ([]:List Value).toArray} :=hH3▸cb _ rfl;have k4: ∀b u,s2.heap.get? b=some u->h4.get? b=some u:=λb u e=>kp4 b u (hH3▸ar _ e);have eD4:h4.get? s2.heap.objs.size=some {cls:= .type "list",data:= .seq ([]:List Value).toArray} :=kp4 _ _ eD3;generalize hDd:s2.heap.objs.size=D at *;generalize hCd:h3.objs.size=C at *;obtain⟨c0,ec0⟩: ∃c0,C+1=c0:=⟨_,rfl⟩;rw[ec0]at hc4⊢
 have lc0:D < c0:=by omega
 have I4:=zlH S I2 (c0:=c0) (C:=C) (D:=D) (fp:=fp) (h4:=h4) (tk:=s2.toks) k4 (by rw[hDd];exact hCle) (by rw[hDd];exact ak _) (by rw[hDd];omega) hc4 hDC eD4 (by intro v z;cases z) ns4 f2 (by rw[hDd];exact fl);have lowC: ∀(b:Addr) (u:Obj),s2.heap.get? b=some u->b≠C:=λb u e=>bj (bc (ba e) (by rw[hDd];exact hCle));have nofp: ∀b∈fp,b∉vA X.stack:=λb hb hm=>by
  rcases bd.mp (I2.stkSub b hm)with z | z
  ·exact(f2 b hb).2.1 z
  ·exact(f2 b hb).2.2.1 z
 have fpD: ∀b∈fp,b≠D:=λb hb=>bj (fl b hb);have stat: ∀{H':Hp} {o:Obj},(∀b∈fp,H' b=none)->∀b∈fp,uX (uQ X scope (N'++own) z c0 C s2 H2 fp pins) [(D,o)] H' b:=λ{H' o} hn b hb=>
  ⟨hn b hb,bj (bc (fl b hb) hCle),nofp b hb,.inl hb,λx c e=>by
   rcases qS S I2 e with⟨_,rfl⟩ | e
   ·exact cw (fc (fl b hb) lc0)
   ·exact(f2 b hb).2.2.2.2.1 x c e,λp hp=>by
   have hp':p∈(X.pn++pins)++ [(D,o)]:=hp;rcases av.mp hp' with z | z
   ·exact(f2 b hb).2.2.2.2.2 p z
   ·have e:p=(D,o):=by simpa using z
    rw[e];exact gb (fpD b hb)⟩
 have loop: ∀s3:Shared,z6 (uQ X scope (N'++own) z c0 C s2 H2 fp pins) [(D,{cls:= .type "list",data:= .seq ([]:List Value).toArray})] (σ++List.replicate own.length none) H2 s3->tn 0 s3.heap->
   codeAny (bt X.prog X.w) X.A (.compLoop (.ListComp elt [⟨target,iter,ifs,0⟩] scope pos) 0 (.ref it) (.ref D) (compEnvC scope ((z,c0)::xW scope.names X.env.cells) C X.env))
    (compPost (bt X.prog X.w) X.A X.xe (some (assign (.Name x pos') X.env)) (λ_ s'=>SP X pins D0 .next s') (.ref D) C) s3:=by
  intro s3 I3 st3;refine cT (λn s'=> ∃(i:Nat) (ys:List V) (σ':St) (H':Hp) (vals:List Value) (cnt:Nat),z6 (uQ X scope (N'++own) z c0 C s2 H2 fp pins) [(D,{cls:= .type "list",data:= .seq vals.toArray cnt})] σ' H' s'/\
   tn i s'.heap/\(∀b∈fp,H' b=none)/\zK ys vals/\W i n ys σ' H') ?_ m0 ⟨0,[],_,H2,[],0,I3,st3,λb hb=>(f2 b hb).1,.nil,w0⟩
  rintro n s3 ⟨i,ys,σ3,H3,vals,cnt,I3,st3,fr3,rv,w3⟩;rcases turn i n ys σ3 H3 w3 with⟨stop,hz,q⟩ | ⟨go,hz,N,hN,step⟩
  ·refine zR (T.done (uQ X scope (N'++own) z c0 C s2 H2 fp pins) rfl rfl rfl hc i _ s3 σ3 H3 _ I3 (stat fr3) st3 stop) λr s4 ⟨hr,I4⟩=> ?_
   subst hr;obtain⟨m,ns,_⟩:=id I4.loc;have u4:Un (vA X.stack) fp H2 H3 s2.heap s4.heap:=I4.base;have nC:H3 C=none:=I4.free;have I5:z6 X pins σ H3 s4:=I2.call' (ch:=fp) I4.os u4 I4.hok I4.bare λb hb=>⟨(f2 b hb).2.2.2.1,(f2 b hb).2.1,(f2 b hb).2.2.2.2.1,(f2 b hb).2.2.2.2.2⟩;obtain⟨eD,nD,_⟩:=I4.pin (D,_) (al _ bz);have lL:X.env.locals < D:=by have:=I2.lt;rw[hDd]at this;exact this
   have lcl: ∀x c,X.env.cells.lookup x=some c->c < D:=λx c e=>by
    obtain⟨v,o,ho,_⟩:=I2.cell x c e;have:=ba ho;rw[hDd]at this;exact this
   have lp: ∀p∈X.pn++pins,p.1 < D:=λp hp=>by have:=ba (I2.pin p hp).1;rw[hDd]at this;exact this
   have lDC:D < C:=vz hCle hDC;have I6:z6 X pins σ (zI H3 D (.lst ys)) s4:=nL I5 nD (by rw[<- hDd];exact I2.sz) (cw lL) (λx c e=>bj (lcl x c e)) (λp hp=>bj (lp p hp)) ⟨hz,vals,cnt,rv,eD⟩;refine qb (zdg I6 hN hi0 hx (v:= .ref D) rfl (λs5 I7 ⟨a,sba,ha⟩=> ?_) hf);have nCa:C≠a:=by
    rcases ha with z | z
    ·rw[z];exact cw (fc lL lDC)
    ·exact cw (fc (lcl _ _ z) lDC)
   obtain⟨oC,esC,epC,eC,rC⟩:=ns;refine⟨m,⟨oC,esC,epC,(sba.2 C nCa).trans eC,rC⟩,λh' sb=> ?_⟩;refine⟨_,_,I7.turned (t':=s5.toks) (it:=C) (λb o hb e=>(sb.2 b hb).trans e) (by rw[yO (cw lDC)];exact nC) (cw (fc lL lDC)) (.inr (bq (by rw[<- hDd];exact I2.sz) (iq lDC))) (λx c e=>bj (fc (lcl x c e) lDC)) (λp hp=>bj (fc (lp p hp) lDC)),q D nD⟩
  ·refine zR (T.item (uQ X scope (N'++own) z c0 C s2 H2 fp pins) rfl rfl rfl hc i _ s3 σ3 H3 _ I3 (stat fr3) st3 go) λr s4 ⟨u,hr,h4⟩=> ?_
   subst hr;refine zR h4 λ_ s5 ⟨x,H5,I5,r5,y5,st5,fr5⟩=> ?_;have I5':=I5.pinned (stat fr5) (T.obj _ _ st5);have keepT: ∀{σ7:St} {H7:Hp} {s7:Shared} {pl:List (Addr×Obj)},z6 (uQ X scope (N'++own) z c0 C s2 H2 fp pins) (pl++tI fp s5.heap) σ7 H7 s7->tn (i+1) s7.heap/\∀b∈fp,H7 b=none:=λ{σ7 H7 s7 pl} I7=>
    ⟨T.keep _ _ _ st5 λb hb o e=>(I7.pin (b,o) (al _ (al _ (qY hb e)))).1,λb hb=>by
     obtain⟨o,e,d⟩:=T.obj _ _ st5 b hb;exact(I7.pin (b,o) (al _ (al _ (qY hb e)))).2.1⟩
   refine qF (hg c0 C s2 H2 fp pins _ s5 σ3 H5 x u _ I5' r5 (step x H5 y5)) λ_ s6 ⟨σ6,H6,I6,q6⟩=> ?_;refine qF (ht c0 C s2 H2 fp pins _ s6 σ6 H6 _ I6 q6) λb s7 ⟨H7,I7,q7⟩=> ?_;cases b with
   | false=>
    obtain⟨m',hm,w7⟩:=hN _ _ _ q7;obtain⟨t7,fr7⟩:=keepT I7;exact⟨m',hm,i+1,ys,σ6,H7,vals,cnt,I7.unpinned,t7,fr7,rv,w7⟩
   | true=>
    refine qF (he c0 C s2 H2 fp pins _ s7 σ6 H7 _ I7 q7) λy s8 ⟨yv,H8,I8,r8,q8⟩=> ?_;obtain⟨m',hm,w8⟩:=hN _ _ _ q8;obtain⟨eD,nD,neD,nfD,cD⟩:=I8.pin (D,_) (al _ (az _ bz));have hvl:=rv.length;refine ka mt ⟨_,eD,rfl⟩ mj (md _ _) (nj D vals.toArray cnt y (by rw[bo];omega)) ⟨eD,?_⟩;have I8':z6 (uQ X scope (N'++own) z c0 C s2 H2 fp pins) (tI fp s5.heap) σ6 H8 s8:=I8.pins_of λp hp=>I8.pin p (al _ (al _ hp));have hno: ∀p∈(X.pn++pins)++tI fp s5.heap,p.1≠D:=λp hp=>by
     rcases av.mp hp with z | z
     ·intro q
      have:=ba (I2.pin p z).1;rw[hDd,q]at this;exact ck _ this
     ·exact fpD _ (gD z).1
    have I9:=I8'.turned (t':=s8.toks) (it:=D) (h':=s8.heap.update D (Obj.mapSeq λx=>x.push y)) (λb o hb e=>(gu s8.heap _ (gb hb)).trans e) nD neD (.inr (by show s2.heap.objs.size<=D;rw[hDd];exact ak _))
     (λx c e w=>by
      rcases qS S I2 e with⟨_,rfl⟩ | e
      ·exact ck _ (w▸lc0)
      ·obtain⟨v,o,ho,_⟩:=I2.cell x c e
       have:=ba ho;rw[hDd,w]at this;exact ck _ this) hno
    obtain⟨t9,fr9⟩:=keepT (pl:= []) I9;have qD: ∃n',(s8.heap.update D (Obj.mapSeq λx=>x.push y)).get? D=some {cls:= .type "list",data:= .seq (vals++ [y]).toArray n'} :=by
     have q:=oe (l:=D) (items:=vals.toArray) (n:=cnt) (h:=s8.heap) eD λx=>x.push y;have e:vals.toArray.push y=(vals++ [y]).toArray:=by simp
     rw[<- e];exact⟨_,q⟩
    obtain⟨n',qD⟩:=qD;refine⟨m',hm,i+1,ys++ [yv],σ6,H8,vals++ [y],n',I9.pins_of λp hp=> ?_,t9,fr9,rv.append (.cons r8 .nil),w8⟩;have e:=aq.mp hp;rw[e];exact⟨qD,nD,neD,nfD,by intro v z;cases z⟩
 have t4:tn 0 h4:=T.keep _ _ _ st2 λb _ o e=>k4 b o e;exact nv (loop _ I4 t4) (T.self _ 0 _ _ _ t4 (loop _ I4 t4))
end
end L2
namespace L3
open PySem PySem.Spec PyProof.Rows L2
section
variable {X:Cx} {scope:Scope} {N' own:List Str} {z:Str} {Ti:wX} {Tg:xL} {tt:yT} {te:zB}
theorem zpp {elt target iter:Expr}{ifs:List Expr}{pos spos pos':Pos}{i0:Nat}{x:Str}(S:pT X scope N' own z)(hN:X.N.Nodup)(hi0:X.N[i0]?=some x)(hx:uN X.env.scope x)(hc:X.calm=true)(hi:PI X target iter (t6 X.K Ti))
  (hg: ∀c C s H fp pins,PG (uQ X scope (N'++own) z c C s H fp pins) target (vI X.K Tg)) (ht: ∀c C s H fp pins,PF (uQ X scope (N'++own) z c C s H fp pins) ifs (yZ X.K tt)) (he: ∀c C s H fp pins,PE (uQ X scope (N'++own) z c C s H fp pins) elt (zP X.K te))
  (hs: ∀x,foldedSetIterable iter X.env x=pure x:=by intro _;rfl) (hsw:swapsWith (.ListComp elt [⟨target,iter,ifs,0⟩] scope pos) (some (.Name x pos')) spos.line X.env=pure true:=by rfl)
  (hf:X.fn x=true∨X.env.scope.names.lookup x=some .local:=by first | exact .inl rfl | exact .inr rfl | assumption):
  PS X (.Assign [.Name x pos'] (.ListComp elt [⟨target,iter,ifs,0⟩] scope pos) spos) (yY X.K (pQ (j9 own.length Ti Tg tt te) (gN i0))):=by
 refine tZ (zoV hN hi0 hx S hc hi hg ht he hs hsw hf) λD σ H h=> ?_;obtain⟨A,env,st,Q3,rel,h,k⟩:=l8 h;exact cP ⟨A,env,st,Q3,rel,h,λA1 H1 st1 r v g s e q=>lA (k A1 H1 st1 r v g s e q)⟩
def rlb (scope fsc:Scope):Scope:= {scope with names:=scope.names.map λ(n,k)=>if(k== .free&&fsc.kind== .function&&fsc.names.lookup n==some .cell)then(n,.cell)else(n,k)}
end
end L3
set_option maxHeartbeats 1000000
namespace N61
open PySem L2 L3
def xI (i:Nat):Stmt:=PySem.Challenge.pw_copiedhouse_k61_stretches.main.body.getD i (.Pass ⟨0,0,0,0⟩)
theorem rX:bootBuiltins "tuple" =some (.type "tuple"):=by decide+kernel
theorem zez:bootBuiltins "dict" =some (.type "dict"):=by decide+kernel
theorem cF:bootBuiltins "list" =some (.type "list"):=by decide+kernel
theorem pY:bootBuiltins "int" =some (.type "int"):=by decide+kernel
theorem zey:bootBuiltins "bool" =some (.type "bool"):=by decide+kernel
abbrev fL:Stmt:=xI 1
local macro_rules | `(tactic| ac_rfl)=> `(tactic| exact⟨rfl,rfl,rfl,by decide+kernel,rfl,by decide+kernel,by decide+kernel⟩)
theorem zpP:yW ["row"] ["row"] (y4 fL):=by ac_rfl
abbrev fK:Stmt:=xI 3
theorem kY:yW ["links","one","met","waiting","last","other"] ["links","one"] (y4 fK):=by ac_rfl
abbrev fO:Stmt:=xI 5
theorem oS:yW ["program","told","hand","first","number","row"] ["program"] (y4 fO):=by ac_rfl
abbrev j5:Stmt:=xI 6
theorem sP:yW ["program","rows_of","cut","first_of","last_of","number","stretch","behind","row"] ["program"] (y4 j5):=by ac_rfl
abbrev fH:Stmt:=xI 7
theorem zpO:yW ["program","one","other"] ["program","one","other"] (y4 fH):=by ac_rfl
abbrev mE:Stmt:=xI 8
theorem kZ:yW ["program","order","behind","number","place_of","later_ones"] ["program","order"] (y4 mE):=by ac_rfl
abbrev gX:Stmt:=xI 10
theorem kS:yW ["_law_script","_law_k","_law_cell","_law_seed"] ["_law_script","_law_k"] (y4 gX):=by ac_rfl
abbrev fD:Stmt:=xI 11
theorem zcX:yW ["_law_box_here","_law_many","_law_digit","_law_one"] ["_law_box_here","_law_many"] (y4 fD):=by ac_rfl
abbrev kQ:Stmt:=xI 12
theorem tN:yW ["_law_box_here","_law_many","_law_letters","_law_k","_law_common","_law_at","_law_first","_law_longer","_law_found","_law_word","_law_own"] ["_law_box_here","_law_many"] (y4 kQ):=by ac_rfl
abbrev f9:Stmt:=xI 13
theorem zhW:yW ["_law_box_here","_law_form"] ["_law_box_here"] (y4 f9):=by ac_rfl
abbrev fE:Stmt:=xI 14
theorem oR:yW ["_law_box_here","_law_leaves_here","_law_room","_law_deep","_law_form","_law_third","_law_one","_law_other","_law_half"] ["_law_box_here","_law_leaves_here","_law_room","_law_deep"] (y4 fE):=by ac_rfl
abbrev gV:Stmt:=xI 15
theorem zhT:yW ["_law_box_here","_law_leaves_here","_law_room"] ["_law_box_here","_law_leaves_here"] (y4 gV):=by ac_rfl
abbrev f8:Stmt:=xI 16
theorem kU:yW ["_law_box_here","_law_kinds","_law_calm","_law_word","_law_three","_law_term_here"] ["_law_box_here","_law_kinds","_law_calm"] (y4 f8):=by ac_rfl
abbrev kK:Stmt:=xI 17
theorem kR:yW ["_law_box_here","_law_manner_here","_law_things","_law_found","_law_word","_law_many"] ["_law_box_here","_law_manner_here","_law_things"] (y4 kK):=by ac_rfl
abbrev f7:Stmt:=xI 18
theorem kT:yW ["_law_box_here","_law_shelves","_law_things","_law_found","_law_ks","_law_manner_here","_law_begin_here"] ["_law_box_here","_law_shelves","_law_things"] (y4 f7):=by ac_rfl
abbrev gY:Stmt:=xI 19
theorem oN:yW ["_law_box_here","_law_shelf","_law_leaves_here","_law_things","_law_ks","_law_manner_here","_law_begin_here","_law_word","_law_term_here"] ["_law_box_here","_law_shelf","_law_leaves_here","_law_things"] (y4 gY):=by ac_rfl
abbrev fB:Stmt:=xI 20
theorem mC:yW ["_law_box_here","_law_uses","_law_things","_law_own","_law_asked","_law_leaves_here","_law_row_here"] ["_law_box_here","_law_uses","_law_things"] (y4 fB):=by ac_rfl
abbrev f6:Stmt:=xI 21
theorem zhV:yW ["_law_box_here","_law_plan","_law_rows","_law_held","_law_other"] ["_law_box_here","_law_plan","_law_rows","_law_held"] (y4 f6):=by ac_rfl
abbrev gZ:Stmt:=xI 22
theorem oO:yW ["_law_script","_law_at","_law_plan","_law_number_here","_law_box_here","_law_uses","_law_rows","_law_held","_law_k","_law_kind","_law_other"] ["_law_script","_law_at","_law_plan","_law_number_here"] (y4 gZ):=by ac_rfl
abbrev fF:Stmt:=xI 23
theorem qI:yW ["_law_box_here","_law_form","_law_some","_law_x","_law_y","_law_z","_law_at"] ["_law_box_here"] (y4 fF):=by ac_rfl
abbrev mB:Stmt:=xI 24
theorem tM:yW ["_law_script","_law_at","_law_kinds","_law_calm","_law_hands","_law_box_here","_law_words_here","_law_names","_law_things","_law_shelves","_law_k","_law_manner_here","_law_many","_law_uses","_law_plan","_law_others_here","_law_turn"] ["_law_script","_law_at","_law_kinds","_law_calm","_law_hands"] (y4 mB):=by ac_rfl
abbrev kO:Stmt:=xI 25
theorem oQ:yW ["_law_program_here","_law_found","_law_kh","_law_rows","_law_cuts","_law_first","_law_last"] ["_law_program_here"] (y4 kO):=by ac_rfl
abbrev oM:Stmt:=xI 26
theorem oP:yW ["_law_program_here","_law_some","_law_one","_law_found","_law_kh","_law_rows","_law_n","_law_own"] ["_law_program_here","_law_some"] (y4 oM):=by ac_rfl
abbrev gW:Stmt:=xI 27
theorem fJ:yW ["_law_onward_here","_law_one","_law_met","_law_left","_law_other"] ["_law_onward_here","_law_one"] (y4 gW):=by ac_rfl
abbrev m9:Stmt:=xI 28
theorem kW:yW ["_law_box_here","_law_behind_here","_law_left","_law_found","_law_one","_law_free"] ["_law_box_here","_law_behind_here"] (y4 m9):=by ac_rfl
abbrev kL:Stmt:=xI 29
theorem zhU:yW ["_law_order_here","_law_behind_here","_law_k"] ["_law_order_here","_law_behind_here"] (y4 kL):=by ac_rfl
abbrev fA:Stmt:=xI 30
theorem kX:yW ["_law_box_here","_law_order_here","_law_at","_law_to","_law_some","_law_found"] ["_law_box_here","_law_order_here"] (y4 fA):=by ac_rfl
abbrev kP:Stmt:=xI 31
theorem zcW:yW ["_law_found","_law_due","_law_one","_law_other"] ["_law_found","_law_due"] (y4 kP):=by ac_rfl
abbrev fG:Stmt:=xI 32
theorem zpN:yW ["_law_found","_law_due"] ["_law_found","_law_due"] (y4 fG):=by ac_rfl
abbrev fC:Stmt:=xI 33
theorem pK:yW ["_law_box_here","_law_program_here","_law_hands","_law_kh","_law_rows","_law_some","_law_n"] ["_law_box_here","_law_program_here"] (y4 fC):=by ac_rfl
abbrev kN:Stmt:=xI 34
theorem rP:yW ["_law_box_here","_law_program_here","_law_due","_law_turn","_law_found","_law_onward_here","_law_one","_law_behind_here","_law_k","_law_other","_law_order_here"] ["_law_box_here","_law_program_here"] (y4 kN):=by ac_rfl
abbrev zdd:Stmt:=xI 35
theorem zcY:yW ["_law_script","_law_program_here","_law_box_here"] ["_law_script"] (y4 zdd):=by ac_rfl
def Dn (K:Frag)(mg:Str->Option Value)(x:Str)(st:Stmt)(ps:List Str):Prop:= ∃f fd,yP K x x st f fd/\tP K fd ps []/\mg x=some (.ref f)
structure Mo (K:Frag)(mg:Str->Option Value):Prop where
 len:mg "len" =none
 int:mg "int" =none
 range:mg "range" =none
 tuple:mg "tuple" =none
 isinstance:mg "isinstance" =none
 bool:mg "bool" =none
 str:mg "str" =none
 dict:mg "dict" =none
 list:mg "list" =none
 sorted:mg "sorted" =none
 min:mg "min" =none
 max:mg "max" =none
 all:mg "all" =none
 set:mg "set" =none
 enumerate:mg "enumerate" =none
 reversed:mg "reversed" =none
 any:mg "any" =none
 zip:mg "zip" =none
 deed_of:Dn K mg "deed_of" fL ["row"]
 come_to:Dn K mg "come_to" fK ["links","one"]
 stretches:Dn K mg "stretches" fO ["program"]
 straight_behind:Dn K mg "straight_behind" j5 ["program"]
 ahead:Dn K mg "ahead" fH ["program","one","other"]
 is_order:Dn K mg "is_order" mE ["program","order"]
 _law_box:Dn K mg "_law_box" gX ["_law_script","_law_k"]
 _law_take:Dn K mg "_law_take" fD ["_law_box_here","_law_many"]
 _law_words:Dn K mg "_law_words" kQ ["_law_box_here","_law_many"]
 _law_number:Dn K mg "_law_number" f9 ["_law_box_here"]
 _law_term:Dn K mg "_law_term" fE ["_law_box_here","_law_leaves_here","_law_room","_law_deep"]
 _law_any_term:Dn K mg "_law_any_term" gV ["_law_box_here","_law_leaves_here"]
 _law_manner:Dn K mg "_law_manner" f8 ["_law_box_here","_law_kinds","_law_calm"]
 _law_begin:Dn K mg "_law_begin" kK ["_law_box_here","_law_manner_here","_law_things"]
 _law_leaves:Dn K mg "_law_leaves" f7 ["_law_box_here","_law_shelves","_law_things"]
 _law_deed:Dn K mg "_law_deed" gY ["_law_box_here","_law_shelf","_law_leaves_here","_law_things"]
 _law_row:Dn K mg "_law_row" fB ["_law_box_here","_law_uses","_law_things"]
 _law_join:Dn K mg "_law_join" f6 ["_law_box_here","_law_plan","_law_rows","_law_held"]
 _law_hand:Dn K mg "_law_hand" gZ ["_law_script","_law_at","_law_plan","_law_number_here"]
 _law_three_words:Dn K mg "_law_three_words" fF ["_law_box_here"]
 _law_program:Dn K mg "_law_program" mB ["_law_script","_law_at","_law_kinds","_law_calm","_law_hands"]
 _law_stretches:Dn K mg "_law_stretches" kO ["_law_program_here"]
 _law_onward:Dn K mg "_law_onward" oM ["_law_program_here","_law_some"]
 _law_behind:Dn K mg "_law_behind" gW ["_law_onward_here","_law_one"]
 _law_order:Dn K mg "_law_order" m9 ["_law_box_here","_law_behind_here"]
 _law_good:Dn K mg "_law_good" kL ["_law_order_here","_law_behind_here"]
 _law_others:Dn K mg "_law_others" fA ["_law_box_here","_law_order_here"]
 _law_stretches_right:Dn K mg "_law_stretches_right" kP ["_law_found","_law_due"]
 _law_truth:Dn K mg "_law_truth" fG ["_law_found","_law_due"]
 _law_shifted:Dn K mg "_law_shifted" fC ["_law_box_here","_law_program_here"]
 _law_right:Dn K mg "_law_right" kN ["_law_box_here","_law_program_here"]
local macro_rules | `(tactic| simp_all? only[$ts,*])=> `(tactic| ((try dsimp[u9]);repeat(simp only[cB,ze1,rD,cZ,zeK,zeL,Nat.reduceAdd,Nat.reduceSub,Nat.reduceLT,Nat.reduceLeDiff,Int.reduceLT,Int.reduceLE,Int.reducePow,Int.reduceNeg,Int.reduceMul,Int.reduceAdd,Int.reduceSub,Int.reduceToNat,$ts,*];(try dsimp[u9]))))
local macro_rules | `(tactic| simp? only[$ts,*])=> `(tactic| ((try dsimp);repeat(simp only[cB,ze1,rD,cZ,zeK,zeL,Nat.reduceAdd,Nat.reduceSub,Nat.reduceLT,Nat.reduceLeDiff,Int.reduceLT,Int.reduceLE,Int.reducePow,Int.reduceNeg,Int.reduceMul,Int.reduceAdd,Int.reduceSub,Int.reduceToNat,$ts,*];(try dsimp))))
theorem cU:jD 10 18:=⟨by decide,by decide,by decide⟩
def zZ (a b:Int):Prop:=0<=a/\0<=b/\b<=2147483647
abbrev z9 (a b:Int):PO:= .lst [.int a,.int b]
def zqd:zV:=λxs st Q=> ∃(ns:List Int) (k:Int),xs= [.lst (ns.map .int),.int k]/\ns.length<=63/\0<=k/\∀a b,zZ a b->Q (.obj st.length) (st++ [z9 a b])
def zie:zV:=λxs st Q=> ∃(i:Nat) (many a b:Int),xs= [.obj i,.int many]/\st[i]?=some (z9 a b)/\zZ a b/\0 < many/\many < 1099511627776/\∀d a b,0<=d->d < many->zZ a b->Q (.int d) (st.set i (z9 a b))
inductive Tm (L:Type) where | num (k:Int) | lf (l:L) | op (s:Str)(a b:Tm L) | ite (a b c:Tm L)
def Tm.rank {L:Type} :Tm L->Nat
 | .op _ a b=>max a.rank b.rank+1
 | .ite a b c=>max a.rank (max b.rank c.rank)+1
 | _=>0
def Sg (s:Str):Prop:=s= "+" ∨s= "-" ∨s= "*" ∨s= "<" ∨s= "="
def opv (s:Str)(a b:Int):Int:=if s= "+" then(a+b) % 4294967296 else if s= "-" then(a - b) % 4294967296 else if s= "*" then a * b % 4294967296 else if s= "<" then(if a < b then 1 else 0)else(if a=b then 1 else 0)
def In (i:Int):Prop:=0<=i/\i < 4294967296
def Tm.val {L:Type}(lv:L->Int):Tm L->Int
 | .num k=>k
 | .lf l=>lv l
 | .op s a b=>opv s (a.val lv) (b.val lv)
 | .ite a b c=>if a.val lv=0 then c.val lv else b.val lv
def Tm.ok {L:Type}(lo:L->Prop):Tm L->Prop
 | .num k=>In k
 | .lf l=>lo l
 | .op s a b=>Sg s/\a.ok lo/\b.ok lo
 | .ite a b c=>a.ok lo/\b.ok lo/\c.ok lo
def Tm.pv {L:Type}(lp:L->PV):Tm L->PV
 | .num k=> .tup [.str "num",.int k]
 | .lf l=>lp l
 | .op s a b=> .tup [.str "op",.str s,a.pv lp,b.pv lp]
 | .ite a b c=> .tup [.str "if",a.pv lp,b.pv lp,c.pv lp]
def oZ {L:Type}(lp:L->PV):Prop:= ∀l,∃(kd:Str) (y2:List PV),lp l= .tup (.str kd::y2)/\kd≠ "num" /\kd≠ "op" /\kd≠ "if"
inductive tS where | was | mine | yours
def tS.pv:tS->PV | .was=> .tup [.str "was"] | .mine=> .tup [.str "mine"] | .yours=> .tup [.str "yours"]
def tS.val (w m y:Int):tS->Int | .was=>w | .mine=>m | .yours=>y
theorem zg6:oZ tS.pv:=λl=>by cases l <;> exact⟨_,[],rfl,by decide+kernel,by decide+kernel,by decide+kernel⟩
theorem zrg (ys:List Str)(n:Nat)(h: ∀y∈ys,y.length<=n):(ys.map (·.length)).sum<=n * ys.length:=by
 induction ys with
 | nil=>simp
 | cons y r ih=>
  have h1:=h y bz;have h2:=ih λz hz=>h z (ce _ hz);rw[bb,pr,cg,Nat.mul_succ];omega
theorem zda {t u:yV}{D:xV}{env:zG}{st:z5}(h:t {D with nx:=u D} env st):u9 t u D env st:=h
local macro_rules | `(tactic| symm)=> `(tactic| refine zda ?_)
local macro_rules | `(tactic| ac_nf)=> `(tactic| simp? only[true_and])
abbrev Sh:=Str×PV×PV
def y6 (s:Sh):PV:= .tup [.str s.1,s.2.1,s.2.2]
inductive Hv where | int (v:Int) | bag (l:List (Str×Int)) | row (ws:List Str)
def Hv.pv:Hv->PV | .int v=> .int v | .bag l=>rW l | .row ws=> .tup (ws.map PV.str)
inductive Lf where | shelf (s:Str) | many (s t:Str) | long (s:Str)
def Lf.pv:Lf->PV | .shelf s=> .tup [.str "shelf",.str s] | .many s t=> .tup [.str "many",.str s,.str t] | .long s=> .tup [.str "long",.str s]
theorem zbT:oZ Lf.pv:=λl=>by cases l <;> exact⟨_,_,rfl,by decide+kernel,by decide+kernel,by decide+kernel⟩
def zbD (sh:List Sh)(hs:List Hv)(s:Str):Option Hv:=((sh.map (·.1)).findIdx? λn=>n==s).bind λi=>hs[i]?
def Lf.val (sh:List Sh)(hs:List Hv):Lf->Option Int
 | .shelf s=>(match zbD sh hs s with | some (.int v)=>some v | _=>none)
 | .many s t=>(match zbD sh hs s with | some (.bag l)=>some (ziQ l t % 4294967296) | _=>none)
 | .long s=>(match zbD sh hs s with | some (.row ws)=>some ws.length | _=>none)
theorem zpT: ∀d:Int,0<=d->d < 5->∃c,atI (("+-*<=" :Str)).cps.toList d=some c/\Sg ⟨#[c]⟩:=λd d0 d1=>by
 have:d=0∨d=1∨d=2∨d=3∨d=4:=by omega
 rcases this with rfl | rfl | rfl | rfl | rfl
 ·exact⟨43,by decide+kernel,.inl (by decide+kernel)⟩
 ·exact⟨45,by decide+kernel,.inr (.inl (by decide+kernel))⟩
 ·exact⟨42,by decide+kernel,.inr (.inr (.inl (by decide+kernel)))⟩
 ·exact⟨60,by decide+kernel,.inr (.inr (.inr (.inl (by decide+kernel))))⟩
 ·exact⟨61,by decide+kernel,.inr (.inr (.inr (.inr (by decide+kernel))))⟩
theorem zcx {L:Type}{lp:L->PV}(hlp:oZ lp)(t:Tm L):yR (t.pv lp)=true:=by
 cases t with
 | lf l=>obtain⟨kd,y2,e,_⟩:=hlp l;show yR (lp l)=true;rw[e];rfl
 | _=>rfl
theorem zqU {α:Type}{st:List α}{i:Nat}{x:α} :(st.set i x).take st.length=st.set i x:=fS
theorem zeU {L:Type}{lp:L->PV}{m:Nat}{Q:K3}{st:z5}{t:Tm L}(hlp:oZ lp)(h:Q (t.pv lp) (st.take m)):xA m Q (t.pv lp) st:=by
 cases t with
 | lf l=>
  obtain⟨kd,y2,e,_⟩:=hlp l;have h':Q (lp l) (st.take m):=h;show xA m Q (lp l) st;rw[e]at h'⊢;exact h'
 | _=>exact h
def j4 {L:Type}(lp:L->PV)(d:Nat):zV:=λxs st Q=> ∃(i:Nat) (ls:List L) (room deep a b:Int),xs= [.obj i,.lst (ls.map lp),.int room,.int deep]/\st[i]?=some (z9 a b)/\zZ a b/\oZ lp/\ls.length<=1000/\0<=deep/\deep < d/\∀(t:Tm L) a b,t.ok (λl=>l∈ls)->(t.rank:Int)<=deep->zZ a b->Q (t.pv lp) (st.set i (z9 a b))
theorem zif {L:Type}{lp:L->PV}{K:Frag}{vs:List V}{H:Hp}{Q:VK}{E:XK}(h:yC K (j4 lp 0) vs H Q E):False:=by
 obtain⟨_,_,_,_,_,_,⟨_,_,_,_,_,_,_,_,_,_,_,h0,h1,_⟩,_⟩:=h;omega
theorem zgr {tc:yT}{t u:yV}{D:xV}{env:zG}{st:z5}{b:Bool}(h: ∀Q,tc env st Q=Q b st)(k:if b=true then t D env st else u D env st):fY tc t u D env st:=by
 show tc env st _;rw[h];exact k
def zde {L:Type}(lp:L->PV):zV:=λxs st Q=> ∃(i:Nat) (ls:List L) (a b:Int),xs= [.obj i,.lst (ls.map lp)]/\st[i]?=some (z9 a b)/\zZ a b/\oZ lp/\ls.length<=1000/\∀(t:Tm L) a b,t.ok (λl=>l∈ls)->t.rank < 7->zZ a b->Q (t.pv lp) (st.set i (z9 a b))
def dG (s:Sh)(kd:Str):Prop:= ∃r,s.2.1= .tup (.str kd::r)
def mU (sh:List Sh)(l:Lf):Prop:= ∃s∈sh,∃kd,dG s kd/\((kd= "bag" /\∃t,l= .many s.1 t)∨(kd= "row" /\l= .long s.1)∨(kd≠ "bag" /\kd≠ "row" /\l= .shelf s.1))
def zqj:zV:=λxs st Q=> ∃(i:Nat) (sh:List Sh) (ws:List Str) (a b:Int),xs= [.obj i,.lst (sh.map y6),.lst (ws.map PV.str)]/\st[i]?=some (z9 a b)/\zZ a b/\(∀s∈sh,∃kd,dG s kd)/\sh.length<=100/\ws≠ []/\ws.length<=1000/\∀(ls:List Lf) a b,ls.length=sh.length->(∀l∈ls,mU sh l)->zZ a b->Q (.lst (ls.map Lf.pv)) (st.set i (z9 a b))
def zql:zV:=λxs st Q=> ∃(i:Nat) (a b:Int),xs= [.obj i]/\st[i]?=some (z9 a b)/\zZ a b/\∀d a b,0<=d->d < 4294967296->zZ a b->Q (.int d) (st.set i (z9 a b))
def zqx:zV:=λxs st Q=> ∃(i:Nat) (many a b:Int),xs= [.obj i,.int many]/\st[i]?=some (z9 a b)/\zZ a b/\1<=many/\many<=10/\∀(ws:List Str) a b,(ws.length:Int)=many->ws.Nodup->zZ a b->Q (.lst (ws.map PV.str)) (st.set i (z9 a b))
theorem zr4 {A B z z':Str}{c c':Nat}(h:A++⟨#[c]⟩++B++z=A++⟨#[c']⟩++B++z'):c=c':=by
 have e:=congrArg (λs:Str=>s.cps.toList) h;have cps: ∀a b:Str,(a++b).cps=a.cps++b.cps:=λa b=>rfl;simp only[cps,Array.toList_append,au,gq,lq]at e;have e2:=sj e;injection e2
theorem zg9 {d:Int}(d0:0<=d)(d1:d < 26):atI (("abcdefghijklmnopqrstuvwxyz" :Str)).cps.toList d=some (97+d.toNat):=by
 have h: ∀n < 26,(("abcdefghijklmnopqrstuvwxyz" :Str)).cps.toList[n]?=some (97+n):=by decide+kernel
 obtain⟨n,rfl⟩: ∃n:Nat,d=n:=⟨d.toNat,by omega⟩;exact xJ (h n (by omega))
def pW (A B:Str)(first:Int)(ws:List Str):Prop:= ∀(m:Nat) (w:Str),ws[m]?=some w->∃z:Str,w=A++⟨#[97+((first+5 * (0+(m:Int))) % 26).toNat]⟩++B++z
theorem pW.snoc {A B:Str}{first:Int}{ws:List Str}{z:Str}(h:pW A B first ws){k:Nat}(hk:ws.length=k):pW A B first (ws++ [A++⟨#[97+((first+5 * (0+(k:Int))) % 26).toNat]⟩++B++z]):=λm w hw=>by
 subst hk;rcases lx m ws.length with hl | hl
 ·rw[ax hl]at hw;exact h m w hw
 ·rw[aj hl]at hw
  have:m=ws.length:=by
   have:=(ad.mp hw).1;simp at this;omega
  subst this;rw[cv]at hw;injection hw with hw
  exact⟨z,hw.symm⟩
theorem pW.nodup {A B:Str}{first:Int}{ws:List Str}(h:pW A B first ws)(hl:ws.length<=10):ws.Nodup:=by
 refine cz.mpr λi j hi hj hij e=> ?_;obtain⟨z,e1⟩:=h i _ (am hi);obtain⟨z',e2⟩:=h j _ (am hj);rw[e1,e2]at e;have:=zr4 e;omega
theorem zmW {α:Type}{ws:List α}{w:α}(h:ws.Nodup)(n:w∉ws)(k:Nat):(ws.set k w).Nodup:=by
 refine cz.mpr λi j hi hj hij e=> ?_;rw[ci]at hi hj;rw[xl,xl]at e;have hp:=cz.mp h i j hi hj hij
 split at e
 ·split at e
  ·omega
  ·exact n (e▸gz hj)
 ·split at e
  ·exact n (e▸gz hi)
  ·exact hp e
theorem zlR {m n:Nat}(h:n < m):w9 m (n:Int)=some n:=by
 unfold w9
 first | (rw[if_neg (by omega)];simp[h];done) | (simp;omega)
def znY:List Str:= ["shelf","hand","set","more","in","out","lay","drop","tell","when","split","join","last","sum","bag","row","told","many","long","if","was","mine","yours","house","none","end","story"]
theorem znZ {d:Int}(d0:0<=d)(d1:d < 27): ∃wd:Str,atI [PV.str "shelf",.str "hand",.str "set",.str "more",.str "in",.str "out",.str "lay",.str "drop",.str "tell",.str "when",.str "split",.str "join",.str "last",.str "sum",.str "bag",.str "row",.str "told",.str "many",.str "long",.str "if",.str "was",.str "mine",.str "yours",.str "house",.str "none",.str "end",.str "story"] d=some (.str wd):=
 let⟨wd,_,e⟩:=nB PV.str (ns:=znY) d0 d1
 ⟨wd,e⟩
def dH (kd:Str)(r:List PV):Prop:=((kd= "last" ∨kd= "sum" ∨kd= "bag" ∨kd= "row")/\r= [])∨kd= "told" /\∃(n:Int) (t:Tm tS),r= [.int n,t.pv tS.pv]/\2<=n/\n < 6/\t.rank < 7
def lU:PV:= .lst [.str "last",.str "sum"]
def zqk:zV:=λxs st Q=> ∃(i:Nat) (a b:Int),xs= [.obj i,lU,.bl false]/\st[i]?=some (z9 a b)/\zZ a b/\∀kd r a b,dH kd r->zZ a b->Q (.tup (.str kd::r)) (st.set i (z9 a b))
def HvN (n:Nat)(kd:Str):Hv->Prop
 | .int v=>kd≠ "bag" /\kd≠ "row" /\In v
 | .bag l=>kd= "bag" /\(l.map (·.1)).Nodup/\l.length<=n
 | .row ws=>kd= "row" /\ws.length<=n
abbrev zdZ (kd:Str):Hv->Prop:=HvN 40 kd
def zqc:zV:=λxs st Q=> ∃(i:Nat) (kd:Str) (r:List PV) (ws:List Str) (a b:Int),xs= [.obj i,.tup (.str kd::r),.lst (ws.map PV.str)]/\st[i]?=some (z9 a b)/\zZ a b/\dH kd r/\ws≠ []/\ws.length<=40/\ws.Nodup/\∀(h:Hv) a b,zdZ kd h->zZ a b->Q h.pv (st.set i (z9 a b))
def i6 (s:Sh):Prop:= ∃(kd:Str) (r:List PV) (h:Hv),s.2.1= .tup (.str kd::r)/\dH kd r/\s.2.2=h.pv/\zdZ kd h
theorem zgl (h:Hv):yR h.pv=true:=by cases h <;> rfl
theorem zgs {w:Str}{ws:List Str} :vJ (.str w) (ws.map PV.str)=decide (w∈ws):=by
 unfold vJ;rw[List.any_map,show((λy=>y8 y (.str w)) ∘ PV.str)=(λn:Str=>n==w)from funext λs=>rD.2.1,ln];simp
theorem zmY {w:Str}{ws:List Str}{n:Nat}{st:z5}{Q:K3}(h:st[n]?=some (.lst (ws.map PV.str))):wP true (.str w) (.obj n) st Q=Q (.bl (!decide (w∈ws))) st:=by
 have hf:(ws.map PV.str).all uH=true:=by rw[List.all_map];exact qt.mpr λ_ _=>rfl
 have e:sQ (.obj n) st=some (ws.map PV.str):=by unfold sQ;dsimp only;rw[h]
 unfold wP;rw[e];dsimp only;rw[zgs,hf];simp[uH]
theorem Tm.ok_mono {L:Type}{lo lo':L->Prop}(h: ∀l,lo l->lo' l): ∀{t:Tm L},t.ok lo->t.ok lo'
 | .lf l,k=>h l k
 | .num n,k=>k
 | .op s x y,⟨a,b,c⟩=>⟨a,Tm.ok_mono h b,Tm.ok_mono h c⟩
 | .ite x y z,⟨a,b,c⟩=>⟨Tm.ok_mono h a,Tm.ok_mono h b,Tm.ok_mono h c⟩
inductive Dd where | tell (x:Tm Lf) | bag (up:Bool)(s t:Str) | set (s:Str)(x:Tm Lf) | more (s:Str)(x:Tm Lf) | lay (s:Str)(x:Tm Lf)(t:Str) | drop (s:Str)(x:Tm Lf)
abbrev uV (x:Tm Lf):PV:=x.pv Lf.pv
def Dd.pv:Dd->PV
 | .tell x=> .tup [.str "tell",uV x]
 | .bag true s t=> .tup [.str "in",.str s,.str t]
 | .bag false s t=> .tup [.str "out",.str s,.str t]
 | .set s x=> .tup [.str "set",.str s,uV x]
 | .more s x=> .tup [.str "more",.str s,uV x]
 | .lay s x t=> .tup [.str "lay",.str s,uV x,.str t]
 | .drop s x=> .tup [.str "drop",.str s,uV x]
def Dd.nm:Dd->Option Str | .tell _=>none | .bag _ s _ | .set s _ | .more s _ | .lay s _ _ | .drop s _=>some s
def Dd.tm:Dd->Option (Tm Lf) | .bag _ _ _=>none | .tell x | .set _ x | .more _ x | .lay _ x _ | .drop _ x=>some x
abbrev Rw:=Option (Tm Lf)×Dd
def Rw.pv:Rw->PV | (none,d)=>d.pv | (some x,d)=> .tup [.str "when",uV x,d.pv]
theorem zpV {sh:List Sh}{i:Nat}{s:Sh}(e:sh[i]?=some s):atI (sh.map y6) (i:Int)=some (y6 s):=xJ (by rw[aw,e];rfl)
def zjd (nm kd:Str)(ls:List Lf)(d:Dd):Prop:=d.nm=some nm/\(∀x,d.tm=some x->x.ok (λl=>l∈ls)/\x.rank < 7)/\
 (match d with | .tell _=>False | .bag _ _ _=>kd= "bag" | .more _ _=>kd= "sum" | .set _ _=>kd≠ "bag" /\kd≠ "row" /\kd≠ "sum" | .lay _ _ _=>kd= "row" | .drop _ _=>kd= "row")
def zqf:zV:=λxs st Q=> ∃(i:Nat) (nm kd:Str) (r:List PV) (bg:PV) (ls:List Lf) (ws:List Str) (a b:Int),xs= [.obj i,.tup [.str nm,.tup (.str kd::r),bg],.lst (ls.map Lf.pv),.lst (ws.map PV.str)]/\yR bg=true/\st[i]?=some (z9 a b)/\zZ a b/\ws≠ []/\ws.length<=1000/\ls.length<=1000/\∀(d:Dd) a b,zjd nm kd ls d->zZ a b->Q d.pv (st.set i (z9 a b))
theorem mK (t:Tm Lf):yR (t.pv Lf.pv)=true:=by
 cases t with
 | lf l=>cases l <;> rfl
 | _=>rfl
def dU (sh:List Sh)(x:Tm Lf):Prop:=x.ok (mU sh)/\x.rank < 7
def zj9 (kd:Str)(d:Dd):Prop:=match d with | .tell _=>False | .bag _ _ _=>kd= "bag" | .more _ _=>kd= "sum" | .set _ _=>kd≠ "bag" /\kd≠ "row" /\kd≠ "sum" | .lay _ _ _=>kd= "row" | .drop _ _=>kd= "row"
def zdB (sh:List Sh)(d:Dd):Prop:=(∀x,d.tm=some x->dU sh x)/\∀s,d.nm=some s->∃sx∈sh,sx.1=s/\∃kd r,sx.2.1= .tup (.str kd::r)/\zj9 kd d
def qQ (sh:List Sh)(r:Rw):Prop:=(∀x,r.1=some x->dU sh x)/\zdB sh r.2
def fN:zV:=λxs st Q=> ∃(i:Nat) (sh:List Sh) (ws:List Str) (a b:Int),xs= [.obj i,.tup [.lst (sh.map y6),.lst (sh.map y6)],.lst (ws.map PV.str)]/\st[i]?=some (z9 a b)/\zZ a b/\(∀s∈sh,i6 s)/\sh≠ []/\sh.length<=63/\ws≠ []/\ws.length<=1000/\∀(r:Rw) a b,qQ sh r->zZ a b->Q r.pv (st.set i (z9 a b))
theorem cY (d:Dd):yR d.pv=true:=by
 cases d with
 | bag up s t=>cases up <;> rfl
 | _=>rfl
theorem b6 {α:Type}{f:α->PV}{m:Nat} : ∀(l:List α),(∀x∈l,zF (f x)<=m)->dpts (l.map f)<=m
 | [],_=>by unfold dpts;exact eh _
 | x::l,h=>by
  rw[bb];unfold dpts;exact Nat.max_le.mpr ⟨h x bz,b6 l λy hy=>h y (ce _ hy)⟩
theorem zkX (h:Hv):zF h.pv<=2:=by
 cases h with
 | int v=>unfold Hv.pv zF;decide
 | bag l=>
  unfold Hv.pv rW zF;have:=b6 (f:=λq:Str×Int=>PV.tup [.str q.1,.int q.2]) (m:=1) l λx _=>by simp[zF,dpts]
  omega
 | row ws=>
  unfold Hv.pv zF;have:=b6 (f:=PV.str) (m:=0) ws λx _=>by simp[zF]
  omega
theorem nJ: ∀t:Tm tS,zF (t.pv tS.pv)<=t.rank+1
 | .num k=>by unfold Tm.pv;simp[zF,dpts]
 | .lf l=>by cases l <;> (unfold Tm.pv tS.pv;simp[zF,dpts])
 | .op s a b=>by
  have h1:=nJ a;have h2:=nJ b;unfold Tm.pv Tm.rank;simp only[zF,dpts];omega
 | .ite a b c=>by
  have h1:=nJ a;have h2:=nJ b;have h3:=nJ c;unfold Tm.pv Tm.rank;simp only[zF,dpts];omega
theorem zpU {s:Sh}(h:i6 s):zF (y6 s)<=12:=by
 obtain⟨kd,r,v,e1,hm,e2,_⟩:=h;have hv:=zkX v;unfold y6;rw[e1,e2];rcases hm with⟨_,rfl⟩ | ⟨_,n,t,rfl,_,_,hr⟩
 ·simp only[zF,dpts];omega
 ·have:=nJ t
  simp only[zF,dpts];omega
def wS (x:Str×List PV):PV:= .tup (.str x.1::x.2)
inductive Rh where | pl (r:Rw) | split (n:Str) | join (n:Str)
def Rh.pv:Rh->PV | .pl r=>r.pv | .split n=> .tup [.str "split",.str n] | .join n=> .tup [.str "join",.str n]
abbrev Hd:=Str×List Rh
def lP (h:Hd):Str×List PV:=(h.1,[.tup (h.2.map Rh.pv)])
abbrev xR (h:Hd):PV:=wS (lP h)
abbrev Sn:=Str×List PV
def vT (sh:List Sn)(hs:List Hd):PV:= .tup [.tup (sh.map wS),.tup (hs.map xR)]
def Rh.deed:Rh->Option Dd | .pl r=>some r.2 | _=>none
def b8:Option Dd->PV | none=> .non | some d=>d.pv
def Rh.on (S:Str)(r:Rh):Bool:=r.deed.bind Dd.nm==some S
theorem Dd.form2 (d:Dd): ∃(k:Str) (more:List PV),d.pv= .tup (.str k::more)/\(k==("when" :Str))=false/\vJ (.str k) [.str "split",.str "join"]=false:=by
 have h: ∀{k:Str},(k∉(["split","join"]:List Str))->vJ (.str k) [.str "split",.str "join"]=false:=λ{k} hk=>by
  have e:=zgs (w:=k) (ws:= ["split","join"]);rw[bb,bb,ir]at e;rw[e];exact decide_eq_false hk
 cases d with
 | bag up a b=>cases up <;> exact⟨_,_,rfl,by decide+kernel,h (by decide+kernel)⟩
 | _=>exact⟨_,_,rfl,by decide+kernel,h (by decide+kernel)⟩
def zqe:zV:=λxs st Q=> ∃r:Rh,xs= [r.pv]/\Q (b8 r.deed) st
def fcN (S:Str):PV->Option PV:=λx=>match x with | .tup (.str n::r)=>if n==S then some (.tup (.str n::r))else none | _=>none
def onF (S:Str):List Rh->Nat->List Nat
 | [],_=> []
 | r::rs,k=>(if r.on S then [k]else [])++onF S rs (k+1)
abbrev zE (k:Nat):PV:= .int (k:Int)
theorem sT {α:Type}{l:List α}{k:Nat}{x:α}(h:l[k]?=some x):l.take (k+1)=l.take k++ [x]:=by
 rw[xx,h];rfl
theorem zdp {α:Type}{l:List α}{k:Nat}{x:α}(h:l[k]?=some x):(l.take k).length=k:=by
 rw[cf];have:=(ad.mp h).1;omega
theorem zln {m:Nat}{Q:K3}{st:z5}{d:Dd}(h:Q d.pv st)(hm:st.take m=st:=by exact cc (ak _)):xA m Q d.pv st:=by
 obtain⟨k,more,e,_⟩:=d.form2;rw[e]at h⊢
 show Q _ (st.take m);rw[hm];exact h
def Rh.sp:Rh->Option Str | .split n=>some n | _=>none
def Rh.jn:Rh->Option Str | .join n=>some n | _=>none
theorem zcw {kvs:List (z8×PV)}{k:z8}{v:PV}(h:k∉kvs.map (·.1)):wH kvs k v=kvs++ [(k,v)]:=by
 unfold wH;rw[if_neg];intro z;obtain⟨p,hp,e⟩:=fz.mp z;exact h (ca.mpr ⟨p,hp,of_decide_eq_true e⟩)
def iY (f:Rh->Option Str)(hs:List Hd)(n:Str):List Str:=match hs.find? (λh=>h.1==n)with | some h=>h.2.filterMap f | none=> []
theorem lT {f:Rh->Option Str} : ∀{hs:List Hd} {h:Hd},(hs.map (·.1)).Nodup->h∈hs->iY f hs h.1=h.2.filterMap f
 | h0::hs,h,hn,hm=>by
  rw[bb,di]at hn;unfold iY;rw[cx];by_cases e:h0.1=h.1
  ·rw[show(h0.1==h.1)=true by rw[e];exact beq_self_eq_true _]
   rcases bd.mp hm with rfl | hm
   ·rfl
   ·exact absurd (ca.mpr ⟨h,hm,e.symm⟩) hn.1
  ·have e2:(h0.1==h.1)=false:=by simpa using e
   rw[e2];rcases bd.mp hm with rfl | hm
   ·exact absurd rfl e
   ·exact lT hn.2 hm
structure zjC (g:Str->List Str)(names:List Str)(rk:Str->Nat):Prop where
 sub: ∀n∈names,∀m∈g n,m∈names
 down: ∀n∈names,∀m∈g n,rk m < rk n
 few: ∀n∈names,(g n).length<=7
theorem iT {α β:Type}{f g:α->List β} : ∀{l:List α},(∀x∈l,f x=g x)->l.flatMap f=l.flatMap g
 | [],_=>rfl
 | x::l,h=>by rw[fi,fi,h x (bz ..),iT λy hy=>h y (ce _ hy)]
theorem p7 {α:Type}[DecidableEq α]: ∀{l m:List α},l.Nodup->(∀x∈l,x∈m)->l.length<=m.length
 | [],m,_,_=>eh _
 | x::l,m,hn,hs=>by
  rw[di]at hn;have hx:=hs x (bz ..);have h1:=p7 (l:=l) (m:=m.erase x) hn.2 λy hy=>(vf (λ(z:y=x)=>hn.1 (z▸hy))).mpr (hs y (ce _ hy));rw[List.length_erase_of_mem hx]at h1;have:0 < m.length:=uf hx;rw[cg];omega
def Rh.ps (k:Nat):Rh->List (Str×Nat) | .split n=> [(n,k)] | _=> []
def Rh.is (H:Str):Rh->Bool | .split n=>n==H | _=>false
def spos:List Rh->Nat->List (Str×Nat)
 | [],_=> []
 | r::rs,k=>r.ps k++spos rs (k+1)
theorem zig: ∀{l:List Rh} {k:Nat},(spos l k).map (·.1)=l.filterMap Rh.sp
 | [],k=>rfl
 | r::l,k=>by
  unfold spos;rw[ao,zig];cases r <;> rfl
abbrev Sps:=List (Str×(Str×Nat))
def SP1 (h:Hd)(l:List Rh):Sps:=(spos l 0).map λp=>(p.1,(h.1,p.2))
def n4 (hs:List Hd):Sps:=hs.flatMap λh=>SP1 h h.2
def zcR (r:Rh):Prop:=zF r.pv<=40
abbrev Ee:=Nat×List Nat
abbrev Re:=Nat×List Rh
def wR:List Ee->Nat->Nat
 | [],_=>0
 | (x,l)::E,y=>if y=x then 1+(l.map (wR E)).sum else wR E y
def wE (E:List Ee):Nat->Nat:=wR E.reverse
theorem zd9 {E:List Ee}{x:Nat}{l:List Nat}{y:Nat} :wE (E++ [(x,l)]) y=if y=x then 1+(l.map (wE E)).sum else wE E y:=by
 unfold wE;rw[jh];rfl
theorem ziX {E:List Ee}{y:Nat} : ∀{E1:List Ee},y∉E1.map (·.1)->wR (E1++E) y=wR E y
 | [],_=>rfl
 | (x,l)::E1,h=>by
  rw[bb,bd,not_or]at h;rw[gq];show(if y=x then _ else wR (E1++E) y)=_;rw[if_neg h.1];exact ziX h.2
theorem zd8 {E:List Ee}{y:Nat}{E1:List Ee}(h:y∉E1.map (·.1)):wE (E++E1) y=wE E y:=by
 unfold wE;rw[jh];exact ziX (by rw[og,xm];exact h)
theorem zgE {α β:Type}{f g:α->β}{l:List α}(h: ∀x∈l,f x=g x):l.map f=l.map g:=im h
def jG (E1:List Ee):Prop:= ∀A B x l,E1=A++(x,l)::B->∀y∈l,y∈A.map (·.1)
theorem zd7 {E E1:List Ee}(hn:(E1.map (·.1)).Nodup)(hv:jG E1){x:Nat}{l:List Nat}(hm:(x,l)∈E1):wE (E++E1) x=1+(l.map (wE (E++E1))).sum:=by
 obtain⟨A,B,rfl⟩:=jb hm;rw[ao,bb]at hn;have h1:=bp.mp hn;have h2:=di.mp h1.2.1;have e:E++(A++(x,l)::B)=(E++A++ [(x,l)])++B:=by simp
 rw[e,zd8 h2.1,zd9,if_pos rfl]
 congr 2
 refine zgE λy hy=> ?_;have hyA:=hv A B x l rfl y hy;have hyB:y∉B.map (·.1):=λz=>h1.2.2 y hyA y (ce _ z) rfl;have hyx:y≠x:=h1.2.2 y hyA x (bz ..);rw[zd8 hyB,zd9,if_neg hyx]
def tg (rs:List Rh):List Str:=rs.filterMap Rh.sp
def tgs (X:List Re):List Str:=X.flatMap λp=>tg p.2
theorem zdr {X Y:List Re} :tgs (X++Y)=tgs X++tgs Y:=by unfold tgs;simp
theorem zdq {X Y:List Rh} :tg (X++Y)=tg X++tg Y:=by unfold tg;simp
def jY (sh:List Sh):Rh->Prop | .pl r=>qQ sh r | _=>True
def zjg (nm:Nat->Str)(X:List Re):Prop:= ∀A k r B,X=A++(k,r)::B->∀m∈tg r,∃j∈A.map (·.1),m=nm j
structure LI (shl:List Sh)(nm:Nat->Str)(sp:List Nat)(E:List Ee)(sp' ks:List Nat)(X:List Re)(E1:List Ee)(rs:List Rh)(hd:List Nat):Prop where
 xk:X.map (·.1)=ks
 ek:E1.map (·.1)=ks
 nd:(ks++sp').Nodup
 sub: ∀x∈ks++sp',x∈sp
 hk: ∀x∈hd,x∈ks
 ev:jG E1
 wt:(hd.map (wE (E++E1))).sum<=ks.length
 tn:(tgs X++tg rs).Nodup
 ti: ∀m∈tgs X++tg rs,∃j∈ks,m=nm j
 er:zjg nm X
 jn: ∀r∈rs,∀m,r.jn=some m->∃j∈ks,m=nm j
 jx: ∀p∈X,∀r∈p.2,∀m,r.jn=some m->∃j∈ks,m=nm j
 ro: ∀r∈rs,jY shl r
 rx: ∀p∈X,(∀r∈p.2,jY shl r)/\p.2.length<=30
section
variable {shl:List Sh} {nm:Nat->Str} {sp:List Nat} {E:List Ee} {sp' ks:List Nat} {X:List Re} {E1:List Ee} {rs:List Rh} {hd:List Nat}
theorem LI.start (hs:sp.Nodup):LI shl nm sp E sp [] [] [] [] []:=
 ⟨rfl,rfl,by simpa using hs,by simp,by simp,(λA B x l h=>by cases A <;> cases h),by simp,by simp[tgs,tg],by simp[tgs,tg],(λA k r B h=>by cases A <;> cases h),by simp,by simp,by simp,by simp⟩
theorem LI.plain (I:LI shl nm sp E sp' ks X E1 rs hd){r:Rw}(hr:qQ shl r):LI shl nm sp E sp' ks X E1 (rs++ [.pl r]) hd:=by
 have e:tg (rs++ [.pl r])=tg rs:=by rw[zdq];simp[tg,Rh.sp]
 refine{I with tn:=by rw[e];exact I.tn,ti:=by rw[e];exact I.ti,jn:=λr' h m hm=> ?_,ro:=λr' h=> ?_}
 ·rcases av.mp h with h | h
  ·exact I.jn r' h m hm
  ·rw[aq.mp h]at hm;cases hm
 ·rcases av.mp h with h | h
  ·exact I.ro r' h
  ·rw[aq.mp h];exact hr
theorem zin {f:Nat->Nat} : ∀{l:List Nat} {k x:Nat},l[k]?=some x->(l.map f).sum=f x+((l.eraseIdx k).map f).sum
 | [],k,x,h=>by simp at h
 | y::l,0,x,h=>by simp at h;subst h;simp
 | y::l,k+1,x,h=>by
  have:=zin (f:=f) (l:=l) (k:=k) (x:=x) (by simpa using h);simp[this];omega
theorem LI.join (I:LI shl nm sp E sp' ks X E1 rs hd){k x:Nat}{l:List Nat}(hx:hd[k]?=some x)(hl:(x,l)∈E1):LI shl nm sp E sp' ks X E1 (rs++ [.join (nm x)]) (hd.eraseIdx k++l)/\((hd.eraseIdx k++l).map (wE (E++E1))).sum+1=(hd.map (wE (E++E1))).sum:=by
 have e:tg (rs++ [.join (nm x)])=tg rs:=by rw[zdq];simp[tg,Rh.sp]
 have hxk:=I.hk x (ap.mpr ⟨k,hx⟩);have hn:(E1.map (·.1)).Nodup:=by rw[I.ek];exact(bp.mp I.nd).1
 have hs:((hd.eraseIdx k++l).map (wE (E++E1))).sum+1=(hd.map (wE (E++E1))).sum:=by
  rw[zin (f:=wE (E++E1)) hx,zd7 hn I.ev hl,ao,xt];omega
 refine⟨{I with tn:=by rw[e];exact I.tn,ti:=by rw[e];exact I.ti,hk:=λy hy=> ?_,wt:=by have:=I.wt;omega,jn:=λr' h m hm=> ?_,ro:=λr' h=> ?_},hs⟩
 ·rcases av.mp hy with hy | hy
  ·exact I.hk y (kj hy)
  ·obtain⟨A,B,eA⟩:=jb hl
   have:=I.ev A B x l eA y hy;rw[<- I.ek,eA,ao];exact az _ this
 ·rcases av.mp h with h | h
  ·exact I.jn r' h m hm
  ·rw[aq.mp h]at hm;cases hm;exact⟨x,hxk,rfl⟩
 ·rcases av.mp h with h | h
  ·exact I.ro r' h
  ·rw[aq.mp h];exact trivial
theorem qK {α:Type}{X Y A B:List α}{p:α}(h:X++Y=A++p::B):(∃B',X=A++p::B'/\B=B'++Y)∨∃A',A=X++A'/\Y=A'++p::B:=by
 rcases List.append_eq_append_iff.mp h with⟨a,h1,h2⟩ | ⟨c,h1,h2⟩
 ·exact .inr ⟨a,h1,h2⟩
 ·cases c with
  | nil=>simp at h1 h2;exact .inr ⟨[],by simp[h1],by simp[<- h2]⟩
  | cons q c=>rw[gq]at h2;cases h2;exact .inl ⟨c,h1,rfl⟩
theorem LI.split (inj: ∀a∈sp,∀b∈sp,nm a=nm b->a=b)(I:LI shl nm sp E sp' ks X E1 rs hd){i j:Nat}(hj:sp'[i]?=some j){spc ksc:List Nat}{Xc:List Re}{E1c:List Ee}{rsc:List Rh}{hdc:List Nat}
  (C:LI shl nm (sp'.eraseIdx i) (E++E1) spc ksc Xc E1c rsc hdc) (hlen:rsc.length<=30):
  LI shl nm sp E spc (ks++(ksc++ [j])) (X++(Xc++ [(j,rsc)])) (E1++(E1c++ [(j,hdc)])) (rs++ [.split (nm j)]) (hd++ [j]):=by
 have hjs:j∈sp':=ap.mpr ⟨i,hj⟩;have nd':=bp.mp I.nd;have hsub: ∀x∈ksc++spc,x∈sp'/\x≠j:=λx hx=>by
  have h1:=C.sub x hx;refine⟨kj h1,λz=> ?_⟩;subst z;obtain⟨q,hq⟩:=ap.mp h1;have hn:=nd'.2.1;rw[ug]at hq;have hi:=(ad.mp hj).1
  split at hq
  ·have:=(da (ad.mp hq).1 hn).mp (hq.trans hj.symm);omega
  ·have:=(da (ad.mp hq).1 hn).mp (hq.trans hj.symm);omega
 have cnd:=bp.mp C.nd;have hjk:j∉ks:=λz=>nd'.2.2 j z j hjs rfl;have hck: ∀x∈ksc,x∉ks:=λx hx z=>nd'.2.2 x z x (hsub x (az _ hx)).1 rfl;have eT:tg (rs++ [.split (nm j)])=tg rs++ [nm j]:=by rw[zdq];simp[tg,Rh.sp]
 have eX:tgs (X++(Xc++ [(j,rsc)]))=tgs X++(tgs Xc++tg rsc):=by rw[zdr,zdr];simp[tgs]
 have insp: ∀x∈ks++(ksc++ [j]),x∈sp:=λx hx=>by
  rcases av.mp hx with hx | hx
  ·exact I.sub x (az _ hx)
  ·rcases av.mp hx with hx | hx
   ·exact I.sub x (al _ (hsub x (az _ hx)).1)
   ·rw[aq.mp hx];exact I.sub j (al _ hjs)
 have keys:(E1++(E1c++ [(j,hdc)])).map (·.1)=ks++(ksc++ [j]):=by rw[ao,ao,I.ek,C.ek];rfl
 have hndk:(ks++(ksc++ [j])).Nodup:=by
  refine bp.mpr ⟨nd'.1,bp.mpr ⟨cnd.1,by simp,λa ha b hb=> ?_⟩,λa ha b hb=> ?_⟩
  ·rw[aq.mp hb];exact(hsub a (az _ ha)).2
  ·rcases av.mp hb with hb | hb
   ·exact λz=>hck b hb (z▸ha)
   ·rw[aq.mp hb];exact λz=>hjk (z▸ha)
 have tiC: ∀m∈tgs Xc++tg rsc,∃q∈ksc,m=nm q:=C.ti;refine⟨by rw[ao,ao,I.xk,C.xk];rfl,keys,?_,?_,?_,?_,?_,?_,?_,?_,?_,?_,?_,?_⟩
 ·refine bp.mpr ⟨hndk,cnd.2.1,λa ha b hb=> ?_⟩
  have hb':=hsub b (al _ hb);rcases av.mp ha with ha | ha
  ·exact λz=>nd'.2.2 a ha b hb'.1 z
  ·rcases av.mp ha with ha | ha
   ·exact cnd.2.2 a ha b hb
   ·rw[aq.mp ha];exact λz=>hb'.2 z.symm
 ·intro x hx
  rcases av.mp hx with hx | hx
  ·exact insp x hx
  ·exact I.sub x (al _ (hsub x (al _ hx)).1)
 ·intro x hx
  rcases av.mp hx with hx | hx
  ·exact az _ (I.hk x hx)
  ·exact al _ (al _ hx)
 ·intro A B x l e y hy
  rcases qK e with⟨B',h1,_⟩ | ⟨A',rfl,h2⟩
  ·exact I.ev A B' x l h1 y hy
  ·rw[ao]
   refine al _ ?_;rcases qK h2 with⟨B',h3,_⟩ | ⟨A'',rfl,h4⟩
   ·exact C.ev A' B' x l h3 y hy
   ·cases A'' with
    | nil=>cases h4;rw[db,C.ek];exact C.hk y hy
    | cons q A''=>cases A'' <;> cases h4
 ·have hw: ∀y∈hd,wE (E++(E1++(E1c++ [(j,hdc)]))) y=wE (E++E1) y:=λy hy=>by
   rw[<- au];refine zd8 ?_;rw[ao,C.ek];intro z;rcases av.mp z with z | z
   ·exact hck y z (I.hk y hy)
   ·have z':y=j:=by simpa using z
    exact hjk (z'▸I.hk y hy)
  have hwj:wE (E++(E1++(E1c++ [(j,hdc)]))) j=1+(hdc.map (wE (E++E1++E1c))).sum:=by
   rw[<- au,<- au,zd9,if_pos rfl]
  rw[ao,xt,zgE hw,bb,ir,hwj];have h1:=I.wt;have h2:=C.wt;simp only[af,bi,pr,List.sum_nil];omega
 ·rw[eX,eT]
  have hp:(tgs X++(tgs Xc++tg rsc)++(tg rs++ [nm j])).Perm ((tgs X++tg rs)++((tgs Xc++tg rsc)++ [nm j])):=by
   generalize tgs Xc++tg rsc=Y;rw[au (tgs X) Y,au (tgs X) (tg rs)];refine gd _ ?_;rw[<- au,<- au (tg rs)];exact ga _ fq
  refine hp.nodup_iff.mpr (bp.mpr ⟨I.tn,bp.mpr ⟨C.tn,by simp,λa ha b hb z=> ?_⟩,λa ha b hb z=> ?_⟩)
  ·rw[aq.mp hb]at z
   obtain⟨q,hq,e⟩:=tiC a ha;have hq':=hsub q (az _ hq);exact hq'.2 (inj q (I.sub q (al _ hq'.1)) j (I.sub j (al _ hjs)) (by rw[<- e,z]))
  ·obtain⟨p,hp,e⟩:=I.ti a ha
   rcases av.mp hb with hb | hb
   ·obtain⟨q,hq,e'⟩:=tiC b hb
    have hq':=hsub q (az _ hq);have:=inj p (I.sub p (az _ hp)) q (I.sub q (al _ hq'.1)) (by rw[<- e,<- e',z]);exact hck q hq (this▸hp)
   ·rw[aq.mp hb]at z
    have:=inj p (I.sub p (az _ hp)) j (I.sub j (al _ hjs)) (by rw[<- e,z]);exact hjk (this▸hp)
 ·rw[eX,eT]
  intro m hm;have h1: ∀m∈tgs X++tg rs,∃q∈ks++(ksc++ [j]),m=nm q:=λm hm=>let⟨q,hq,e⟩:=I.ti m hm;⟨q,az _ hq,e⟩;have h2: ∀m∈tgs Xc++tg rsc,∃q∈ks++(ksc++ [j]),m=nm q:=λm hm=>let⟨q,hq,e⟩:=tiC m hm;⟨q,al _ (az _ hq),e⟩;rcases av.mp hm with hm | hm
  ·rcases av.mp hm with hm | hm
   ·exact h1 m (az _ hm)
   ·exact h2 m hm
  ·rcases av.mp hm with hm | hm
   ·exact h1 m (al _ hm)
   ·exact⟨j,by simp,aq.mp hm⟩
 ·intro A k r B e m hm
  rcases qK e with⟨B',h1,_⟩ | ⟨A',rfl,h2⟩
  ·exact I.er A k r B' h1 m hm
  ·rw[ao]
   rcases qK h2 with⟨B',h3,_⟩ | ⟨A'',rfl,h4⟩
   ·obtain⟨q,hq,e'⟩:=C.er A' k r B' h3 m hm;exact⟨q,al _ hq,e'⟩
   ·cases A'' with
    | nil=>cases h4;rw[db,C.xk];obtain⟨q,hq,e'⟩:=tiC m (al _ hm);exact⟨q,al _ hq,e'⟩
    | cons q A''=>cases A'' <;> cases h4
 ·intro r hr m hm
  rcases av.mp hr with hr | hr
  ·obtain⟨q,hq,e⟩:=I.jn r hr m hm;exact⟨q,az _ hq,e⟩
  ·rw[aq.mp hr]at hm;cases hm
 ·intro p hp r hr m hm
  rcases av.mp hp with hp | hp
  ·obtain⟨q,hq,e⟩:=I.jx p hp r hr m hm;exact⟨q,az _ hq,e⟩
  ·rcases av.mp hp with hp | hp
   ·obtain⟨q,hq,e⟩:=C.jx p hp r hr m hm;exact⟨q,al _ (az _ hq),e⟩
   ·rw[aq.mp hp]at hr
    obtain⟨q,hq,e⟩:=C.jn r hr m hm;exact⟨q,al _ (az _ hq),e⟩
 ·intro r hr
  rcases av.mp hr with hr | hr
  ·exact I.ro r hr
  ·rw[aq.mp hr];exact trivial
 ·intro p hp
  rcases av.mp hp with hp | hp
  ·exact I.rx p hp
  ·rcases av.mp hp with hp | hp
   ·exact C.rx p hp
   ·rw[aq.mp hp];exact⟨C.ro,hlen⟩
end
def sg (n:Nat):Str:=⟨#[97+n]⟩
def zeQ (n:Nat):List Str:= [sg n,sg n++sg (n+1),sg (n+1),sg (n+1)++sg (n+2),sg (n+2),sg n++sg (n+2),sg n++sg (n+1)++sg (n+2),sg (n+2)++sg (n+1)]
theorem zle: ∀n < 24,(zeQ n).Nodup:=by decide+kernel
theorem zkK: ∀n:Nat,n < 24->Txt.slice (Txt.slice "abcdefghijklmnopqrstuvwxyz" (some (n:Int)) none) none (some 3)=⟨#[97+n,97+(n+1),97+(n+2)]⟩:=by decide+kernel
def zqv:zV:=λxs st Q=> ∃(i:Nat) (a b:Int),xs= [.obj i]/\st[i]?=some (z9 a b)/\zZ a b/\∀(us ns ts:List Str) a b,us.length=6->us.Nodup->ns.length=8->ns.Nodup->ts≠ []->ts.length<=40->ts.Nodup->zZ a b->Q (.tup [.lst (us.map PV.str),.lst (ns.map PV.str),.lst (ts.map PV.str)]) (st.set i (z9 a b))
def vF (E:List Ee):List (z8×PV):=E.map λp=>(.inl (p.1:Int),.lst (p.2.map zE))
structure L4 (S:Int->Int->List PV->List PV->z5)(i p r h e:Nat)(kv:List (z8×PV))(E:List Ee):Prop where
 gi: ∀{a b w d},(S a b w d)[i]?=some (z9 a b)
 si: ∀{a b w d a' b'},(S a b w d).set i (z9 a' b')=S a' b' w d
 gr: ∀{a b w d},(S a b w d)[r]?=some (.lst w)
 sr: ∀{a b w d w'},(S a b w d).set r (.lst w')=S a b w' d
 gh: ∀{a b w d},(S a b w d)[h]?=some (.lst d)
 sh: ∀{a b w d d'},(S a b w d).set h (.lst d')=S a b w d'
 gp: ∀{a b w d},(S a b w d)[p]?=some (.rcd kv)
 ge: ∀{a b w d},(S a b w d)[e]?=some (.dct (vF E))
theorem L4.len {S:Int->Int->List PV->List PV->z5}{i p r h e:Nat}{kv:List (z8×PV)}{E:List Ee}(L:L4 S i p r h e kv E){a b a' b':Int}{w w' d d':List PV} :(S a b w d).length=(S a' b' w' d').length:=by
 have h1:=congrArg List.length (L.si (a:=a) (b:=b) (w:=w) (d:=d) (a':=a') (b':=b'));have h2:=congrArg List.length (L.sr (a:=a') (b:=b') (w:=w) (d:=d) (w':=w'));have h3:=congrArg List.length (L.sh (a:=a') (b:=b') (w:=w') (d:=d) (d':=d'));rw[ci]at h1 h2 h3;omega
theorem bD {α β:Type}{f:α->β} : ∀{l:List α} {k:Nat},(l.map f).eraseIdx k=(l.eraseIdx k).map f
 | [],_=>rfl
 | x::l,0=>rfl
 | x::l,k+1=>by rw[bb,gm,gm,bb,bD]
def zdf:zV:=λxs st Q=> ∃(S:Int->Int->List PV->List PV->z5) (i p r h e:Nat) (kv:List (z8×PV)) (names:List Str) (E:List Ee) (a b:Int) (w0:List PV) (hd:List Nat),xs= [.obj i,.obj p,.obj r,.obj h]/\st=S a b w0 (hd.map zE)/\L4 S i p r h e kv E/\zZ a b/\hd≠ []/\hd.length<=1000/\w0.length<=1000/\
 (zO kv (.inr "names")=some (.lst (names.map PV.str))/\zO kv (.inr "ends")=some (.obj e)/\∀x∈hd,x < names.length/\∃l:List Nat,l.length<=1000/\zO (vF E) (.inl (x:Int))=some (.lst (l.map zE)))/\
 ∀(k x:Nat) (l:List Nat) (nm:Str) a b,hd[k]?=some x->names[x]?=some nm->zO (vF E) (.inl (x:Int))=some (.lst (l.map zE))->zZ a b->Q .non (S a b (w0++ [.tup [.str "join",.str nm]]) ((hd.eraseIdx k++l).map zE))
def tR:List Ee->Nat->List Nat
 | [],_=> []
 | (x,l)::E,y=>if y=x then y::l.flatMap (tR E)else tR E y
def tE (E:List Ee):Nat->List Nat:=tR E.reverse
theorem zdm {E:List Ee}{x:Nat}{l:List Nat}{y:Nat} :tE (E++ [(x,l)]) y=if y=x then y::l.flatMap (tE E)else tE E y:=by
 unfold tE;rw[jh];rfl
theorem ziu {E:List Ee}{y:Nat} : ∀{E1:List Ee},y∉E1.map (·.1)->tR (E1++E) y=tR E y
 | [],_=>rfl
 | (x,l)::E1,h=>by
  rw[bb,bd,not_or]at h;rw[gq];show(if y=x then _ else tR (E1++E) y)=_;rw[if_neg h.1];exact ziu h.2
theorem zdl {E:List Ee}{y:Nat}{E1:List Ee}(h:y∉E1.map (·.1)):tE (E++E1) y=tE E y:=by
 unfold tE;rw[jh];exact ziu (by rw[og,xm];exact h)
theorem zir {E E1:List Ee}(hn:(E1.map (·.1)).Nodup)(hv:jG E1){x:Nat}{l:List Nat}(hm:(x,l)∈E1):tE (E++E1) x=x::l.flatMap (tE (E++E1)):=by
 obtain⟨A,B,rfl⟩:=jb hm;rw[ao,bb]at hn;have h1:=bp.mp hn;have h2:=di.mp h1.2.1;have e:E++(A++(x,l)::B)=(E++A++ [(x,l)])++B:=by simp
 rw[e,zdl h2.1,zdm,if_pos rfl]
 congr 1
 refine iT λy hy=> ?_;have hyA:=hv A B x l rfl y hy;have hyB:y∉B.map (·.1):=λz=>h1.2.2 y hyA y (ce _ z) rfl;have hyx:y≠x:=h1.2.2 y hyA x (bz ..);rw[zdl hyB,zdm,if_neg hyx]
def iW (en:Str->List Str)(hd:List Str):Rh->List Str
 | .split x=>hd++ [x]
 | .join x=>hd.filter (λy=>decide (y≠x))++en x
 | .pl _=>hd
def uR (en:Str->List Str)(rs:List Rh):List Str:=rs.foldl (iW en) []
theorem zbC {en:Str->List Str}{rs:List Rh}{r:Rh} :uR en (rs++ [r])=iW en (uR en rs) r:=by unfold uR;rw[List.foldl_append];rfl
def HV (en:Str->List Str)(rs:List Rh):Prop:= ∀A x B,rs=A++ .join x::B->x∈uR en A
theorem dB {en:Str->List Str}{rs:List Rh}{r:Rh}(h:HV en rs)(hr: ∀x,r= .join x->x∈uR en rs):HV en (rs++ [r]):=λA x B e=>by
 rcases qK e with⟨B',h1,_⟩ | ⟨A',rfl,h2⟩
 ·exact h A x B' h1
 ·cases A' with
  | nil=>cases h2;rw[db];exact hr x rfl
  | cons q A'=>cases A' <;> cases h2
def oV (nm:Nat->Str)(E1:List Ee)(en:Str->List Str):Prop:= ∀p∈E1,en (nm p.1)=p.2.map nm
def tD (rs:List Rh):List Str:=rs.filterMap Rh.jn
def qA (X:List Re):List Str:=X.flatMap λp=>tD p.2
theorem zbP {X Y:List Rh} :tD (X++Y)=tD X++tD Y:=by unfold tD;simp
theorem zg3 {X Y:List Re} :qA (X++Y)=qA X++qA Y:=by unfold qA;simp
def zj6 (nm:Nat->Str)(X:List Re):Prop:= ∀A k r B,X=A++(k,r)::B->∀m∈tD r,∃j∈A.map (·.1),m=nm j
structure LK (shl:List Sh)(nm:Nat->Str)(sp:List Nat)(E:List Ee)(sp' ks:List Nat)(X:List Re)(E1:List Ee)(rs:List Rh)(hd:List Nat):Prop extends LI shl nm sp E sp' ks X E1 rs hd where
 pj: ∃js:List Nat,((hd.flatMap (tE (E++E1)))++js).Perm ks/\(qA X++tD rs).Perm (js.map nm)
 hb: ∀en,oV nm E1 en->hd.map nm=uR en rs/\HV en rs
 hx: ∀en,oV nm E1 en->∀p∈X,uR en p.2=en (nm p.1)/\HV en p.2
 je:zj6 nm X
section
variable {shl:List Sh} {nm:Nat->Str} {sp:List Nat} {E:List Ee} {sp' ks:List Nat} {X:List Re} {E1:List Ee} {rs:List Rh} {hd:List Nat}
theorem LK.start (hs:sp.Nodup):LK shl nm sp E sp [] [] [] [] []:=
 {LI.start hs with pj:=⟨[],by simp,by simp[qA,tD]⟩,hb:=λen _=>⟨rfl,λA x B e=>by cases A <;> cases e⟩,hx:=λen _ p hp=>by simp at hp,je:=λA k r B h=>by cases A <;> cases h}
theorem LK.plain (I:LK shl nm sp E sp' ks X E1 rs hd){r:Rw}(hr:qQ shl r):LK shl nm sp E sp' ks X E1 (rs++ [.pl r]) hd:=
 by
 refine{I.toLI.plain hr with pj:= ?_,hb:=λen ha=> ?_,hx:=I.hx,je:=I.je}
 ·obtain⟨js,h1,h2⟩:=I.pj
  refine⟨js,h1,?_⟩;rw[zbP,show tD [Rh.pl r]= []from rfl,db];exact h2
 ·obtain⟨h1,h2⟩:=I.hb en ha
  exact⟨by rw[zbC];exact h1,dB h2 λx e=>by cases e⟩
theorem zb3 {f:Nat->List Nat} : ∀{l:List Nat} {k x:Nat},l[k]?=some x->(l.flatMap f).Perm (f x++(l.eraseIdx k).flatMap f)
 | [],k,x,h=>by simp at h
 | y::l,0,x,h=>by simp at h;subst h;simp
 | y::l,k+1,x,h=>by
  have:=zb3 (f:=f) (l:=l) (k:=k) (x:=x) (by simpa using h);rw[fi,gm,fi];refine(gd _ this).trans ?_;rw[<- au,<- au];exact ga _ fq
theorem zll {l:List Nat}(hn:l.Nodup){k x:Nat}(hx:l[k]?=some x):l.eraseIdx k=l.filter λy=>decide (y≠x):=by
 induction l generalizing k with
 | nil=>simp at hx
 | cons y l ih=>
  rw[di]at hn;cases k with
  | zero=>
   simp at hx;subst hx;rw[List.eraseIdx_cons_zero,dy,if_neg (by simp)];symm;rw[List.filter_eq_self];intro a ha;exact decide_eq_true λz=>hn.1 (z▸ha)
  | succ k=>
   have hx':l[k]?=some x:=by simpa using hx
   have hne:y≠x:=λz=>hn.1 (z▸ap.mpr ⟨k,hx'⟩);rw[gm,dy,if_pos (by simpa using hne),ih hn.2 hx']
theorem LK.tin (I:LK shl nm sp E sp' ks X E1 rs hd){x:Nat}(hx:x∈ks):x∈tE (E++E1) x:=by
 have hn:(E1.map (·.1)).Nodup:=by rw[I.ek];exact(bp.mp I.nd).1
 obtain⟨⟨y,l⟩,hm,e⟩:=ca.mp (I.ek▸hx);have e':y=x:=e;subst e';rw[zir hn I.ev hm];exact bz ..
theorem zim {f:Nat->List Nat} : ∀{l:List Nat},(∀x∈l,x∈f x)->l.Sublist (l.flatMap f)
 | [],_=>List.Sublist.refl _
 | x::l,h=>by
  rw[fi];exact(List.singleton_sublist.mpr (h x (bz ..))).append (zim λy hy=>h y (ce _ hy))
theorem LK.hnd (I:LK shl nm sp E sp' ks X E1 rs hd):hd.Nodup:=by
 obtain⟨js,h1,_⟩:=I.pj;have h2:=h1.nodup_iff.mpr (bp.mp I.nd).1;exact(bp.mp h2).1.sublist (zim λx hx=>I.tin (I.hk x hx))
theorem LK.join (inj: ∀a∈sp,∀b∈sp,nm a=nm b->a=b)(I:LK shl nm sp E sp' ks X E1 rs hd){k x:Nat}{l:List Nat}(hx:hd[k]?=some x)(hl:(x,l)∈E1):LK shl nm sp E sp' ks X E1 (rs++ [.join (nm x)]) (hd.eraseIdx k++l)/\((hd.eraseIdx k++l).map (wE (E++E1))).sum+1=(hd.map (wE (E++E1))).sum:=by
 have hn:(E1.map (·.1)).Nodup:=by rw[I.ek];exact(bp.mp I.nd).1
 have J:=I.toLI.join hx hl;refine⟨{J.1 with pj:= ?_,hb:=λen ha=> ?_,hx:=I.hx,je:=I.je},J.2⟩
 ·obtain⟨js,h1,h2⟩:=I.pj
  refine⟨js++ [x],?_,?_⟩
  ·refine List.Perm.trans ?_ h1
   have hp:=zb3 (f:=tE (E++E1)) hx;rw[zir hn I.ev hl]at hp;rw[km];generalize (hd.eraseIdx k).flatMap (tE (E++E1))=a at hp⊢
   generalize l.flatMap (tE (E++E1))=b at hp⊢
   refine List.Perm.trans ?_ (ga js hp.symm);rw[gq,gq];refine List.Perm.trans ?_ (List.perm_middle (a:=x) (l₁:= [])).symm;rw[lq,<- au];refine(jv x _).trans (List.Perm.cons _ (ga _ fq))
  ·rw[zbP,ao,<- au]
   refine(ga _ h2).trans (mn ?_);simp[tD,Rh.jn]
 ·obtain⟨h1,h2⟩:=I.hb en ha
  have hxm:x∈hd:=ap.mpr ⟨k,hx⟩;refine⟨?_,dB h2 λy e=>by cases e;rw[<- h1];exact br hxm⟩;rw[zbC];show _=(uR en rs).filter _++en (nm x);rw[<- h1,ao,ha _ hl,zll I.hnd hx,List.filter_map]
  congr 2
  refine List.filter_congr λy hy=> ?_;have hys:=I.sub y (az _ (I.hk y hy));have hxs:=I.sub x (az _ (I.hk x hxm));show decide (y≠x)=decide (nm y≠nm x);by_cases e:y=x
  ·rw[e];simp
  ·rw[decide_eq_true (show y≠x from e),decide_eq_true (show nm y≠nm x from λz=>e (inj y hys x hxs z))]
theorem LK.split (inj: ∀a∈sp,∀b∈sp,nm a=nm b->a=b)(I:LK shl nm sp E sp' ks X E1 rs hd){i j:Nat}(hj:sp'[i]?=some j){spc ksc:List Nat}{Xc:List Re}{E1c:List Ee}{rsc:List Rh}{hdc:List Nat}
  (C:LK shl nm (sp'.eraseIdx i) (E++E1) spc ksc Xc E1c rsc hdc) (hlen:rsc.length<=30):
  LK shl nm sp E spc (ks++(ksc++ [j])) (X++(Xc++ [(j,rsc)])) (E1++(E1c++ [(j,hdc)])) (rs++ [.split (nm j)]) (hd++ [j]):=by
 have S:=LI.split inj I.toLI hj C.toLI hlen;have ag: ∀{en},oV nm (E1++(E1c++ [(j,hdc)])) en->oV nm E1 en/\oV nm E1c en/\en (nm j)=hdc.map nm:=λ{en} h=>⟨λp hp=>h p (az _ hp),λp hp=>h p (al _ (az _ hp)),h (j,hdc) (by simp)⟩;have ndk:=(bp.mp S.nd).1;have keys:(E1++(E1c++ [(j,hdc)])).map (·.1)=ks++(ksc++ [j]):=S.ek;refine{S with pj:= ?_,hb:=λen ha=> ?_,hx:=λen ha p hp=> ?_,je:= ?_}
 ·obtain⟨js,h1,h2⟩:=I.pj
  obtain⟨jsc,c1,c2⟩:=C.pj;refine⟨js++jsc,?_,?_⟩
  ·have hw:hd.flatMap (tE (E++(E1++(E1c++ [(j,hdc)]))))=hd.flatMap (tE (E++E1)):=iT λy hy=>by
    rw[<- au];refine zdl ?_;rw[ao,C.ek];intro z;exact(bp.mp ndk).2.2 y (I.hk y hy) y z rfl
   have hwj:tE (E++(E1++(E1c++ [(j,hdc)]))) j=j::hdc.flatMap (tE (E++E1++E1c)):=by
    rw[<- au,<- au,zdm,if_pos rfl]
   rw[km,hw,fi,xn,db,hwj];generalize hd.flatMap (tE (E++E1))=a at h1⊢
   generalize hdc.flatMap (tE (E++E1++E1c))=b at c1⊢
   refine List.Perm.trans ?_ (h1.append (c1.append_right [j]));have p1:(a++j::b++(js++jsc)).Perm (a++(js++(j::b++jsc))):=by
    rw[au];refine gd _ ?_;rw[<- au,<- au];exact ga _ fq
   refine p1.trans ?_;rw[au];refine gd _ (gd _ ?_);rw[gq];exact(jv j _).symm
  ·rw[zg3,zg3,zbP,ao]
   have e1:tD [Rh.split (nm j)]= []:=rfl;have e2:qA [(j,rsc)]=tD rsc:=by simp[qA]
   rw[e1,e2,db];refine List.Perm.trans ?_ (h2.append c2);generalize qA Xc++tD rsc=y;rw[au,au];exact gd _ fq
 ·obtain⟨a1,a2,a3⟩:=ag ha
  obtain⟨h1,h2⟩:=I.hb en a1;refine⟨?_,dB h2 λx e=>by cases e⟩;rw[zbC,ao,h1];rfl
 ·obtain⟨a1,a2,a3⟩:=ag ha
  rcases av.mp hp with hp | hp
  ·exact I.hx en a1 p hp
  ·rcases av.mp hp with hp | hp
   ·exact C.hx en a2 p hp
   ·rw[aq.mp hp]
    obtain⟨c1,c2⟩:=C.hb en a2;exact⟨by rw[a3];exact c1.symm,c2⟩
 ·intro A k r B e m hm
  rcases qK e with⟨B',h1,_⟩ | ⟨A',rfl,h2⟩
  ·exact I.je A k r B' h1 m hm
  ·rw[ao]
   rcases qK h2 with⟨B',h3,_⟩ | ⟨A'',rfl,h4⟩
   ·obtain⟨q,hq,e'⟩:=C.je A' k r B' h3 m hm;exact⟨q,al _ hq,e'⟩
   ·cases A'' with
    | nil=>
     cases h4;obtain⟨r',hr',e'⟩:=dm.mp hm;obtain⟨q,hq,e2⟩:=C.jn r' hr' m e';exact⟨q,al _ (by rw[db,C.xk];exact hq),e2⟩
    | cons q A''=>cases A'' <;> cases h4
end
def zC (names:List Str)(i:Nat):Str:=names.getD i Str.empty
def vU (nm:Nat->Str)(R:List Re):List (z8×PV):=R.map λp=>(.inl (p.1:Int),xR (nm p.1,p.2))
def G (a0:PO)(kv:List (z8×PV))(nm:Nat->Str)(sp:List Nat)(E:List Ee)(R:List Re)(m:z5):z5:=a0:: .lst (sp.map zE):: .dct (vF E):: .dct (vU nm R):: .rcd kv::m
structure zea (kv:List (z8×PV))(names things:List Str)(shl:List Sh)(many:Nat):Prop where
 nms:zO kv (.inr "names")=some (.lst (names.map PV.str))
 tgs:zO kv (.inr "things")=some (.lst (things.map PV.str))
 uses:zO kv (.inr "uses")=some (.lst (List.replicate many (.tup [.lst (shl.map y6),.lst (shl.map y6)])))
 spare:zO kv (.inr "spare")=some (.obj 1)
 ends:zO kv (.inr "ends")=some (.obj 2)
 rows:zO kv (.inr "rows")=some (.obj 3)
section
variable {a0:PO} {kv:List (z8×PV)} {nm:Nat->Str} {sp:List Nat} {E:List Ee} {R:List Re} {m0 m:z5} {x y z u:PO}
theorem zdY:(G a0 kv nm sp E R m).length=m.length+5:=rfl
theorem zdX:G a0 kv nm sp E R m++m0=G a0 kv nm sp E R (m++m0):=rfl
theorem vM:(G a0 kv nm sp E R m)[1]?=some (.lst (sp.map zE)):=rfl
theorem vN:(G a0 kv nm sp E R m)[2]?=some (.dct (vF E)):=rfl
theorem vE:(G a0 kv nm sp E R m)[3]?=some (.dct (vU nm R)):=rfl
theorem wV:(G a0 kv nm sp E R m)[4]?=some (.rcd kv):=rfl
theorem zjW:(m0++ [x,y,z])[m0.length]?=some x:=by rw[aj (ak _),cv];rfl
theorem zjX:(m0++ [x,y,z])[m0.length+1]?=some y:=by rw[aj (by omega),show m0.length+1 - m0.length=1 by omega];rfl
theorem zjY:(m0++ [x,y,z])[m0.length+2]?=some z:=by rw[aj (by omega),show m0.length+2 - m0.length=2 by omega];rfl
theorem zqy:(m0++ [x,y,z]).set m0.length u=m0++ [u,y,z]:=by rw[cq _ _ (ak _),cv];rfl
theorem zqz:(m0++ [x,y,z]).set (m0.length+1) u=m0++ [x,u,z]:=by rw[cq _ _ (by omega),show m0.length+1 - m0.length=1 by omega];rfl
theorem zq0:(m0++ [x,y,z]).set (m0.length+2) u=m0++ [x,y,u]:=by rw[cq _ _ (by omega),show m0.length+2 - m0.length=2 by omega];rfl
theorem wF:(G a0 kv nm sp E R (m0++ [x,y,z]))[m0.length+5]?=some x:=zjW
theorem vO:(G a0 kv nm sp E R (m0++ [x,y,z]))[m0.length+6]?=some y:=zjX
theorem vH:(G a0 kv nm sp E R (m0++ [x,y,z]))[m0.length+7]?=some z:=zjY
theorem wJ:(G a0 kv nm sp E R (m0++ [x,y,z])).set (m0.length+5) u=G a0 kv nm sp E R (m0++ [u,y,z]):=congrArg (G a0 kv nm sp E R) zqy
theorem vP:(G a0 kv nm sp E R (m0++ [x,y,z])).set (m0.length+6) u=G a0 kv nm sp E R (m0++ [x,u,z]):=congrArg (G a0 kv nm sp E R) zqz
theorem vQ:(G a0 kv nm sp E R (m0++ [x,y,z])).set (m0.length+7) u=G a0 kv nm sp E R (m0++ [x,y,u]):=congrArg (G a0 kv nm sp E R) zq0
theorem zjx {l:List Nat} :(G a0 kv nm sp E R m).set 1 (.lst (l.map zE))=G a0 kv nm l E R m:=rfl
theorem zjy {E':List Ee} :(G a0 kv nm sp E R m).set 2 (.dct (vF E'))=G a0 kv nm sp E' R m:=rfl
theorem zjz {R':List Re} :(G a0 kv nm sp E R m).set 3 (.dct (vU nm R'))=G a0 kv nm sp E R' m:=rfl
end
structure HP (ns:List Int)(at':Int)(n:Nat)(kv:List (z8×PV))(names things:List Str)(shl:List Sh)(many:Nat)(sp:List Nat)(E:List Ee)(R:List Re):Prop where
 nl:ns.length<=63
 a0:0<=at'
 s7:sp.length<=7
 K:zea kv names things shl many
 nn:names.Nodup
 nml:many<=names.length
 n8:names.length=8
 nlt:n < many
 sh: ∀s∈shl,i6 s
 se:shl≠ []
 sl:shl.length<=63
 te:things≠ []
 tl:things.length<=1000
 sn:sp.Nodup
 sm: ∀x∈sp,x < many
 ns':n∉sp
 nr:n∉R.map (·.1)
 dr: ∀x∈sp,x∉R.map (·.1)
 de: ∀x∈sp,x∉E.map (·.1)
 el:E.length+sp.length<=100
 rl:R.length+sp.length<=100
def fM (d:Nat):zV:=λxs st Q=> ∃(ns:List Int) (at':Int) (n:Nat) (a0:PO) (kv:List (z8×PV)) (names things:List Str) (shl:List Sh) (many:Nat) (sp:List Nat) (E:List Ee) (R:List Re) (m0:z5),
 xs= [.lst (ns.map PV.int),.int at',.obj 4,.int (n:Int)]/\st=G a0 kv (zC names) sp E R m0/\HP ns at' n kv names things shl many sp E R/\sp.length < d/\
 ∀sp' ks X E1 rs hd,LK shl (zC names) sp E sp' ks X E1 rs hd->(n=0->hd= [])->rs.length<=30->Q (.lst (hd.map zE)) (G a0 kv (zC names) sp' (E++E1) (R++X++ [(n,rs)]) m0)
theorem zic {K:Frag}{vs:List V}{H:Hp}{Q:VK}{E:XK}(h:yC K (fM 0) vs H Q E):False:=by
 obtain⟨_,_,_,_,_,_,⟨_,_,_,_,_,_,_,_,_,_,_,_,_,_,_,_,h1,_⟩,_⟩:=h;omega
theorem zlf {E E1:List Ee}{x:Nat}{l:List Nat}(he:x∉E.map (·.1))(hn:(E1.map (·.1)).Nodup)(hm:(x,l)∈E1):zO (vF (E++E1)) (.inl (x:Int))=some (.lst (l.map zE)):=by
 have go: ∀{L:List Ee},(L.map (·.1)).Nodup->(x,l)∈L->zO (vF L) (.inl (x:Int))=some (.lst (l.map zE)):=by
  intro L
  induction L with
  | nil=>intro _ h;simp at h
  | cons p L ih=>
   intro hn hm;rw[bb,di]at hn;unfold vF zO;rw[bb,cx];rcases bd.mp hm with rfl | hm
   ·rw[decide_eq_true rfl];rfl
   ·have:((p.1:Int))≠(x:Int):=λz=>hn.1 (ca.mpr ⟨_,hm,(nw z).symm⟩)
    rw[decide_eq_false (λz=>this (kh z))];exact ih hn.2 hm
 have go2: ∀{L:List Ee},x∉L.map (·.1)->zO (vF (L++E1)) (.inl (x:Int))=zO (vF E1) (.inl (x:Int)):=by
  intro L
  induction L with
  | nil=>intro _;rfl
  | cons p L ih=>
   intro h;rw[bb,bd,not_or]at h;unfold vF zO;rw[gq,bb,cx];have:decide ((Sum.inl (p.1:Int):z8)=Sum.inl (x:Int))=false:=decide_eq_false (λz=>h.1 (nw (kh z)).symm);show Option.map _ (match decide ((Sum.inl (p.1:Int):z8)=Sum.inl (x:Int))with | true=>_ | false=>_)=_;rw[this];exact ih h.2
 rw[go2 he,go hn hm]
theorem zr3 {E E1:List Ee}(hn:(E1.map (·.1)).Nodup)(hv:jG E1){x:Nat}(hx:x∈E1.map (·.1)):1<=wE (E++E1) x:=by
 obtain⟨⟨y,l⟩,hm,rfl⟩:=ca.mp hx;rw[zd7 hn hv hm];omega
theorem zdh {f:Nat->Nat} : ∀{l:List Nat},(∀x∈l,1<=f x)->l.length<=(l.map f).sum
 | [],_=>ak _
 | x::l,h=>by
  have h1:=h x (bz ..);have h2:=zdh (l:=l) λy hy=>h y (ce _ hy);rw[bb,pr,cg];omega
theorem zio {f:Nat->Nat}{x:Nat} : ∀{l:List Nat},x∈l->f x<=(l.map f).sum
 | y::l,h=>by
  rw[bb,pr];rcases bd.mp h with rfl | h
  ·omega
  ·have:=zio (f:=f) h;omega
section
variable {shl:List Sh} {nm:Nat->Str} {sp:List Nat} {E:List Ee} {sp' ks:List Nat} {X:List Re} {E1:List Ee} {rs:List Rh} {hd:List Nat}
theorem LI.len (I:LI shl nm sp E sp' ks X E1 rs hd):ks.length+sp'.length<=sp.length:=by
 have:=p7 I.nd I.sub
 rwa [af]at this
theorem LI.pos (I:LI shl nm sp E sp' ks X E1 rs hd){x:Nat}(hx:x∈ks):1<=wE (E++E1) x:=zr3 (by rw[I.ek];exact(bp.mp I.nd).1) I.ev (by rw[I.ek];exact hx)
theorem LI.hl (I:LI shl nm sp E sp' ks X E1 rs hd):hd.length<=ks.length:=bq (zdh λx hx=>I.pos (I.hk x hx)) I.wt
theorem LI.val (I:LI shl nm sp E sp' ks X E1 rs hd)(de: ∀x∈sp,x∉E.map (·.1)){x:Nat}(hx:x∈hd): ∃l:List Nat,l.length<=ks.length/\(x,l)∈E1/\zO (vF (E++E1)) (.inl (x:Int))=some (.lst (l.map zE)):=by
 have hk:=I.hk x hx;have hn:(E1.map (·.1)).Nodup:=by rw[I.ek];exact(bp.mp I.nd).1
 obtain⟨⟨y,l⟩,hm,e⟩:=ca.mp (I.ek▸hk);have e':y=x:=e;subst e';refine⟨l,?_,hm,zlf (de y (I.sub y (az _ hk))) hn hm⟩;have h1:=zd7 (E:=E) hn I.ev hm;have h2:=zio (f:=wE (E++E1)) hx;have h3:=I.wt;obtain⟨A,B,eA⟩:=jb hm;have h4:l.length<=(l.map (wE (E++E1))).sum:=zdh λz hz=>I.pos (by
  have:=I.ev A B y l eA z hz;rw[<- I.ek,eA,ao];exact az _ this)
 omega
end
theorem zlg {E:List Ee}{x:Nat}{l:List Nat}(h:x∉E.map (·.1)):wH (vF E) (.inl (x:Int)) (.lst (l.map zE))=vF (E++ [(x,l)]):=by
 rw[zcw]
 ·unfold vF;rw[ao];rfl
 ·unfold vF;rw[cy];intro z
  obtain⟨p,hp,e⟩:=ca.mp z;exact h (ca.mpr ⟨p,hp,nw (kh e)⟩)
theorem zpD {nm:Nat->Str}{R:List Re}{x:Nat}{rs:List Rh}(h:x∉R.map (·.1)):wH (vU nm R) (.inl (x:Int)) (xR (nm x,rs))=vU nm (R++ [(x,rs)]):=by
 rw[zcw]
 ·unfold vU;rw[ao];rfl
 ·unfold vU;rw[cy];intro z
  obtain⟨p,hp,e⟩:=ca.mp z;exact h (ca.mpr ⟨p,hp,nw (kh e)⟩)
theorem gB {names:List Str}{x:Nat}(h:x < names.length):names[x]?=some (zC names x):=by
 unfold zC;rw[List.getD_eq_getElem?_getD,am h];rfl
theorem lZ {names:List Str}(hn:names.Nodup){a b:Nat}(ha:a < names.length)(hb:b < names.length)(e:zC names a=zC names b):a=b:=
 (da ha hn).mp (by rw[gB ha,gB hb,e])
theorem zeT {l:List Nat}(hn:l.Nodup){i j:Nat}(hj:l[i]?=some j){x:Nat}(h1:x∈l.eraseIdx i):x∈l/\x≠j:=by
 refine⟨kj h1,λz=> ?_⟩;subst z;obtain⟨q,hq⟩:=ap.mp h1;rw[ug]at hq
 split at hq
 ·have:=(da (ad.mp hq).1 hn).mp (hq.trans hj.symm);omega
 ·have:=(da (ad.mp hq).1 hn).mp (hq.trans hj.symm);omega
theorem HP.kid {ns:List Int}{at':Int}{n:Nat}{kv:List (z8×PV)}{names things:List Str}{shl:List Sh}{many:Nat}{sp sp' ks:List Nat}{E E1:List Ee}{R X:List Re}{rs:List Rh}{hd:List Nat}(H:HP ns at' n kv names things shl many sp E R)(I:LI shl (zC names) sp E sp' ks X E1 rs hd){i j:Nat}(hj:sp'[i]?=some j):
  HP ns at' j kv names things shl many (sp'.eraseIdx i) (E++E1) (R++X):=by
 have hjs:j∈sp':=ap.mpr ⟨i,hj⟩;have hl:=I.len;have nd:=bp.mp I.nd;have er: ∀x∈sp'.eraseIdx i,x∈sp'/\x≠j:=λx hx=>zeT nd.2.1 hj hx;have hel:=ii sp' i;have h7:=H.s7;have ex:X.length=ks.length:=by rw[<- I.xk,aa]
 have ee:E1.length=ks.length:=by rw[<- I.ek,aa]
 have hr:=H.rl;have he:=H.el;have fresh: ∀x∈sp',x∉(R++X).map (·.1)/\x∉(E++E1).map (·.1):=λx hx=>by
  have hxs:=I.sub x (al _ hx);have hxk:x∉ks:=λz=>nd.2.2 x z x hx rfl;rw[ao,ao,I.xk,I.ek,av,av,not_or,not_or];exact⟨⟨H.dr x hxs,hxk⟩,H.de x hxs,hxk⟩
 exact{nl:=H.nl,a0:=H.a0,s7:=by omega,K:=H.K,nn:=H.nn,nml:=H.nml,n8:=H.n8,nlt:=H.sm j (I.sub j (al _ hjs)),sh:=H.sh,se:=H.se,sl:=H.sl,te:=H.te,tl:=H.tl,sn:=nd.2.1.sublist (List.eraseIdx_sublist ..),sm:=λx hx=>H.sm x (I.sub x (al _ (er x hx).1)),ns':=λz=>(er j z).2 rfl,nr:=(fresh j hjs).1,dr:=λx hx=>(fresh x (er x hx).1).1,de:=λx hx=>(fresh x (er x hx).1).2,el:=by rw[af];omega,rl:=by rw[af];omega}
theorem zlz {a0:PO}{kv:List (z8×PV)}{nm:Nat->Str}{sp:List Nat}{E:List Ee}{R:List Re}{m0:z5} :L4 (λa b w d=>G a0 kv nm sp E R (m0++ [z9 a b,.lst w,.lst d])) (m0.length+5) 4 (m0.length+6) (m0.length+7) 2 kv E:=⟨wF,wJ,vO,vP,vH,vQ,wV,vN⟩
theorem zg4 {ns:List Int}{at':Int}{n:Nat}{a0:PO}{kv:List (z8×PV)}{names things:List Str}{shl:List Sh}{many:Nat}{sp sp' ks:List Nat}{E E1:List Ee}{R X:List Re}{rs:List Rh}{hd:List Nat}{m0:z5}{a b:Int}{Q:K3}(H:HP ns at' n kv names things shl many sp E R)(I:LI shl (zC names) sp E sp' ks X E1 rs hd)(hr:rs.length<=1000)(hb:zZ a b)(hne:hd≠ [])
  (q: ∀(k x:Nat) (l:List Nat) a b,hd[k]?=some x->(x,l)∈E1->zZ a b->Q .non (G a0 kv (zC names) sp' (E++E1) (R++X) (m0++ [z9 a b,.lst ((rs++ [Rh.join (zC names x)]).map Rh.pv),.lst ((hd.eraseIdx k++l).map zE)]))):
  zdf [.obj (m0.length+5),.obj 4,.obj (m0.length+6),.obj (m0.length+7)] (G a0 kv (zC names) sp' (E++E1) (R++X) (m0++ [z9 a b,.lst (rs.map Rh.pv),.lst (hd.map zE)])) Q:=by
 have h7:=H.s7;have hl:=I.len;have hhl:=I.hl;refine⟨λa b w d=>G a0 kv (zC names) sp' (E++E1) (R++X) (m0++ [z9 a b,.lst w,.lst d]),_,4,_,_,2,kv,names,E++E1,a,b,rs.map Rh.pv,hd,rfl,rfl,zlz,hb,hne,by omega,by rw[aa];omega,⟨H.K.nms,H.K.ends,λx hx=>⟨bc (H.sm x (I.sub x (az _ (I.hk x hx)))) H.nml,?_⟩⟩,λk x l nm a b hk hn hv hb=> ?_⟩
 ·obtain⟨l,h1,_,h3⟩:=I.val H.de hx
  exact⟨l,by omega,h3⟩
 ·have hx:=ap.mpr ⟨k,hk⟩
  obtain⟨l',h1,h2,h3⟩:=I.val H.de hx;rw[hv]at h3;have el:l=l':=by
   have:l.map zE=l'.map zE:=PV.lst.inj (bx h3);have inj: ∀{u v:List Nat},u.map zE=v.map zE->u=v:=λ{u v} h=>by
    have:=congrArg (List.map λx:PV=>match x with | .int i=>i.toNat | _=>0) h;simpa [cy,Function.comp_def]using this
   exact inj this
  subst el;rw[gB (bc (H.sm x (I.sub x (az _ (I.hk x hx)))) H.nml)]at hn;cases hn;have:=q k x l a b hk h2 hb;rw[ao]at this;exact this
theorem gU (r:Rw):yR r.pv=true:=by
 obtain⟨g,d⟩:=r;cases g with
 | none=>exact cY d
 | some x=>rfl
theorem zcQ {ns:List Int}{at':Int}{n:Nat}{a0:PO}{kv:List (z8×PV)}{names things:List Str}{shl:List Sh}{many:Nat}{sp sp':List Nat}{E E1:List Ee}{R X:List Re}{w d:PO}{m0:z5}{a b:Int}{Q:K3}(H:HP ns at' n kv names things shl many sp E R)(hb:zZ a b)
  (q: ∀(r:Rw) a b,qQ shl r->zZ a b->Q r.pv (G a0 kv (zC names) sp' E1 X (m0++ [z9 a b,w,d]))):
  fN [.obj (m0.length+5),.tup [.lst (shl.map y6),.lst (shl.map y6)],.lst (things.map PV.str)] (G a0 kv (zC names) sp' E1 X (m0++ [z9 a b,w,d])) Q:=
 ⟨_,shl,things,a,b,rfl,wF,hb,H.sh,H.se,H.sl,H.te,H.tl,λr a b hr hb=>by rw[wJ];exact q r a b hr hb⟩
structure zee (sh:List Sn)(hs:List Hd):Prop where
 shn:(sh.map (·.1)).Nodup
 shl:sh.length<=100
 sd: ∀s∈sh,zF (wS s)<=12
 s2: ∀s∈sh,∃m b,s.2= [m,b]
 hn:(hs.map (·.1)).Nodup
 hl:hs.length<=8
 rl: ∀h∈hs,h.2.length<=30
 rk: ∃rk:Str->Nat,zjC (iY Rh.sp hs) (hs.map (·.1)) rk/\∀n∈hs.map (·.1),rk n<=7
 jn: ∀n∈hs.map (·.1),∀m∈iY Rh.jn hs n,m∈hs.map (·.1)
 sn:((n4 hs).map (·.1)).Nodup
 sl:(n4 hs).length<=1000
 rd: ∀h∈hs,∀r∈h.2,zcR r
theorem sF: ∀t:Tm Lf,zF (t.pv Lf.pv)<=t.rank+1
 | .num k=>by unfold Tm.pv;simp[zF,dpts]
 | .lf l=>by cases l <;> (unfold Tm.pv Lf.pv;simp[zF,dpts])
 | .op s a b=>by
  have h1:=sF a;have h2:=sF b;unfold Tm.pv Tm.rank;simp only[zF,dpts];omega
 | .ite a b c=>by
  have h1:=sF a;have h2:=sF b;have h3:=sF c;unfold Tm.pv Tm.rank;simp only[zF,dpts];omega
theorem zkW {d:Dd}(h: ∀x,d.tm=some x->x.rank < 7):zF d.pv<=9:=by
 cases d with
 | bag up a b=>cases up <;> (unfold Dd.pv;simp[zF,dpts])
 | tell x=>have h1:zF (uV x)<=x.rank+1:=sF x;have h2:=h x rfl;unfold Dd.pv;simp only[zF,dpts];omega
 | set a x=>have h1:zF (uV x)<=x.rank+1:=sF x;have h2:=h x rfl;unfold Dd.pv;simp only[zF,dpts];omega
 | more a x=>have h1:zF (uV x)<=x.rank+1:=sF x;have h2:=h x rfl;unfold Dd.pv;simp only[zF,dpts];omega
 | lay a x b=>have h1:zF (uV x)<=x.rank+1:=sF x;have h2:=h x rfl;unfold Dd.pv;simp only[zF,dpts];omega
 | drop a x=>have h1:zF (uV x)<=x.rank+1:=sF x;have h2:=h x rfl;unfold Dd.pv;simp only[zF,dpts];omega
theorem zpE {shl:List Sh}{r:Rh}(h:jY shl r):zcR r:=by
 unfold zcR;cases r with
 | split n=>unfold Rh.pv;simp[zF,dpts]
 | join n=>unfold Rh.pv;simp[zF,dpts]
 | pl r=>
  obtain⟨g,d⟩:=r;have hd:=zkW (d:=d) λx hx=>(h.2.1 x hx).2;cases g with
  | none=>show zF d.pv<=40;omega
  | some x=>
   have h1:zF (uV x)<=x.rank+1:=sF x;have h2:=(h.1 x rfl).2;show zF (.tup [.str "when",uV x,d.pv])<=40;simp only[zF,dpts];omega
def rQ (nm:Nat->Str)(p:Re):Hd:=(nm p.1,p.2)
theorem zgq {l A B:List Str}{x:Str}(e:l=A++B)(h:x∈A):l.idxOf x < A.length:=by
 rw[e,qi,if_pos h];exact ik h
theorem zo4 {shl:List Sh}{names:List Str}{sp ks sp':List Nat}{X:List Re}{E1:List Ee}{rs:List Rh}{hd:List Nat}{sh:List Sn}{hs:List Hd}(hnn:names.Nodup)(hsp: ∀x∈sp,x < names.length/\x≠0)(h8:0 < names.length)(h7:sp.length<=7)(I:LI shl (zC names) sp [] sp' ks X E1 rs hd)(hrl:rs.length<=30)
  (shn:(sh.map (·.1)).Nodup) (shl':sh.length<=100) (sd: ∀s∈sh,zF (wS s)<=12) (s2: ∀s∈sh,∃m b,s.2= [m,b]) (hp:hs.Perm ((X++ [(0,rs)]).map (rQ (zC names)))):zee sh hs:=by
 have hkl:=I.len;have hks: ∀x∈ks,x∈sp:=λx hx=>I.sub x (az _ hx);have hin: ∀x∈ks++ [0],x < names.length:=λx hx=>by
  rcases av.mp hx with hx | hx
  ·exact(hsp x (hks x hx)).1
  ·rw[aq.mp hx];exact h8
 have hids:(X++ [((0:Nat),rs)]).map (·.1)=ks++ [0]:=by rw[ao,I.xk];rfl
 have hnd:(ks++ [0]).Nodup:=bp.mpr ⟨(bp.mp I.nd).1,by simp,λa ha b hb=>by rw[aq.mp hb];exact(hsp a (hks a ha)).2⟩;have hnm:((X++ [((0:Nat),rs)]).map (rQ (zC names))).map (·.1)=(ks++ [0]).map (zC names):=by rw[<- hids,cy,cy];rfl
 have hndn:((ks++ [0]).map (zC names)).Nodup:=by
  refine cz.mpr λi j hi hj hij e=> ?_;rw[mh,mh]at e;rw[aa]at hi hj;have:=lZ hnn (hin _ (gz hi)) (hin _ (gz hj)) e;exact cz.mp hnd i j hi hj hij this
 have hn:(hs.map (·.1)).Nodup:=by
  have:=hp.map (·.1);rw[hnm]at this;exact this.nodup_iff.mpr hndn
 have hmem: ∀x,x∈hs.map (·.1)↔x∈(ks++ [0]).map (zC names):=λx=>by
  have:=hp.map (·.1);rw[hnm]at this;exact this.mem_iff
 have hof: ∀h∈hs,∃p∈X++ [((0:Nat),rs)],h=rQ (zC names) p:=λh hh=>by
  obtain⟨p,hp',e⟩:=ca.mp (hp.mem_iff.mp hh);exact⟨p,hp',e.symm⟩
 have hall: ∀p∈X++ [((0:Nat),rs)],(∀r∈p.2,jY shl r)/\p.2.length<=30/\(∀m∈tg p.2,∃j∈ks,m=zC names j)/\(∀r∈p.2,∀m,r.jn=some m->∃j∈ks,m=zC names j)/\(tg p.2).Nodup:=λp hp=>by
  rcases av.mp hp with hp | hp
  ·refine⟨(I.rx p hp).1,(I.rx p hp).2,λm hm=>I.ti m (az _ (ji.mpr ⟨p,hp,hm⟩)),I.jx p hp,?_⟩
   have h1:=(bp.mp I.tn).1;obtain⟨A,B,e⟩:=jb hp;rw[e,zdr]at h1;have h2:=(bp.mp h1).2.1;unfold tgs at h2;rw[fi]at h2;exact(bp.mp h2).1
  ·rw[aq.mp hp]
   exact⟨I.ro,hrl,λm hm=>I.ti m (al _ hm),I.jn,(bp.mp I.tn).2.1⟩
 have hks7:(ks.map (zC names)).length<=7:=by rw[aa];omega
 have sub1: ∀{m:Str},(∃j∈ks,m=zC names j)->m∈hs.map (·.1):=λ{m} ⟨j,hj,e⟩=>(hmem m).mpr (by rw[e];exact br (az _ hj));have hSP:(n4 hs).map (·.1)=hs.flatMap λh=>tg h.2:=by
  unfold n4;rw[List.map_flatMap];refine iT λh _=> ?_;unfold SP1 tg;rw[cy,<- zig (k:=0)];rfl
 have hTP:(hs.flatMap λh=>tg h.2).Perm (tgs X++tg rs):=by
  have h1:=hp.flatMap_right (λh:Hd=>tg h.2);refine h1.trans (mn ?_);rw[ao,km,rj];unfold tgs rQ;simp
 have hsn:((n4 hs).map (·.1)).Nodup:=by rw[hSP];exact hTP.nodup_iff.mpr I.tn
 refine⟨shn,shl',sd,s2,hn,?_,λh hh=> ?_,⟨λn=>((ks++ [0]).map (zC names)).idxOf n,⟨λn hn' m hm=> ?_,λn hn' m hm=> ?_,λn hn'=> ?_⟩,λn hn'=> ?_⟩,λn hn' m hm=> ?_,hsn,?_,λh hh r hr=> ?_⟩
 ·rw[hp.length_eq,aa,af,bi]
  have:X.length=ks.length:=by rw[<- I.xk,aa]
  omega
 ·obtain⟨p,hp',rfl⟩:=hof h hh;exact(hall p hp').2.1
 ·obtain⟨h,hh,rfl⟩:=ca.mp hn'
  rw[lT hn hh]at hm;obtain⟨p,hp',rfl⟩:=hof h hh;exact sub1 ((hall p hp').2.2.1 m hm)
 ·obtain⟨h,hh,rfl⟩:=ca.mp hn'
  rw[lT hn hh]at hm;obtain⟨p,hp',rfl⟩:=hof h hh;obtain⟨k,r⟩:=p;show((ks++ [0]).map (zC names)).idxOf m < ((ks++ [0]).map (zC names)).idxOf (zC names k);obtain⟨A,B,e⟩:=jb hp';have eids:ks++ [0]=A.map (·.1)++k::B.map (·.1):=by rw[<- hids,e,ao];rfl
  have hmA:m∈(A.map (·.1)).map (zC names):=by
   rcases qK e with⟨B',h1,_⟩ | ⟨A',rfl,h2⟩
   ·obtain⟨j,hj,e'⟩:=I.er A k r B' h1 m hm
    rw[e'];exact br hj
   ·cases A' with
    | nil=>
     cases h2;obtain⟨j,hj,e'⟩:=(hall _ hp').2.2.1 m hm;rw[e',db,I.xk];exact br hj
    | cons q A'=>cases A' <;> cases h2
  have h1:=zgq (l:=(ks++ [0]).map (zC names)) (A:=(A.map (·.1)).map (zC names)) (B:=(k::B.map (·.1)).map (zC names)) (by rw[eids,ao]) hmA;have h2:((A.map (·.1)).map (zC names)).length<=((ks++ [0]).map (zC names)).idxOf (zC names k):=by
   rw[eids,ao]at hndn⊢
   rw[qi,if_neg (λz=>(bp.mp hndn).2.2 _ z _ (by rw[bb];exact bz ..) rfl)];omega
  omega
 ·obtain⟨h,hh,rfl⟩:=ca.mp hn'
  rw[lT hn hh];obtain⟨p,hp',rfl⟩:=hof h hh;have h1:=hall p hp';have:=p7 (l:=tg p.2) (m:=ks.map (zC names)) h1.2.2.2.2 λm hm=>let⟨j,hj,e⟩:=h1.2.2.1 m hm;by rw[e];exact br hj
  exact bq this hks7
 ·have:=ik ((hmem n).mp hn')
  rw[aa,af,bi]at this;show((ks++ [0]).map (zC names)).idxOf n<=7;omega
 ·obtain⟨h,hh,rfl⟩:=ca.mp hn'
  rw[lT hn hh]at hm;obtain⟨p,hp',rfl⟩:=hof h hh;obtain⟨r,hr,e⟩:=dm.mp hm;exact sub1 ((hall p hp').2.2.2.1 r hr m e)
 ·have h1:(n4 hs).length=(tgs X++tg rs).length:=by rw[<- aa (f:=(·.1)),hSP,hTP.length_eq]
  have h2:=p7 (l:=tgs X++tg rs) (m:=ks.map (zC names)) I.tn λm hm=>let⟨j,hj,e⟩:=I.ti m hm;by rw[e];exact br hj
  omega
 ·obtain⟨p,hp',rfl⟩:=hof h hh
  exact zpE ((hall p hp').1 r hr)
def jC (en:Str->List Str)(x:Str)(r:Rh):Prop:=r= .split x∨∃y,r= .join y/\x∈en y
theorem zl4 {en:Str->List Str}{hd:List Str}{x:Str}{r:Rh} :x∈iW en hd r↔(x∈hd/\r≠ .join x)∨jC en x r:=by
 unfold jC;cases r with
 | split y=>
  show x∈hd++ [y]↔_;rw[av,aq];constructor
  ·rintro(h | rfl)
   ·exact .inl ⟨h,λz=>by cases z⟩
   ·exact .inr (.inl rfl)
  ·rintro(h | h | ⟨_,h,_⟩)
   ·exact .inl h.1
   ·cases h;exact .inr rfl
   ·cases h
 | join y=>
  show x∈hd.filter _++en y↔_;rw[av,ij];constructor
  ·rintro(h | h)
   ·exact .inl ⟨h.1,λz=>by cases z;simp at h⟩
   ·exact .inr (.inr ⟨y,rfl,h⟩)
  ·rintro(h | h | ⟨_,h,h'⟩)
   ·exact .inl ⟨h.1,by simpa using λz:x=y=>h.2 (by rw[z])⟩
   ·cases h
   ·cases h;exact .inr h'
 | pl r=>
  show x∈hd↔_;constructor
  ·exact λh=> .inl ⟨h,λz=>by cases z⟩
  ·rintro(h | h | ⟨_,h,_⟩)
   ·exact h.1
   ·cases h
   ·cases h
theorem zgk {en:Str->List Str}{x:Str} : ∀(rs:List Rh) (acc:List Str),x∈rs.foldl (iW en) acc↔(x∈acc/\Rh.join x∉rs)∨∃A r B,rs=A++r::B/\jC en x r/\Rh.join x∉B
 | [],acc=>by
  constructor
  ·exact λh=> .inl ⟨h,by simp⟩
  ·rintro(h | ⟨A,r,B,h,_⟩)
   ·exact h.1
   ·cases A <;> cases h
 | r::rs,acc=>by
  rw[sv,zgk rs,zl4];constructor
  ·rintro(⟨h | h,h2⟩ | ⟨A,r',B,rfl,h⟩)
   ·refine .inl ⟨h.1,λz=> ?_⟩
    rcases bd.mp z with z | z
    ·exact h.2 z.symm
    ·exact h2 z
   ·exact .inr ⟨[],r,rs,rfl,h,h2⟩
   ·exact .inr ⟨r::A,r',B,rfl,h⟩
  ·rintro(⟨h,h2⟩ | ⟨A,r',B,h,h2⟩)
   ·rw[bd,not_or]at h2
    exact .inl ⟨.inl ⟨h,λz=>h2.1 z.symm⟩,h2.2⟩
   ·cases A with
    | nil=>cases h;exact .inl ⟨.inr h2.1,h2.2⟩
    | cons q A=>cases h;exact .inr ⟨A,r',B,rfl,h2⟩
def Ent (en:Str->List Str)(x:Str)(rs:List Rh)(i:Nat):Prop:= ∃r,rs[i]?=some r/\jC en x r
theorem zgj {en:Str->List Str}{x:Str}{rs:List Rh}{n:Nat} :x∈uR en (rs.take n)↔∃i:Nat,i < n/\Ent en x rs i/\∀j:Nat,i < j->j < n->rs[j]?≠some (.join x):=by
 unfold uR;rw[zgk];constructor
 ·rintro(h | ⟨A,r,B,h,h2,h3⟩)
  ·exact absurd h.1 (by simp)
  ·have e: ∀k:Nat,(rs.take n)[k]?=(A++r::B)[k]?:=λk=>by rw[h]
   have eA:=e A.length;rw[aj (ak _),cv,jg,pi]at eA
   split at eA
   ·next hA=>
    refine⟨A.length,hA,⟨r,eA,h2⟩,λj h4 h5 z=>h3 ?_⟩;have ej:=e j;rw[pi,if_pos h5,z,aj (by omega)]at ej;obtain⟨q,hq⟩: ∃q,j - A.length=q+1:=⟨j - A.length - 1,by omega⟩;rw[hq,fb]at ej;exact ap.mpr ⟨q,ej.symm⟩
   ·cases eA
 ·rintro⟨i,hi,⟨r,h1,h2⟩,h3⟩
  right
  have hl:i < rs.length:=(ad.mp h1).1;have hl2:i < (rs.take n).length:=by rw[cf];omega
  refine⟨(rs.take n).take i,r,(rs.take n).drop (i+1),?_,h2,λz=> ?_⟩
  ·have:(rs.take n)[i]=r:=by rw[List.getElem_take];exact(ad.mp h1).2
   rw[<- this,iu,gx]
  ·obtain⟨q,hq⟩:=ap.mp z
   rw[List.getElem?_drop,pi]at hq
   split at hq
   ·next hk=>exact h3 _ (by omega) hk hq
   ·cases hq
theorem zrj {g:Rh->Option Str}{hs:List Hd}(hn:(hs.flatMap λh=>h.2.filterMap g).Nodup){h k:Hd}{i j:Nat}{r r':Rh}{y:Str}(ha:h∈hs)(hb:k∈hs)(hi:h.2[i]?=some r)(hj:k.2[j]?=some r')(e:g r=some y)(e':g r'=some y):h=k/\i=j:=by
 unfold List.Nodup at hn;rw[List.pairwise_flatMap]at hn;obtain⟨a,ha⟩:=ap.mp ha;obtain⟨b,hb⟩:=ap.mp hb;obtain⟨a1,a2⟩:=ad.mp ha;obtain⟨b1,b2⟩:=ad.mp hb;have p:=cz.mp hn.2;have m1:y∈h.2.filterMap g:=dm.mpr ⟨r,ap.mpr ⟨i,hi⟩,e⟩;have m2:y∈k.2.filterMap g:=dm.mpr ⟨r',ap.mpr ⟨j,hj⟩,e'⟩;have hab:a=b:=by
  rcases wv a b with z | z | z
  ·exact absurd rfl (p a b a1 b1 z y (by rw[a2];exact m1) y (by rw[b2];exact m2))
  ·exact z
  ·exact absurd rfl (p b a b1 a1 z y (by rw[b2];exact m2) y (by rw[a2];exact m1))
 subst hab;have hk:h=k:=a2.symm.trans b2;subst hk;refine⟨rfl,?_⟩;have p2:=hn.1 h (ap.mpr ⟨a,ha⟩);rw[List.pairwise_filterMap]at p2;have p3:=cz.mp p2;obtain⟨i1,i2⟩:=ad.mp hi;obtain⟨j1,j2⟩:=ad.mp hj;rcases wv i j with z | z | z
 ·exact absurd rfl (p3 i j i1 j1 z y (by rw[i2];exact e) y (by rw[j2];exact e'))
 ·exact z
 ·exact absurd rfl (p3 j i j1 i1 z y (by rw[j2];exact e') y (by rw[i2];exact e))
structure sD (hs:List Hd)(en:Str->List Str)(rk:Str->Nat):Prop where
 hb: ∀h∈hs,uR en h.2=en h.1/\HV en h.2
 root: ∀h t,hs=h::t->en h.1= []
 jn:(hs.flatMap λh=>h.2.filterMap Rh.jn).Nodup
 je: ∀y,y∈hs.flatMap (λh=>h.2.filterMap Rh.jn)↔y∈hs.tail.map (·.1)
 jr: ∀h∈hs,∀y,Rh.join y∈h.2->rk y < rk h.1
 r7: ∀h∈hs,rk h.1<=7
 sn:(hs.flatMap λh=>h.2.filterMap Rh.sp).Nodup
 st: ∀y,y∈hs.flatMap (λh=>h.2.filterMap Rh.sp)->y∈hs.tail.map (·.1)
section
variable {hs:List Hd} {en:Str->List Str} {rk:Str->Nat}
theorem sD.split (G:sD hs en rk){x:Str} : ∀(m:Nat) (h:Hd),rk h.1<=m->h∈hs->∀n,x∈uR en (h.2.take n)->∃k∈hs,∃i:Nat,k.2[i]?=some (Rh.split x):=by
 intro m
 induction m with
 | zero | succ m ih=>
  intro h hr hh n hx;obtain⟨i,_,⟨r,h1,h2⟩,_⟩:=zgj.mp hx;rcases h2 with rfl | ⟨y,rfl,h2⟩
  ·exact⟨h,hh,i,h1⟩
  ·have hm:=ap.mpr ⟨i,h1⟩
   have hl:=G.jr h hh y hm;have hy:=(G.je y).mp (ji.mpr ⟨h,hh,dm.mpr ⟨_,hm,rfl⟩⟩);obtain⟨k,hk,rfl⟩:=ca.mp hy;have hk':=kg hk
   first
    | (exfalso;omega)
    | (refine ih k (by omega) hk' k.2.length ?_
       rw[fk,(G.hb k hk').1];exact h2)
theorem sD.tail (G:sD hs en rk){x:Str}{h:Hd}(hh:h∈hs){n:Nat}(hx:x∈uR en (h.2.take n)):x∈hs.tail.map (·.1):=by
 obtain⟨k,hk,i,e⟩:=G.split _ h (ak _) hh n hx;exact G.st x (ji.mpr ⟨k,hk,dm.mpr ⟨_,ap.mpr ⟨i,e⟩,rfl⟩⟩)
end
def mX (hs:List Hd)(rk:Str->Nat):Prop:= ∀h∈hs,∀y,Rh.split y∈h.2->rk y < rk h.1
def lK (nm:Nat->Str)(E1:List Ee)(s:Str):List Str:=((E1.find? λp=>nm p.1==s).map λp=>p.2.map nm).getD []
theorem zlZ {α:Type}{l:List (Nat×α)}(hn:(l.map (·.1)).Nodup){p q:Nat×α}(hp:p∈l)(hq:q∈l)(e:p.1=q.1):p=q:=by
 obtain⟨i,hi⟩:=ap.mp hp;obtain⟨j,hj⟩:=ap.mp hq;have hil:=(ad.mp hi).1;have:=(da (by rw[aa];exact hil) hn).mp (show(l.map (·.1))[i]?=(l.map (·.1))[j]? by rw[aw,aw,hi,hj];exact congrArg some e);subst this;exact bx (hi.symm.trans hj)
theorem zo6 {shl:List Sh}{names:List Str}{sp ks sp':List Nat}{X:List Re}{E1:List Ee}{rs:List Rh}{hs:List Hd}(hnn:names.Nodup)(hsp: ∀x∈sp,x < names.length/\x≠0)(h8:0 < names.length)(h7:sp.length<=7)(I:LK shl (zC names) sp [] sp' ks X E1 rs [])(hp:hs.Perm (X.map (rQ (zC names)))):
  ∃en rk,sD ((zC names 0,rs)::hs) en rk/\mX ((zC names 0,rs)::hs) rk:=by
 have hkl:=I.len;have hks: ∀x∈ks,x < names.length/\x≠0:=λx hx=>hsp x (I.sub x (az _ hx));have hek: ∀p∈E1,p.1∈ks:=λp hp=>by rw[<- I.ek];exact br hp
 have hn:(E1.map (·.1)).Nodup:=by rw[I.ek];exact(bp.mp I.nd).1
 have hnk:(ks++ [0]).Nodup:=bp.mpr ⟨(bp.mp I.nd).1,by simp,λa ha b hb=>by rw[aq.mp hb];exact(hks a ha).2⟩;have hin: ∀x∈ks++ [0],x < names.length:=λx hx=>by
  rcases av.mp hx with hx | hx
  ·exact(hks x hx).1
  ·rw[aq.mp hx];exact h8
 have hndn:((ks++ [0]).map (zC names)).Nodup:=by
  refine cz.mpr λi j hi hj hij e=> ?_;rw[mh,mh]at e;rw[aa]at hi hj;have:=lZ hnn (hin _ (gz hi)) (hin _ (gz hj)) e;exact cz.mp hnk i j hi hj hij this
 have agr:oV (zC names) E1 (lK (zC names) E1):=λp hp=>by
  unfold lK;cases hf:E1.find? (λq=>zC names q.1==zC names p.1)with
  | none=>exact absurd (nc.mp hf p hp) (by simp)
  | some q=>
   have h1:=List.mem_of_find?_eq_some hf;have h2:zC names q.1=zC names p.1:=by simpa using List.find?_some hf
   rw[zlZ hn h1 hp (lZ hnn (hks _ (hek q h1)).1 (hks _ (hek p hp)).1 h2)];rfl
 have en0:lK (zC names) E1 (zC names 0)= []:=by
  unfold lK;rw[nc.mpr λp hp z=>(hks _ (hek p hp)).2 (lZ hnn (hks _ (hek p hp)).1 h8 (by simpa using z))]
  rfl
 obtain⟨hb1,hb2⟩:=I.hb _ agr;obtain⟨js,p1,p2⟩:=I.pj;rw[xn,lq]at p1;have hnm:(hs.map (·.1)).Perm (ks.map (zC names)):=by
  have:=hp.map (·.1);rw[cy,<- I.xk]at *;rw[cy];exact this
 have hjp:(((zC names 0,rs)::hs).flatMap λh=>h.2.filterMap Rh.jn).Perm (ks.map (zC names)):=by
  refine List.Perm.trans ?_ (p2.trans (p1.map _));rw[fi];refine fq.trans (ga _ ?_);refine(hp.flatMap_right _).trans (mn ?_);rw[rj];rfl
 have hsp':(((zC names 0,rs)::hs).flatMap λh=>h.2.filterMap Rh.sp).Perm (tgs X++tg rs):=by
  rw[fi];refine fq.trans (ga _ ?_);refine(hp.flatMap_right _).trans (mn ?_);rw[rj];rfl
 have hkn:(ks.map (zC names)).Nodup:=by rw[ao]at hndn;exact(bp.mp hndn).1
 have hof: ∀h∈(zC names 0,rs)::hs,∃p∈X++ [((0:Nat),rs)],h=rQ (zC names) p:=λh hh=>by
  rcases bd.mp hh with rfl | hh
  ·exact⟨(0,rs),by simp,rfl⟩
  ·obtain⟨p,hp',e⟩:=ca.mp (hp.mem_iff.mp hh)
   exact⟨p,az _ hp',e.symm⟩
 have hids:(X++ [((0:Nat),rs)]).map (·.1)=ks++ [0]:=by rw[ao,I.xk];rfl
 have low: ∀h∈(zC names 0,rs)::hs,∀y,(Rh.join y∈h.2∨Rh.split y∈h.2)->((ks++ [0]).map (zC names)).idxOf y < ((ks++ [0]).map (zC names)).idxOf h.1:=λh hh y hy=>by
  obtain⟨⟨k,r⟩,hp',rfl⟩:=hof h hh;show((ks++ [0]).map (zC names)).idxOf y < ((ks++ [0]).map (zC names)).idxOf (zC names k);obtain⟨A,B,e⟩:=jb hp';have eids:ks++ [0]=A.map (·.1)++k::B.map (·.1):=by rw[<- hids,e,ao];rfl
  have hmA:y∈(A.map (·.1)).map (zC names):=by
   rcases qK e with⟨B',h1,_⟩ | ⟨A',rfl,h2⟩
   ·rcases hy with hy | hy
    ·obtain⟨j,hj,e'⟩:=I.je A k r B' h1 y (dm.mpr ⟨_,hy,rfl⟩)
     rw[e'];exact br hj
    ·obtain⟨j,hj,e'⟩:=I.er A k r B' h1 y (dm.mpr ⟨_,hy,rfl⟩)
     rw[e'];exact br hj
   ·cases A' with
    | nil=>
     cases h2;rw[db,I.xk];rcases hy with hy | hy
     ·obtain⟨j,hj,e'⟩:=I.jn _ hy y rfl
      rw[e'];exact br hj
     ·obtain⟨j,hj,e'⟩:=I.ti y (al _ (dm.mpr ⟨_,hy,rfl⟩))
      rw[e'];exact br hj
    | cons q A'=>cases A' <;> cases h2
  have h1:=zgq (l:=(ks++ [0]).map (zC names)) (A:=(A.map (·.1)).map (zC names)) (B:=(k::B.map (·.1)).map (zC names)) (by rw[eids,ao]) hmA;have h2:((A.map (·.1)).map (zC names)).length<=((ks++ [0]).map (zC names)).idxOf (zC names k):=by
   rw[eids,ao]at hndn⊢
   rw[qi,if_neg (λz=>(bp.mp hndn).2.2 _ z _ (by rw[bb];exact bz ..) rfl)];omega
  omega
 refine⟨lK (zC names) E1,λn=>((ks++ [0]).map (zC names)).idxOf n,⟨λh hh=> ?_,λh t e=> ?_,hjp.nodup_iff.mpr hkn,λy=>(hjp.mem_iff).trans hnm.symm.mem_iff,λh hh y hy=>low h hh y (.inl hy),λh hh=> ?_,hsp'.nodup_iff.mpr I.tn,λy hy=> ?_⟩,λh hh y hy=>low h hh y (.inr hy)⟩
 ·rcases bd.mp hh with rfl | hh
  ·exact⟨by rw[en0];exact hb1.symm,hb2⟩
  ·obtain⟨p,hp',rfl⟩:=ca.mp (hp.mem_iff.mp hh)
   exact I.hx _ agr p hp'
 ·cases e;exact en0
 ·obtain⟨p,hp',rfl⟩:=hof h hh
  have:zC names p.1∈(ks++ [0]).map (zC names):=br (by rw[<- hids];exact br hp');have:=ik this;rw[aa,af,bi]at this;show((ks++ [0]).map (zC names)).idxOf (zC names p.1)<=7;omega
 ·obtain⟨j,hj,e⟩:=I.ti y (hsp'.mem_iff.mp hy)
  show y∈hs.map (·.1);rw[e];exact hnm.mem_iff.mpr (br hj)
def zqp:zV:=λxs st Q=> ∃(ns:List Int) (hands:Int),xs= [.lst (ns.map PV.int),.int 1,lU,.bl false,.int hands]/\st= []/\ns.length<=63/\1<=hands/\hands<=8/\∀(sh:List Sn) (h0:Hd) (hs:List Hd),zee sh (h0::hs)->(∃en rk,sD (h0::hs) en rk/\mX (h0::hs) rk)->Q (vT sh (h0::hs)) []
theorem oT {k:z8}{v:PV}{r:List (z8×PV)} :zO ((k,v)::r) k=some v:=by unfold zO;rw[cx,decide_eq_true rfl];rfl
theorem uB {k k':z8}{v:PV}{r:List (z8×PV)}(h:decide (k'=k)=false):zO ((k',v)::r) k=zO r k:=by unfold zO;rw[cx,h]
def wQ (nm:Nat->Str)(Y:List Re)(k:Nat):Option Hd:=(Y.find? λp=>p.1==k).map (rQ nm)
theorem hU {nm:Nat->Str}{k:Nat} : ∀{Y:List Re},zO (vU nm Y) (.inl (k:Int))=(wQ nm Y k).map xR
 | []=>rfl
 | p::Y=>by
  unfold vU wQ;rw[bb,cx];by_cases e:p.1=k
  ·subst e
   rw[oT,beq_self_eq_true];rfl
  ·have hd:decide ((Sum.inl (p.1:Int):z8)=Sum.inl (k:Int))=false:=decide_eq_false (λz=>e (nw (kh z)))
   rw[uB hd,show(p.1==k)=false by simpa using e];exact hU
theorem iS {α β:Type}{f g:α->Option β} : ∀{l:List α},(∀x∈l,f x=g x)->l.filterMap f=l.filterMap g
 | [],_=>rfl
 | x::l,h=>by rw[cn,cn,h x (bz ..),iS λy hy=>h y (ce _ hy)]
theorem zg_ {nm:Nat->Str} : ∀{X:List Re} {L:List Nat},(X.map (·.1)).Nodup->L.Nodup->(∀k∈X.map (·.1),k∈L)->(L.filterMap (wQ nm X)).Perm (X.map (rQ nm))
 | [],L,_,_,_=>by
  have:L.filterMap (wQ nm [])= []:=by rw[List.filterMap_eq_nil_iff];intro a _;rfl
  rw[this];exact List.Perm.refl _
 | p::X,L,hx,hL,hs=>by
  rw[bb,di]at hx;have hp:p.1∈L:=hs p.1 (by rw[bb];exact bz ..);have h1:(L.filterMap (wQ nm (p::X))).Perm ((p.1::L.erase p.1).filterMap (wQ nm (p::X))):=(List.perm_cons_erase hp).filterMap _;refine h1.trans ?_;have e1:wQ nm (p::X) p.1=some (rQ nm p):=by unfold wQ;rw[cx,beq_self_eq_true];rfl
  have e2:(L.erase p.1).filterMap (wQ nm (p::X))=(L.erase p.1).filterMap (wQ nm X):=by
   refine iS λk hk=> ?_;have hne:p.1≠k:=λz=>by rw[<- z]at hk;exact(List.Nodup.not_mem_erase hL) hk
   unfold wQ;rw[cx,show(p.1==k)=false by simpa using hne]
  rw[cn,e1,e2,bb];refine List.Perm.cons _ (zg_ hx.2 (hL.erase _) λk hk=> ?_);exact(vf λ(z:k=p.1)=>hx.1 (z▸hk)).mpr (hs k (by rw[bb];exact ce _ hk))
theorem zms {nm:Nat->Str}{X:List Re}{rs:List Rh}{k:Nat}(h:k≠0):wQ nm (X++ [(0,rs)]) k=wQ nm X k:=by
 unfold wQ;rw[wx];have:([((0:Nat),rs)].find? λp=>p.1==k)=none:=by rw[cx,show((0:Nat)==k)=false by simpa using h.symm];rfl
 rw[this,Option.or_none]
def vD (m:Nat):List Nat:=(List.range m).map (· +1)
theorem zid (m:Nat):(vD m).Nodup:=by
 unfold vD;refine cz.mpr λi j hi hj hij=> ?_;simp only[mh,ph];omega
theorem mG {m x:Nat} :x∈vD m↔1<=x/\x<=m:=by
 unfold vD;rw[ca];constructor
 ·rintro⟨i,hi,rfl⟩;rw[dk]at hi;omega
 ·intro h;exact⟨x - 1,by rw[dk];omega,by omega⟩
theorem mF (m:Nat):(vD m).length=m:=by unfold vD;simp
def shN (s:Sh):Sn:=(s.1,[s.2.1,s.2.2])
def Rh.cut:Rh->Bool | .pl _=>false | _=>true
def zL (rs:List Rh):List Rh:=rs.filter Rh.cut
def y7:Nat->List Rh->List Nat
 | _,[]=> []
 | i,r::rs=>if r.cut then i::y7 (i+1) rs else y7 (i+1) rs
theorem cW {r:Rh} : ∀{rs:List Rh} {i:Nat},y7 i (rs++ [r])=y7 i rs++(if r.cut then [i+rs.length]else [])
 | [],i=>by simp[y7]
 | q::rs,i=>by
  rw[gq];unfold y7;rw[cW,cg,show i+1+rs.length=i+(rs.length+1) by omega]
  split <;> simp
theorem zkM {rs:List Rh}{r:Rh} :zL (rs++ [r])=zL rs++(if r.cut then [r]else []):=by
 unfold zL;rw[gj,dy]
 split <;> rfl
theorem t8: ∀{rs:List Rh} {i:Nat},(y7 i rs).length=(zL rs).length
 | [],i=>rfl
 | r::rs,i=>by
  unfold y7 zL;rw[dy]
  split
  ·rw[cg,cg,t8];rfl
  ·exact t8
theorem iG: ∀{rs:List Rh} {i j c:Nat},(y7 i rs)[j]?=some c->i<=c/\rs[c - i]?=(zL rs)[j]?
 | [],i,j,c,h=>by cases h
 | r::rs,i,j,c,h=>by
  unfold y7 at h;unfold zL;rw[dy]
  split at h
  ·next hc=>
   rw[if_pos hc];cases j with
   | zero=>cases h;exact⟨ak _,by rw[cv];rfl⟩
   | succ j=>
    obtain⟨h1,h2⟩:=iG (rs:=rs) (i:=i+1) (j:=j) (c:=c) (by simpa using h);exact⟨by omega,by rw[show c - i=(c - (i+1))+1 by omega,fb,fb];exact h2⟩
  ·next hc=>
   rw[if_neg hc];obtain⟨h1,h2⟩:=iG (rs:=rs) (i:=i+1) (j:=j) (c:=c) h;exact⟨by omega,by rw[show c - i=(c - (i+1))+1 by omega,fb];exact h2⟩
theorem zkL: ∀{rs:List Rh} {i c:Nat},c∈y7 i rs->i<=c:=λ{rs i c} h=>by
 obtain⟨j,hj⟩:=ap.mp h;exact(iG hj).1
theorem iH: ∀{rs:List Rh} {i:Nat},(y7 i rs).Pairwise (· < ·)
 | [],i=>List.Pairwise.nil
 | r::rs,i=>by
  unfold y7
  split
  ·exact List.Pairwise.cons (λc hc=>by have:=zkL hc;omega) iH
  ·exact iH
theorem cX {rs:List Rh}{r:Rh}(h:r∈zL rs):r∈rs/\r.cut=true:=ij.mp h
theorem lC {rs:List Rh}{j c:Nat}(h:(y7 0 rs)[j]?=some c):c < rs.length/\∃r,rs[c]?=some r/\(zL rs)[j]?=some r:=by
 obtain⟨_,h2⟩:=iG h;have hj:j < (zL rs).length:=by rw[<- t8 (i:=0)];exact(ad.mp h).1
 rw[wc,am hj]at h2;exact⟨(ad.mp h2).1,_,h2,am hj⟩
def wG (a:Nat)(cs:List Nat):List Nat:=a::cs.map (· +1)
theorem zlv {a c:Nat}{cs:List Nat} :wG a (cs++ [c])=wG a cs++ [c+1]:=by unfold wG;simp
theorem zb6 {a:Nat}{cs:List Nat} :(wG a cs).length=cs.length+1:=by unfold wG;simp
def qX:Nat->List Nat->Nat
 | a,[]=>a
 | _,c::cs=>qX (c+1) cs
theorem zg7 {c:Nat} : ∀{cs:List Nat} {a:Nat},qX a (cs++ [c])=c+1
 | [],_=>rfl
 | _::cs,_=>zg7 (cs:=cs)
theorem zb7 {n:Nat} : ∀{cs:List Nat} {a:Nat},(wG a cs).zip (cs++ [n])=(wG a cs).zip cs++ [(qX a cs,n)]
 | [],a=>rfl
 | c::cs,a=>by
  show(a,c)::(wG (c+1) cs).zip (cs++ [n])=(a,c)::((wG (c+1) cs).zip cs++ [(qX (c+1) cs,n)]);rw[zb7]
theorem zlw {c:Nat}{cs:List Nat}{a:Nat} :(wG a (cs++ [c])).zip (cs++ [c])=(wG a cs).zip cs++ [(qX a cs,c)]:=by
 rw[<- zb7,zlv];have h:(wG a cs).length=(cs++ [c]).length:=by rw[zb6,af];rfl
 have e1:=List.zip_append (l₁:=wG a cs) (r₁:= [c+1]) (l₂:=cs++ [c]) (r₂:= []) h;rw[db]at e1;rw[e1];simp
abbrev rT:=Str×Nat×Nat
def wU (h:Hd):List rT:=((wG 0 (y7 0 h.2)).zip (y7 0 h.2++ [h.2.length])).map λp=>(h.1,p.1,p.2)
theorem mH {h:Hd} :(wU h).length=(zL h.2).length+1:=by
 unfold wU;rw[aa,xu,zb6,af,t8];simp
def SS (hs:List Hd):List rT:=hs.flatMap wU
theorem pN {h:Hd}{j:Nat}{s:rT}(e:(wU h)[j]?=some s):s.1=h.1/\s.2.1<=s.2.2/\s.2.2<=h.2.length/\(wG 0 (y7 0 h.2))[j]?=some s.2.1/\(y7 0 h.2++ [h.2.length])[j]?=some s.2.2:=by
 unfold wU at e;rw[aw]at e;cases hz:((wG 0 (y7 0 h.2)).zip (y7 0 h.2++ [h.2.length]))[j]? with
 | none=>rw[hz]at e;cases e
 | some p=>
  rw[hz]at e;obtain⟨h1,h2⟩:=kb.mp hz;have e':=(bx e).symm;subst e';have le:p.2<=h.2.length:=by
   rcases lx j (y7 0 h.2).length with hj | hj
   ·rw[ax hj]at h2;exact iq (lC h2).1
   ·rw[aj hj]at h2
    have:=aq.mp (cj h2);omega
  refine⟨rfl,?_,le,h1,h2⟩;unfold wG at h1;cases j with
  | zero=>simp at h1;show p.1<=p.2;omega
  | succ j=>
   rw[fb,aw]at h1;cases hc:(y7 0 h.2)[j]? with
   | none=>rw[hc]at h1;cases h1
   | some c=>
    rw[hc]at h1;have e1:c+1=p.1:=bx h1;show p.1<=p.2;rcases lx (j+1) (y7 0 h.2).length with hj | hj
    ·rw[ax hj]at h2
     have r:=cz.mp (iH (rs:=h.2) (i:=0)) j (j+1) (by omega) hj (by omega);obtain⟨_,q1⟩:=ad.mp hc;obtain⟨_,q2⟩:=ad.mp h2;omega
    ·rw[aj hj]at h2
     have:=aq.mp (cj h2);have:=(lC hc).1;omega
abbrev Cs:=List (Str×List Rh)
def zD (hs:List Hd):Cs:=hs.map λh=>(h.1,zL h.2)
def zN:Cs->Str->Nat
 | [],_=>0
 | c::cs,y=>if c.1=y then 0 else(c.2.length+1)+zN cs y
def wA:Cs->Str->List Rh
 | [],_=> []
 | c::cs,y=>if c.1=y then c.2 else wA cs y
def NN:Cs->Nat
 | []=>0
 | c::cs=>(c.2.length+1)+NN cs
theorem t5 {y:Str} : ∀{cs:Cs},y∈cs.map (·.1)->zN cs y+(wA cs y).length < NN cs
 | c::cs,h=>by
  unfold zN wA NN
  split
  ·omega
  ·next hc=>
   have:=t5 (cs:=cs) (y:=y) (by rw[bb]at h;exact(bd.mp h).resolve_left λz=>hc z.symm);omega
theorem cI: ∀{cs:Cs} {k:Nat},(cs.map (·.1)).Nodup->k < NN cs->∃y j,y∈cs.map (·.1)/\j<=(wA cs y).length/\k=zN cs y+j
 | [],k,_,h=>by cases h
 | c::cs,k,hn,h=>by
  rw[bb,di]at hn;unfold NN at h;by_cases hk:k < c.2.length+1
  ·refine⟨c.1,k,by simp,?_,?_⟩
   ·unfold wA;rw[if_pos rfl];omega
   ·unfold zN;rw[if_pos rfl];omega
  ·obtain⟨y,j,h1,h2,h3⟩:=cI (k:=k - (c.2.length+1)) hn.2 (by omega)
   have hy:c.1≠y:=λz=>hn.1 (z▸h1);refine⟨y,j,ce _ h1,?_,?_⟩
   ·unfold wA;rw[if_neg hy];exact h2
   ·unfold zN;rw[if_neg hy];omega
theorem cH: ∀{cs:Cs} {y z:Str} {i j:Nat},y∈cs.map (·.1)->z∈cs.map (·.1)->i<=(wA cs y).length->j<=(wA cs z).length->zN cs y+i=zN cs z+j->y=z/\i=j
 | c::cs,y,z,i,j,hy,hz,hi,hj,e=>by
  rw[bb]at hy hz;unfold zN at e;unfold wA at hi hj;by_cases c1:c.1=y
  ·by_cases c2:c.1=z
   ·rw[if_pos c1,if_pos c2]at e;exact⟨c1.symm.trans c2,by omega⟩
   ·rw[if_pos c1,if_neg c2]at e;rw[if_pos c1]at hi;exfalso;omega
  ·by_cases c2:c.1=z
   ·rw[if_neg c1,if_pos c2]at e;rw[if_pos c2]at hj;exfalso;omega
   ·rw[if_neg c1,if_neg c2]at e
    rw[if_neg c1]at hi;rw[if_neg c2]at hj;exact cH ((bd.mp hy).resolve_left λz=>c1 z.symm) ((bd.mp hz).resolve_left λz=>c2 z.symm) hi hj (by omega)
def tW (cs:Cs)(k:Nat):Rh->List (Nat×Nat)
 | .split y=> [(k,k+1),(k,zN cs y)]
 | .join y=> [(k,k+1),(zN cs y+(wA cs y).length,k+1)]
 | .pl _=> []
def eJ (cs:Cs)(y:Str)(j:Nat):List (Nat×Nat):=match(wA cs y)[j]? with | some r=>tW cs (zN cs y+j) r | none=> []
def ndL (cs:Cs):List (Str×Nat):=cs.flatMap λc=>(List.range (c.2.length+1)).map λj=>(c.1,j)
theorem zgN {y:Str}{j:Nat} : ∀{cs:Cs},y∈cs.map (·.1)->j<=(wA cs y).length->(ndL cs)[zN cs y+j]?=some (y,j)
 | c::cs,h,hj=>by
  unfold wA at hj;unfold ndL zN;rw[fi]
  split
  ·next hc=>
   rw[if_pos hc]at hj;rw[ax (by simp;omega),aw,il (by omega),hc];simp
  ·next hc=>
   rw[if_neg hc]at hj;rw[aj (by simp;omega)];simp only[aa,dz];rw[show c.2.length+1+zN cs y+j - (c.2.length+1)=zN cs y+j by omega];exact zgN (cs:=cs) ((bd.mp h).resolve_left λz=>hc z.symm) hj
def eK (cs:Cs)(k:Nat):List (Nat×Nat):=match(ndL cs)[k]? with | some q=>eJ cs q.1 q.2 | none=> []
theorem lI {cs:Cs}{y:Str}{j:Nat}(h:y∈cs.map (·.1))(hj:j<=(wA cs y).length):eK cs (zN cs y+j)=eJ cs y j:=by unfold eK;rw[zgN h hj]
def eU (cs:Cs)(k:Nat):List (Nat×Nat):=(List.range k).flatMap (eK cs)
theorem lJ {cs:Cs}{k:Nat} :eU cs (k+1)=eU cs k++eK cs k:=by unfold eU;rw[gv,km];simp
def w4 (E:List (Nat×Nat))(i:Nat):List Nat:=(E.filter λe=>e.1==i).map (·.2)
def qR (n:Nat)(E:List (Nat×Nat)):List (List Nat):=(List.range n).map (w4 E)
theorem zjN {E:List (Nat×Nat)}{i v k:Nat} :w4 (E++ [(i,v)]) k=if i=k then w4 E k++ [v]else w4 E k:=by
 unfold w4;rw[gj,ao,dy];by_cases h:i=k
 ·rw[if_pos h,if_pos (by simpa using h)];rfl
 ·rw[if_neg h,if_neg (by simpa using h)];simp
theorem i8 {n:Nat}{E:List (Nat×Nat)} :(qR n E).length=n:=by unfold qR;simp
theorem dZ {n i:Nat}{E:List (Nat×Nat)}(h:i < n):(qR n E)[i]?=some (w4 E i):=by unfold qR;rw[aw,il h];rfl
theorem zjP {n i v:Nat}{E:List (Nat×Nat)} :(qR n E).set i (w4 E i++ [v])=qR n (E++ [(i,v)]):=by
 refine nq λk=> ?_;by_cases hk:k < n
 ·rw[dZ hk,zjN,List.getElem?_set,dZ hk,i8]
  by_cases h:i=k
  ·subst h;rw[if_pos rfl,if_pos rfl,if_pos hk]
  ·rw[if_neg h,if_neg h]
 ·rw[jp (by rw[ci,i8];omega),jp (by rw[i8];omega)]
def gr (cs:Cs)(i:Nat):List Nat:=w4 (eU cs (NN cs)) i
theorem dY {E:List (Nat×Nat)}{i v:Nat} :v∈w4 E i↔(i,v)∈E:=by
 unfold w4;rw[ca];constructor
 ·rintro⟨⟨a,b⟩,h,rfl⟩
  obtain⟨h1,h2⟩:=ij.mp h;have:a=i:=by simpa using h2
  rw[<- this];exact h1
 ·exact λh=>⟨(i,v),ij.mpr ⟨h,by simp⟩,rfl⟩
structure dM (cs:Cs):Prop where
 nd:(cs.map (·.1)).Nodup
 cl: ∀c∈cs,∀r∈c.2,∀y,(r= .split y∨r= .join y)->y∈cs.map (·.1)
 cu: ∀c∈cs,∀r∈c.2,r.cut=true
 sz:NN cs<=40
 ac: ∃rho:Nat->Nat,∀u v,(u,v)∈eU cs (NN cs)->rho u < rho v
theorem zbU {y:Str} : ∀{cs:Cs},y∈cs.map (·.1)->(y,wA cs y)∈cs
 | c::cs,h=>by
  unfold wA
  split
  ·next hc=>rw[<- hc];exact bz ..
  ·next hc=>exact ce _ (zbU ((bd.mp h).resolve_left λz=>hc z.symm))
theorem zeO {cs:Cs}(hn:(cs.map (·.1)).Nodup){e:Nat×Nat} :e∈eU cs (NN cs)↔∃y j r,y∈cs.map (·.1)/\(wA cs y)[j]?=some r/\e∈tW cs (zN cs y+j) r:=by
 unfold eU;rw[ji];constructor
 ·rintro⟨k,hk,he⟩
  obtain⟨y,j,h1,h2,rfl⟩:=cI hn (dk.mp hk);rw[lI h1 h2]at he;unfold eJ at he
  split at he
  ·next r hr=>exact⟨y,j,r,h1,hr,he⟩
  ·cases he
 ·rintro⟨y,j,r,h1,hr,he⟩
  have hj:=(ad.mp hr).1;refine⟨zN cs y+j,dk.mpr (by have:=t5 h1;omega),?_⟩;rw[lI h1 (by omega)];unfold eJ;rw[hr];exact he
theorem dM.lt {cs:Cs}(G:dM cs){u v:Nat}(h:(u,v)∈eU cs (NN cs)):u < NN cs/\v < NN cs:=by
 obtain⟨y,j,r,h1,hr,he⟩:=(zeO G.nd).mp h;have hj:=(ad.mp hr).1;have hb:=t5 h1;have hr':=ap.mpr ⟨j,hr⟩;cases r with
 | split z=>
  have hz:=t5 (G.cl _ (zbU h1) _ hr' z (.inl rfl));simp only[tW,bd,fh,or_false,pz]at he;omega
 | join z=>
  have hz:=t5 (G.cl _ (zbU h1) _ hr' z (.inr rfl));simp only[tW,bd,fh,or_false,pz]at he;omega
 | pl r=>simp[tW]at he
inductive Rn (g:Nat->List Nat)(a:Nat):Nat->Prop
 | one {x:Nat} :x∈g a->Rn g a x
 | more {x y:Nat} :Rn g a x->y∈g x->Rn g a y
theorem Rn.in_ {g:Nat->List Nat}{n a x:Nat}(hc: ∀u < n,∀v∈g u,v < n)(ha:a < n)(h:Rn g a x):x < n:=by
 induction h with
 | one h=>exact hc a ha _ h
 | more _ h ih=>exact hc _ ih _ h
theorem Rn.up {g:Nat->List Nat}{rho:Nat->Nat}(hr: ∀u,∀v∈g u,rho u < rho v){a x:Nat}(h:Rn g a x):rho a < rho x:=by
 induction h with
 | one h=>exact hr _ _ h
 | more _ h ih=>exact fc ih (hr _ _ h)
def oX (g:Nat->List Nat)(l:List Nat):Prop:= ∀j k x y:Nat,j < k->l[j]?=some x->l[k]?=some y->¬ Rn g y x
def dJ (g:Nat->List Nat)(l:List Nat)(n:Nat):Prop:= ∀u,u < n->∀v∈g u,l.idxOf u<=l.idxOf v
theorem lQ {l:List Nat}(hn:l.Nodup){j x:Nat}(h:l[j]?=some x):l.idxOf x=j:=by
 obtain⟨hj,e⟩:=ad.mp h;have hm:x∈l:=ap.mpr ⟨j,h⟩;have h2:=ik hm;have h3:l[l.idxOf x]?=some x:=by rw[am h2,wk h2]
 exact(da h2 hn).mp (h3.trans h.symm)
theorem zgg {g:Nat->List Nat}{l:List Nat}{n:Nat}(hc: ∀u < n,∀v∈g u,v < n)(hp:l.Perm (List.range n)):oX g l↔dJ g l n:=by
 have hn:l.Nodup:=hp.nodup_iff.mpr rq;have hin: ∀x,x < n->∃j,l[j]?=some x:=λx hx=>ap.mp (hp.mem_iff.mpr (dk.mpr hx));constructor
 ·intro G u hu v hv
  obtain⟨i,hi⟩:=hin u hu;obtain⟨j,hj⟩:=hin v (hc u hu v hv);rw[lQ hn hi,lQ hn hj];exact qq λz=>G j i v u z hj hi (.one hv)
 ·intro O j k x y hjk hx hy hr
  have hy':y < n:=dk.mp (hp.mem_iff.mp (ap.mpr ⟨k,hy⟩));have:l.idxOf y<=l.idxOf x:=by
   have key: ∀z,Rn g y z->z < n/\l.idxOf y<=l.idxOf z:=λz h=>by
    induction h with
    | one h=>exact⟨hc y hy' _ h,O y hy' _ h⟩
    | more _ h ih=>exact⟨hc _ ih.1 _ h,bq ih.2 (O _ ih.1 _ h)⟩
   exact(key x hr).2
  rw[lQ hn hx,lQ hn hy]at this;omega
inductive Sub (hs:List Hd):Hd->Nat->Hd->Prop
 | own {h k:Hd} {q:Nat} :h∈hs->k∈hs->h.2[q]?=some (.split k.1)->Sub hs h q k
 | more {h k m:Hd} {q q':Nat} :Sub hs h q k->m∈hs->k.2[q']?=some (.split m.1)->Sub hs h q m
theorem Sub.mem {hs:List Hd}{h k:Hd}{q:Nat}(s:Sub hs h q k):h∈hs/\k∈hs:=by
 induction s with
 | own a b _=>exact⟨a,b⟩
 | more _ b _ ih=>exact⟨ih.1,b⟩
theorem Sub.trans {hs:List Hd}{h k m:Hd}{q q':Nat}(s:Sub hs h q k)(t:Sub hs k q' m):Sub hs h q m:=by
 induction t with
 | own _ b e=>exact .more s b e
 | more _ b e ih=>exact .more ih b e
section
variable {hs:List Hd} {en:Str->List Str} {rk:Str->Nat}
theorem sD.held (G:sD hs en rk): ∀(m:Nat) (h:Hd),rk h.1<=m->h∈hs->∀(n:Nat) (x:Str),x∈uR en (h.2.take n)->∃k∈hs,k.1=x/\∃q,q < n/\Sub hs h q k:=by
 intro m
 induction m with
 | zero | succ m ih=>
  intro h hr hh n
  induction n using Nat.strongRecOn with
  | _ n ihn=>
   intro x hx;have hxt:=G.tail hh hx;obtain⟨i,hi,⟨r,h1,h2⟩,_⟩:=zgj.mp hx;rcases h2 with rfl | ⟨y,rfl,h2⟩
   ·obtain⟨k,hk,rfl⟩:=ca.mp hxt
    exact⟨k,kg hk,rfl,i,hi,.own hh (kg hk) h1⟩
   ·have hm:=ap.mpr ⟨i,h1⟩
    have hl:=G.jr h hh y hm;obtain⟨hil,e'⟩:=ad.mp h1;have hrs:h.2=h.2.take i++ .join y::h.2.drop (i+1):=by rw[<- e',iu,gx]
    obtain⟨ky,hky,rfl,q0,hq0,hs0⟩:=ihn i hi y ((G.hb h hh).2 _ _ _ hrs)
    first
    | (exfalso;omega)
    | (rw[<- (G.hb ky hky).1,<- fk (l:=ky.2)]at h2
       obtain⟨k,hk,e,q1,_,s1⟩:=ih ky (by omega) hky _ x h2;exact⟨k,hk,e,q0,by omega,hs0.trans s1⟩)
theorem sD.beta (G:sD hs en rk)(sr:mX hs rk): ∀n:Nat,∃be:Str->Nat,∀h∈hs,∀y q,h.2[q]?=some (.split y)->7<=rk y+n->be y=be h.1+q * 64 ^ (rk h.1)+1:=by
 intro n
 induction n with
 | zero=>exact⟨λ_=>0,λh hh y q hq hr=>by
   have h1:=sr h hh y (ap.mpr ⟨q,hq⟩);have h2:=G.r7 h hh;omega⟩
 | succ n ih=>
  obtain⟨be,hb⟩:=ih
  let P:Str->Nat->Prop:=λy v=> ∃h∈hs,∃q,h.2[q]?=some (.split y)/\v=be h.1+q * 64 ^ (rk h.1)+1
  refine⟨λy=>by
   classical
   exact if 7<=rk y+n then be y else if hx: ∃v,P y v then Classical.choose hx else 0,λh hh y q hq hr=> ?_⟩
  have h1:=sr h hh y (ap.mpr ⟨q,hq⟩);dsimp only;rw[if_pos (show 7<=rk h.1+n by omega)];by_cases c:7<=rk y+n
  ·rw[if_pos c];exact hb h hh y q hq c
  ·have hx: ∃v,P y v:=⟨_,h,hh,q,hq,rfl⟩
   rw[if_neg c,dif_pos hx];obtain⟨k,hk,q',hq',e⟩:=Classical.choose_spec hx;obtain⟨rfl,rfl⟩:=zrj G.sn hh hk hq hq' rfl rfl;exact e
theorem zq3 {be:Str->Nat}(sr:mX hs rk)(rl: ∀h∈hs,h.2.length<=30)(hb: ∀h∈hs,∀y q,h.2[q]?=some (.split y)->be y=be h.1+q * 64 ^ (rk h.1)+1){h k:Hd}{q:Nat}(s:Sub hs h q k):be k.1+32 * 64 ^ (rk k.1)<=be h.1+(q+1) * 64 ^ (rk h.1):=by
 have one: ∀{h k:Hd} {q:Nat},h∈hs->k∈hs->h.2[q]?=some (.split k.1)->be k.1+32 * 64 ^ (rk k.1)<=be h.1+(q+1) * 64 ^ (rk h.1):=λ{h k q} hh hk hq=>by
  have h1:=sr h hh _ (ap.mpr ⟨q,hq⟩);have h2:=hb h hh _ q hq;have h3:64 * 64 ^ (rk k.1)<=64 ^ (rk h.1):=by
   rw[<- Nat.pow_succ'];exact Nat.pow_le_pow_right (by decide) h1
  have h4:0 < 64 ^ (rk k.1):=Nat.pow_pos (by decide);rw[Nat.add_mul,Nat.one_mul];omega
 induction s with
 | own a b e=>exact one a b e
 | more s b e ih=>
  rename_i k m q q';have h1:=one s.mem.2 b e;have h2:(q'+1) * 64 ^ (rk k.1)<=32 * 64 ^ (rk k.1):=mi _ (by have:=(ad.mp e).1;have:=rl k s.mem.2;omega);omega
end
theorem vW {h:Hd} : ∀{hs:List Hd},(hs.map (·.1)).Nodup->h∈hs->wA (zD hs) h.1=zL h.2
 | q::hs,hn,hm=>by
  rw[bb,di]at hn;show(if q.1=h.1 then zL q.2 else wA (zD hs) h.1)=_;rcases bd.mp hm with rfl | hm
  ·rw[if_pos rfl]
  ·rw[if_neg (λz:q.1=h.1=>hn.1 (z▸br hm)),vW hn.2 hm]
theorem wZ {hs:List Hd} :(zD hs).map (·.1)=hs.map (·.1):=by unfold zD;rw[cy];rfl
theorem n5 {h:Hd}{j:Nat} : ∀{hs:List Hd},(hs.map (·.1)).Nodup->h∈hs->j<=(zL h.2).length->(SS hs)[zN (zD hs) h.1+j]?=(wU h)[j]?
 | q::hs,hn,hm,hj=>by
  rw[bb,di]at hn;show(wU q++SS hs)[(if q.1=h.1 then 0 else((zL q.2).length+1)+zN (zD hs) h.1)+j]?=_;rcases bd.mp hm with rfl | hm
  ·rw[if_pos rfl,lw,ax (by rw[mH];omega)]
  ·rw[if_neg (λz:q.1=h.1=>hn.1 (z▸br hm)),aj (by rw[mH];omega),mH,show(zL q.2).length+1+zN (zD hs) h.1+j - ((zL q.2).length+1)=zN (zD hs) h.1+j by omega]
   exact n5 hn.2 hm hj
theorem uO: ∀{hs:List Hd},(SS hs).length=NN (zD hs)
 | []=>rfl
 | q::hs=>by
  show(wU q++SS hs).length=((zL q.2).length+1)+NN (zD hs);rw[af,mH,uO]
theorem dR {hs:List Hd}(hn:(hs.map (·.1)).Nodup){k:Nat}(hk:k < NN (zD hs)): ∃h∈hs,∃j,j<=(zL h.2).length/\k=zN (zD hs) h.1+j:=by
 obtain⟨y,j,h1,h2,h3⟩:=cI (cs:=zD hs) (by rw[wZ];exact hn) hk;rw[wZ]at h1;obtain⟨h,hh,rfl⟩:=ca.mp h1;rw[vW hn hh]at h2;exact⟨h,hh,j,h2,h3⟩
theorem i5 {hs:List Hd}(hn:(hs.map (·.1)).Nodup){h:Hd}(hh:h∈hs){j:Nat}(hj:j<=(zL h.2).length): ∃s,(SS hs)[zN (zD hs) h.1+j]?=some s/\(wU h)[j]?=some s:=by
 have hl:j < (wU h).length:=by rw[mH];omega
 rw[n5 hn hh hj];exact⟨_,am hl,am hl⟩
structure tU (hs:List Hd):Prop where
 g:dM (zD hs)
 rl: ∀h∈hs,h.2.length<=30
 hl:hs.length<=8
theorem tU.hn {hs:List Hd}(S:tU hs):(hs.map (·.1)).Nodup:=by rw[<- wZ];exact S.g.nd
theorem zeF: ∀{rs:List Rh},(zL rs).length=(rs.filterMap Rh.sp).length+(rs.filterMap Rh.jn).length
 | []=>rfl
 | r::rs=>by
  have ih:=zeF (rs:=rs);unfold zL at ih⊢
  cases r with
  | split y=>simp[cn,dy,Rh.sp,Rh.jn,Rh.cut,ih];omega
  | join y=>simp[cn,dy,Rh.sp,Rh.jn,Rh.cut,ih];omega
  | pl y=>simp[cn,dy,Rh.sp,Rh.jn,Rh.cut,ih]
theorem zec: ∀{hs:List Hd},NN (zD hs)=hs.length+(hs.flatMap λh=>h.2.filterMap Rh.sp).length+(hs.flatMap λh=>h.2.filterMap Rh.jn).length
 | []=>rfl
 | q::hs=>by
  show((zL q.2).length+1)+NN (zD hs)=_;rw[zec,zeF,fi,fi,af,af,cg];omega
def zcN (hs:List Hd)(be rk:Str->Nat)(k:Nat):Nat:=match(SS hs)[k]? with | some s=>be s.1+s.2.1 * 64 ^ (rk s.1) | none=>0
theorem pI {hs:List Hd}{be rk:Str->Nat}{k:Nat}{s:rT}(e:(SS hs)[k]?=some s):zcN hs be rk k=be s.1+s.2.1 * 64 ^ (rk s.1):=by unfold zcN;rw[e]
theorem zo7 {hs:List Hd}{en:Str->List Str}{rk:Str->Nat}(G:sD hs en rk)(sr:mX hs rk)(hn:(hs.map (·.1)).Nodup)(rl: ∀h∈hs,h.2.length<=30)(hl:hs.length<=8):tU hs:=by
 have hcn:((zD hs).map (·.1)).Nodup:=by rw[wZ];exact hn
 have tailm: ∀{y:Str},y∈hs.tail.map (·.1)->y∈hs.map (·.1):=λ{y} h=>by
  obtain⟨k,hk,rfl⟩:=ca.mp h;exact br (kg hk)
 refine⟨⟨hcn,λc hc r hr y hy=> ?_,λc hc r hr=> ?_,?_,?_⟩,rl,hl⟩
 ·obtain⟨h,hh,rfl⟩:=ca.mp hc
  have hr':=(cX hr).1;rw[wZ];refine tailm ?_;rcases hy with rfl | rfl
  ·exact G.st y (ji.mpr ⟨h,hh,dm.mpr ⟨_,hr',rfl⟩⟩)
  ·exact(G.je y).mp (ji.mpr ⟨h,hh,dm.mpr ⟨_,hr',rfl⟩⟩)
 ·obtain⟨h,hh,rfl⟩:=ca.mp hc
  exact(cX hr).2
 ·rw[zec]
  have a:=p7 G.sn G.st;have b:=p7 G.jn λy hy=>(G.je y).mp hy;rw[aa,List.length_tail]at a b;omega
 ·obtain⟨be,hb0⟩:=G.beta sr 7
  have hb: ∀h∈hs,∀y q,h.2[q]?=some (.split y)->be y=be h.1+q * 64 ^ (rk h.1)+1:=λh hh y q hq=>hb0 h hh y q hq (by omega);refine⟨zcN hs be rk,λu v he=> ?_⟩;obtain⟨y,j,r,hy,hr,he⟩:=(zeO hcn).mp he;rw[wZ]at hy;obtain⟨h,hh,rfl⟩:=ca.mp hy;rw[vW hn hh]at hr;have hj:=(ad.mp hr).1;obtain⟨s,s1,s2⟩:=i5 hn hh (j:=j) (by omega);obtain⟨t,t1,t2⟩:=i5 hn hh (j:=j+1) (by omega);obtain⟨a1,a2,a3,a4,a5⟩:=pN s2;obtain⟨b1,b2,b3,b4,b5⟩:=pN t2;obtain⟨c,hc⟩: ∃c,(y7 0 h.2)[j]?=some c:=⟨_,am (by rw[t8];exact hj)⟩;rw[ax (by rw[t8];exact hj),hc]at a5;have e5:c=s.2.2:=bx a5;have e6:t.2.1=c+1:=by
   unfold wG at b4;rw[fb,aw,hc]at b4;exact(bx b4).symm
  obtain⟨r',hr1,hr2⟩:=(lC hc).2;rw[hr]at hr2;cases hr2;have pw:0 < 64 ^ (rk h.1):=Nat.pow_pos (by decide);have m1:s.2.1 * 64 ^ (rk h.1)<=c * 64 ^ (rk h.1):=mi _ (by omega);have m2:(c+1) * 64 ^ (rk h.1)=c * 64 ^ (rk h.1)+64 ^ (rk h.1):=by rw[Nat.add_mul,Nat.one_mul]
  have st:be s.1+s.2.1 * 64 ^ (rk s.1) < be t.1+t.2.1 * 64 ^ (rk t.1):=by rw[a1,b1,e6,m2];omega
  cases r with
  | pl r=>simp[tW]at he
  | split z=>
   simp only[tW,bd,fh,or_false,pz]at he;rcases he with⟨rfl,rfl⟩ | ⟨rfl,rfl⟩
   ·rw[pI s1,pI (by rw[qa];exact t1)];exact st
   ·have hz:=G.st z (ji.mpr ⟨h,hh,dm.mpr ⟨_,ap.mpr ⟨c,hr1⟩,rfl⟩⟩)
    obtain⟨k,hk,rfl⟩:=ca.mp hz;obtain⟨w,w1,w2⟩:=i5 hn (kg hk) (j:=0) (eh _);obtain⟨d1,_,_,d4,_⟩:=pN w2;have d5:w.2.1=0:=by unfold wG at d4;simpa using d4.symm
    rw[pI s1,pI (by rw[rf]at w1;exact w1),d1,d5,a1,Nat.zero_mul,rf,hb h hh _ c hr1];omega
  | join z=>
   simp only[tW,bd,fh,or_false,pz]at he;rcases he with⟨rfl,rfl⟩ | ⟨rfl,rfl⟩
   ·rw[pI s1,pI (by rw[qa];exact t1)];exact st
   ·obtain⟨hcl,e'⟩:=ad.mp hr1
    have hrs:h.2=h.2.take c++ .join z::h.2.drop (c+1):=by rw[<- e',iu,gx]
    obtain⟨k,hk,rfl,q,hq,sb⟩:=G.held _ h (ak _) hh c z ((G.hb h hh).2 _ _ _ hrs);have hsr:=zq3 sr rl hb sb;obtain⟨w,w1,w2⟩:=i5 hn hk (j:=(zL k.2).length) (ak _);obtain⟨d1,d2,d3,_,_⟩:=pN w2;have hkl:=rl k hk;have m3:w.2.1 * 64 ^ (rk k.1)<=30 * 64 ^ (rk k.1):=mi _ (by omega);have m4:(q+1) * 64 ^ (rk h.1)<=c * 64 ^ (rk h.1):=mi _ (by omega);rw[vW hn hk,pI w1,pI (by rw[qa];exact t1),d1,b1,e6,m2];omega
theorem zo8 {hs hs':List Hd}(S:tU hs)(e:zD hs'=zD hs)(rl: ∀h∈hs',h.2.length<=30):tU hs':=
 ⟨by rw[e];exact S.g,rl,by have:=congrArg List.length e;unfold zD at this;rw[aa,aa]at this;have:=S.hl;omega⟩
def wI (s:rT):PV:= .tup [.str s.1,.int (s.2.1:Int),.int (s.2.2:Int)]
def yK (hs:List Hd):List PV:=(SS hs).map wI
theorem zei {hs:List Hd}{h:Hd} :SS (hs++ [h])=SS hs++wU h:=by unfold SS;rw[km];simp
def qL (h:Hd)(cs:List Nat):List PV:=((wG 0 cs).zip cs).map λp=>wI (h.1,p.1,p.2)
theorem zq2 {h:Hd}{cs:List Nat}{c:Nat} :qL h (cs++ [c])=qL h cs++ [wI (h.1,qX 0 cs,c)]:=by unfold qL;rw[zlw,ao];rfl
theorem zq1 {h:Hd} :(wU h).map wI=qL h (y7 0 h.2)++ [wI (h.1,qX 0 (y7 0 h.2),h.2.length)]:=by
 unfold wU qL;rw[zb7,cy,ao];rfl
theorem zih {h:Hd}(hl:h.2.length<=30):(wU h).length<=31:=by
 rw[mH];have:=jq Rh.cut h.2;unfold zL;omega
theorem dQ: ∀{hs:List Hd},(∀h∈hs,h.2.length<=30)->(SS hs).length<=31 * hs.length
 | [],_=>ak _
 | h::hs,hl=>by
  show(wU h++SS hs).length<=_;rw[af,cg];have a:=zih (hl h (bz ..));have b:=dQ (hs:=hs) λk hk=>hl k (ce _ hk);omega
theorem zii {h:Hd}{rs:List Rh} :(qL h (y7 0 rs)).length<=rs.length:=by
 unfold qL;rw[aa,xu,zb6,t8];have:=jq Rh.cut rs;unfold zL;omega
def zqu:zV:=λxs st Q=> ∃(sh:List Sn) (hs:List Hd),xs= [vT sh hs]/\hs.length<=8/\(∀h∈hs,h.2.length<=30)/\Q (.obj st.length) (st++ [.lst (yK hs)])
theorem kJ (r:Rh): ∃(k:Str) (more:List PV),r.pv= .tup (.str k::more)/\vJ (.str k) [.str "split",.str "join"]=r.cut:=by
 cases r with
 | split n=>exact⟨"split",[.str n],rfl,by unfold vJ;simp[rD,Rh.cut]⟩
 | join n=>exact⟨"join",[.str n],rfl,by unfold vJ;simp[rD,Rh.cut]⟩
 | pl r=>
  obtain⟨g,d⟩:=r;cases g with
  | none=>obtain⟨k,more,e,_,h2⟩:=d.form2;exact⟨k,more,e,h2⟩
  | some x=>exact⟨_,_,rfl,by show _=false;unfold vJ;simp[rD];decide+kernel⟩
def lB (rs:List Rh):PV->Option PV:=λy=>match y with | .int i=>(match rs[i.toNat]? with | some r=>if r.cut then some (.int i)else none | none=>none) | _=>none
theorem zcO {n:Nat} :wD 0 (n+1)=wD 0 n++ [zE n]:=by
 unfold wD zE;rw[gv,ao,pk,gt]
theorem zeD {rs:List Rh} : ∀{n:Nat},n<=rs.length->(wD 0 n).filterMap (lB rs)=(y7 0 (rs.take n)).map zE
 | 0,_=>by simp[wD,y7]
 | n+1,h=>by
  obtain⟨r,hr⟩: ∃r,rs[n]?=some r:=⟨_,am (by omega)⟩;have hf:lB rs (zE n)=if r.cut then some (zE n)else none:=by
   show(match rs[((n:Nat):Int).toNat]? with | some r=>if r.cut then some (PV.int (n:Int))else none | none=>none)=_;rw[dj,hr]
  rw[zcO,ja,zeD (by omega),sT hr,cW,zdp hr,lw,ao,cn,hf];cases r.cut <;> rfl
theorem ziZ {n:Nat} : ∀{cs:List Nat} {a:Nat},qM (.int ((a:Int) - 1)::cs.map zE) (cs.map zE++ [zE n])=((wG a cs).zip (cs++ [n])).map λp=> .tup [.int ((p.1:Int) - 1),zE p.2]
 | [],a=>rfl
 | c::cs,a=>by
  have ih:=ziZ (n:=n) (cs:=cs) (a:=c+1);have e:((c+1:Nat):Int) - 1=(c:Int):=by omega
  rw[e]at ih;show PV.tup [.int ((a:Int) - 1),zE c]::qM (zE c::cs.map zE) (cs.map zE++ [zE n])=_::((wG (c+1) cs).zip (cs++ [n])).map _;exact congrArg _ ih
def zqi:zV:=λxs st Q=> ∃(sh:List Sn) (hs:List Hd),xs= [vT sh hs]/\hs.length<=8/\(∀h∈hs,h.2.length<=30)/\Q (.lst (yK hs)) st
def sL (st:z5)(LL:List (List PV)):z5:=st++(LL.map PO.lst++ [PO.ros (xZ st.length LL.length)])
section
variable {st:z5} {LL:List (List PV)}
theorem zhS {n:Nat}(h:LL.length=n):(sL st LL)[st.length+n]?=some (.ros (xZ st.length n)):=by
 subst h;unfold sL;rw[aj (by omega),aj (by rw[aa];omega),aa,show st.length+LL.length - st.length - LL.length=0 by omega];rfl
theorem m7 {i:Nat}{l:List PV}(h:LL[i]?=some l):(sL st LL)[st.length+i]?=some (.lst l):=by
 have hi:=(ad.mp h).1;unfold sL;rw[aj (by omega),ax (by rw[aa];omega),show st.length+i - st.length=i by omega,aw,h];rfl
theorem zpL {i:Nat}{l:List PV}(h:i < LL.length):(sL st LL).set (st.length+i) (.lst l)=sL st (LL.set i l):=by
 unfold sL;rw[cq _ _ (by omega),show st.length+i - st.length=i by omega,ie _ _ (by rw[aa];exact h),ci,oo]
theorem kM {i:Nat}{o:PO}(h:st[i]?=some o):(sL st LL)[i]?=some o:=by
 unfold sL;rw[ax (ad.mp h).1];exact h
theorem m6 {n m i:Nat}(h:i < m):atI (xZ n m) (i:Int)=some (.obj (n+i)):=xJ (by unfold xZ;rw[aw,il h];rfl)
end
theorem vL.mk {src:x6}{st:z5}{P:Prop}(h:pA src st)(p:P):vL src st P:=by
 cases src with
 | none=>exact p
 | some q=>exact⟨h,p⟩
theorem zeC {xs:List PV}{Q:List PV->z5->Prop}{env:zG}{st:z5}{src:x6}(hs: ∀m,pA src (st++List.replicate m (.lst [])))(hq:Q (xZ st.length xs.length) (st++List.replicate xs.length (.lst []))):jE 1 (gN env.length) zd5 (zd0 pR) src xs Q env st:=by
 refine⟨λi ys e s=>ys=xZ st.length i/\s=st++List.replicate i (.lst [])/\∃v,e=env++ [v],⟨rfl,by simp,none,rfl⟩,?_,?_⟩
 ·rintro i x ys e s hx ⟨rfl,rfl,v,rfl⟩
  refine vL.mk (hs i) ?_;show uT []=true/\(xZ st.length i++ [PV.obj (st++List.replicate i (PO.lst [])).length]=xZ st.length (i+1)/\st++List.replicate i (PO.lst [])++ [PO.lst []]=st++List.replicate (i+1) (PO.lst [])/\∃v',(env++ [v]).set env.length (some x)=env++ [v']);refine⟨rfl,?_,?_,some x,?_⟩
  ·unfold xZ
   rw[gv,ao,af,dq];rfl
  ·rw[au,vg]
  ·rw[cq _ _ (ak _),cv];rfl
 ·rintro ys e s ⟨rfl,rfl,_⟩
  exact vL.mk (hs _) hq
def yQ (n:Nat)(E:List (Nat×Nat)):List (List PV):=(qR n E).map λl=>l.map zE
theorem n9 {n:Nat}{E:List (Nat×Nat)} :(yQ n E).length=n:=by unfold yQ;rw[aa,i8]
theorem pX {n i:Nat}{E:List (Nat×Nat)}(h:i < n):(yQ n E)[i]?=some ((w4 E i).map zE):=by unfold yQ;rw[aw,dZ h];rfl
theorem zjM {n i v:Nat}{E:List (Nat×Nat)} :(yQ n E).set i ((w4 E i).map zE++ [zE v])=yQ n (E++ [(i,v)]):=by
 unfold yQ;rw[<- zjP,oo,ao];rfl
theorem zel {n:Nat} :yQ n []=List.replicate n []:=by
 unfold yQ qR;rw[cy];refine nq λk=> ?_;rw[aw,gk];by_cases h:k < n
 ·rw[il h,if_pos h];rfl
 ·rw[jp (by rw[dz];omega),if_neg h];rfl
theorem nA {E:List (Nat×Nat)}{i:Nat} :(w4 E i).length<=E.length:=by unfold w4;rw[aa];exact jq ..
theorem zld {cs:Cs}{k:Nat}{r:Rh} :(tW cs k r).length<=2:=by cases r <;> simp[tW]
theorem b9 {cs:Cs}{k:Nat} :(eU cs k).length<=2 * k:=by
 induction k with
 | zero=>simp[eU]
 | succ k ih=>
  rw[lJ,af];have:(eK cs k).length<=2:=by
   unfold eK eJ
   split
   ·split
    ·exact zld
    ·exact eh _
   ·exact eh _
  omega
theorem zpK {st:z5}{n i v:Nat}{E:List (Nat×Nat)}(h:i < n):(sL st (yQ n E)).set (st.length+i) (.lst ((w4 E i).map zE++ [zE v]))=sL st (yQ n (E++ [(i,v)])):=by
 rw[zpL (by rw[n9];exact h),zjM]
theorem zb1 {f:PV->Option PV}{p:Nat->Bool} : ∀{n:Nat},(∀k,k < n->f (zE k)=if p k then some (zE k)else none)->(wD 0 n).filterMap f=((List.range n).filter p).map zE
 | 0,_=>rfl
 | n+1,h=>by
  rw[zcO,ja,zb1 λk hk=>h k (by omega),gv,gj,ao,cn,h n (by omega),dy];cases p n <;> rfl
theorem zb2 {b m:Nat}{p:Nat->Bool} : ∀{n:Nat},(∀k,k < n->(p k=true↔b<=k/\k < b+m))->(List.range n).filter p=(List.range (min m (n - b))).map (b+ ·)
 | 0,_=>by simp
 | n+1,h=>by
  rw[gv,gj,zb2 λk hk=>h k (by omega),dy];by_cases c:b<=n/\n < b+m
  ·rw[if_pos ((h n (by omega)).mpr c),show min m (n+1 - b)=min m (n - b)+1 by omega,gv,ao,pk,show b+min m (n - b)=n by omega];rfl
  ·rw[if_neg λz=>c ((h n (by omega)).mp z),show min m (n+1 - b)=min m (n - b) by omega];simp
theorem ze0 {h:Hd} : ∀{hs:List Hd} {k:Nat},(hs.map (·.1)).Nodup->hs[k]?=some h->zN (zD hs) h.1=NN (zD (hs.take k))
 | q::hs,0,_,e=>by cases e;show(if h.1=h.1 then 0 else _)=0;rw[if_pos rfl]
 | q::hs,k+1,hn,e=>by
  rw[bb,di]at hn;rw[fb]at e;have hm:h∈hs:=ap.mpr ⟨k,e⟩;show(if q.1=h.1 then 0 else((zL q.2).length+1)+zN (zD hs) h.1)=((zL q.2).length+1)+NN (zD (hs.take k));rw[if_neg (λz:q.1=h.1=>hn.1 (z▸br hm)),ze0 hn.2 e]
theorem zeb: ∀{a b:Cs},NN (a++b)=NN a+NN b
 | [],b=>by simp[NN]
 | c::a,b=>by show(c.2.length+1)+NN (a++b)=((c.2.length+1)+NN a)+NN b;rw[zeb];omega
theorem zjB {hs:List Hd}{h:Hd}{k:Nat}(e:hs[k]?=some h):NN (zD (hs.take (k+1)))=NN (zD (hs.take k))+(zL h.2).length+1:=by
 rw[sT e];unfold zD;rw[ao,zeb];rfl
section
variable {hs:List Hd} {h:Hd}
theorem zcd (hn:(hs.map (·.1)).Nodup){k:Hd}(hh:h∈hs)(hk:k∈hs)(e:h.1=k.1):h=k:=by
 obtain⟨i,hi⟩:=ap.mp hh;obtain⟨j,hj⟩:=ap.mp hk;have hil:=(ad.mp hi).1;have:=(da (by rw[aa];exact hil) hn).mp (show(hs.map (·.1))[i]?=(hs.map (·.1))[j]? by rw[aw,aw,hi,hj];exact congrArg some e);subst this;exact bx (hi.symm.trans hj)
theorem zeh (hn:(hs.map (·.1)).Nodup)(hh:h∈hs){k:Nat}{s:rT}(e:(SS hs)[k]?=some s):s.1=h.1↔zN (zD hs) h.1<=k/\k < zN (zD hs) h.1+((zL h.2).length+1):=by
 have hk:k < NN (zD hs):=by rw[<- uO];exact(ad.mp e).1
 obtain⟨h',hh',j',hj',rfl⟩:=dR hn hk;rw[n5 hn hh' hj']at e;rw[(pN e).1];constructor
 ·intro z
  have e2:=zcd hn hh' hh z;subst e2;omega
 ·intro z
  have hcn: ∀{q:Hd},q∈hs->q.1∈(zD hs).map (·.1):=λ{q} hq=>by rw[wZ];exact br hq
  exact(cH (j:=zN (zD hs) h'.1+j' - zN (zD hs) h.1) (hcn hh') (hcn hh) (by rw[vW hn hh'];exact hj') (by rw[vW hn hh];omega) (by omega)).1
theorem zjI (hn:(hs.map (·.1)).Nodup)(hh:h∈hs){k j n:Nat}{s:rT}(e:(SS hs)[k]?=some s)(hc:(y7 0 h.2)[j]?=some n):(s.1=h.1/\s.2.2=n)↔zN (zD hs) h.1+j<=k/\k < zN (zD hs) h.1+j+1:=by
 have hjl:=(ad.mp hc).1;rw[zeh hn hh e];have key: ∀i,i<=(zL h.2).length->k=zN (zD hs) h.1+i->(s.2.2=n↔i=j):=λi hi hk=>by
  subst hk;rw[n5 hn hh hi]at e;obtain⟨_,_,_,_,e5⟩:=pN e;have hnl:=(lC hc).1;constructor
  ·intro z
   rw[z]at e5;rcases lx i (y7 0 h.2).length with hil | hil
   ·rw[ax hil]at e5
    have hnd:(y7 0 h.2).Nodup:=(iH (rs:=h.2) (i:=0)).imp λh=>bj h;exact(da hil hnd).mp (e5.trans hc.symm)
   ·rw[aj hil]at e5
    have:=aq.mp (cj e5);omega
  ·intro z
   subst z;rw[ax hjl,hc]at e5;exact(bx e5).symm
 rw[t8]at hjl;constructor
 ·rintro⟨⟨h1,h2⟩,h3⟩
  have:=(key (k - zN (zD hs) h.1) (by omega) (by omega)).mp h3;omega
 ·intro hk
  exact⟨by omega,(key j (by omega) (by omega)).mpr rfl⟩
end
theorem zep {xs:List PV}{z:PV} :atI (xs++ [z]) (-1)=some z:=by
 unfold atI w9;simp;rw[if_pos (by omega)];show(xs++ [z])[(-1+((xs.length:Int)+1)).toNat]?=_;rw[show(-1+((xs.length:Int)+1)).toNat=xs.length by omega];simp
def gE (hs:List Hd)(y:Str)(n:Nat):PV->Option PV:=λx=>match x with | .int i=>(match(SS hs)[i.toNat]? with | some s=>if(s.1==y&&s.2.2==n)then some (.int i)else none | none=>none) | _=>none
def oB (hs:List Hd)(y:Str):PV->Option PV:=λx=>match x with | .int i=>(match(SS hs)[i.toNat]? with | some s=>if s.1==y then some (.int i)else none | none=>none) | _=>none
theorem znE {hs:List Hd}{h:Hd}(hn:(hs.map (·.1)).Nodup)(hh:h∈hs){j n:Nat}(hc:(y7 0 h.2)[j]?=some n):(wD 0 (NN (zD hs))).filterMap (gE hs h.1 n)= [zE (zN (zD hs) h.1+j)]:=by
 have hjl:=(ad.mp hc).1;rw[t8]at hjl;have hb:=t5 (cs:=zD hs) (y:=h.1) (by rw[wZ];exact br hh);rw[vW hn hh]at hb;rw[zb1 (p:=λk=>match(SS hs)[k]? with | some s=>s.1==h.1&&s.2.2==n | none=>false) λk hk=> ?_,zb2 (b:=zN (zD hs) h.1+j) (m:=1) λk hk=> ?_]
 ·rw[show min 1 (NN (zD hs) - (zN (zD hs) h.1+j))=1 by omega];rfl
 ·obtain⟨s,hs'⟩: ∃s,(SS hs)[k]?=some s:=⟨_,am (by rw[uO];exact hk)⟩
  rw[hs',<- zjI hn hh hs' hc];dsimp only;rw[fe,beq_iff_eq,beq_iff_eq]
 ·obtain⟨s,hs'⟩: ∃s,(SS hs)[k]?=some s:=⟨_,am (by rw[uO];exact hk)⟩
  show(match(SS hs)[((k:Nat):Int).toNat]? with | some s=>if(s.1==h.1&&s.2.2==n)then some (PV.int (k:Int))else none | none=>none)=_;rw[dj,hs']
theorem zhm {hs:List Hd}{h:Hd}(hn:(hs.map (·.1)).Nodup)(hh:h∈hs):(wD 0 (NN (zD hs))).filterMap (oB hs h.1)=((List.range ((zL h.2).length+1)).map (zN (zD hs) h.1+ ·)).map zE:=by
 have hb:=t5 (cs:=zD hs) (y:=h.1) (by rw[wZ];exact br hh);rw[vW hn hh]at hb;rw[zb1 (p:=λk=>match(SS hs)[k]? with | some s=>s.1==h.1 | none=>false) λk hk=> ?_,zb2 (b:=zN (zD hs) h.1) (m:=(zL h.2).length+1) λk hk=> ?_]
 ·rw[show min ((zL h.2).length+1) (NN (zD hs) - zN (zD hs) h.1)=(zL h.2).length+1 by omega]
 ·obtain⟨s,hs'⟩: ∃s,(SS hs)[k]?=some s:=⟨_,am (by rw[uO];exact hk)⟩
  rw[hs',<- zeh hn hh hs'];dsimp only;rw[beq_iff_eq]
 ·obtain⟨s,hs'⟩: ∃s,(SS hs)[k]?=some s:=⟨_,am (by rw[uO];exact hk)⟩
  show(match(SS hs)[((k:Nat):Int).toNat]? with | some s=>if s.1==h.1 then some (PV.int (k:Int))else none | none=>none)=_;rw[dj,hs']
def oA (hs:List Hd):PV:= .lst ((yQ (NN (zD hs)) (eU (zD hs) (NN (zD hs)))).map PV.lst)
def zqn:zV:=λxs st Q=> ∃(sh:List Sn) (hs:List Hd),xs= [vT sh hs,.lst (yK hs)]/\tU hs/\Q (oA hs) st
theorem zeE: ∀{a b:List Rh} {i:Nat},y7 i (a++b)=y7 i a++y7 (i+a.length) b
 | [],b,i=>by simp[y7]
 | r::a,b,i=>by
  show(if r.cut then i::y7 (i+1) (a++b)else y7 (i+1) (a++b))=(if r.cut then i::y7 (i+1) a else y7 (i+1) a)++y7 (i+(r::a).length) b;rw[zeE,cg,show i+1+a.length=i+(a.length+1) by omega]
  split <;> rfl
theorem zkN {rs:List Rh}{n:Nat}{r:Rh}(hr:rs[n]?=some r)(hc:r.cut=true):(y7 0 rs)[(zL (rs.take n)).length]?=some n/\(zL rs)[(zL (rs.take n)).length]?=some r:=by
 obtain⟨hl,e⟩:=ad.mp hr;have hrs:rs=rs.take n++r::rs.drop (n+1):=by rw[<- e,iu,gx]
 have h1:y7 0 rs=y7 0 (rs.take n)++n::y7 (n+1) (rs.drop (n+1)):=by
  conv=>lhs;rw[hrs]
  rw[zeE,zdp hr,lw]
  congr 1
  show(if r.cut then _ else _)=_;rw[hc];rfl
 have h2:zL rs=zL (rs.take n)++r::zL (rs.drop (n+1)):=by
  conv=>lhs;rw[hrs]
  unfold zL;rw[gj,List.filter_cons_of_pos hc]
 constructor
 ·rw[h1,<- t8 (i:=0),aj (ak _),cv];rfl
 ·rw[h2,aj (ak _),cv];rfl
theorem zmI {a b:Nat} :((a:Int)==0+(b:Int))=(a==b):=by
 rw[gt,ln,beq_iff_eq,beq_iff_eq];omega
theorem zhk {b m:Nat} :atI (((List.range (m+1)).map (b+ ·)).map zE) 0=some (zE b):=xJ (j:=0) (by rw[lr];simp)
theorem zhl {b m:Nat} :atI (((List.range (m+1)).map (b+ ·)).map zE) (-1)=some (zE (b+m)):=by
 rw[gv,ao,ao];exact zep
theorem oK {st:z5}{n i v:Nat}{E:List (Nat×Nat)}(h:i < n):(sL st (yQ n E)).set (st.length+i) (.lst ((w4 E i).map zE++ [.int (v:Int)]))=sL st (yQ n (E++ [(i,v)])):=zpK h
theorem oU {p:z8×PV}{r:List (z8×PV)}{k:z8} :zO (p::r) k=if p.1=k then some p.2 else zO r k:=by
 unfold zO;rw[cx];by_cases h:p.1=k
 ·rw[decide_eq_true h,if_pos h];rfl
 ·rw[decide_eq_false h,if_neg h]
theorem ziU {k k':z8}{v:PV} : ∀{kvs:List (z8×PV)},zO (kvs.map λkv=>if kv.1=k then(kv.1,v)else kv) k'=if k=k' then(zO kvs k').map (λ_=>v)else zO kvs k'
 | []=>by simp[zO]
 | p::kvs=>by
  rw[bb,oU,oU,ziU];by_cases h1:p.1=k
  ·rw[if_pos h1]
   by_cases h2:k=k'
   ·rw[if_pos h2,if_pos h2,if_pos (h1.trans h2),if_pos (h1.trans h2)];rfl
   ·have h3: ¬ p.1=k':=λz=>h2 (h1.symm.trans z)
    rw[if_neg h2,if_neg h2,if_neg h3,if_neg h3]
  ·rw[if_neg h1]
   by_cases h2:k=k'
   ·have h3: ¬ p.1=k':=λz=>h1 (z.trans h2.symm)
    rw[if_pos h2,if_pos h2,if_neg h3,if_neg h3]
   ·rw[if_neg h2,if_neg h2]
theorem ziT {k k':z8}{v:PV} : ∀{kvs:List (z8×PV)},zO (kvs++ [(k,v)]) k'=match zO kvs k' with | some x=>some x | none=>if k=k' then some v else none
 | []=>by rw[lq,oU];rfl
 | p::kvs=>by
  rw[gq,oU,oU,ziT];by_cases h:p.1=k'
  ·rw[if_pos h,if_pos h]
  ·rw[if_neg h,if_neg h]
theorem ziS {k:z8} : ∀{kvs:List (z8×PV)},(kvs.any λkv=>decide (kv.1=k))=(zO kvs k).isSome
 | []=>rfl
 | p::kvs=>by
  rw[iw,ziS,oU];by_cases h:p.1=k
  ·rw[decide_eq_true h,if_pos h];rfl
  ·rw[decide_eq_false h,if_neg h];rfl
theorem e7 {kvs:List (z8×PV)}{k k':z8}{v:PV} :zO (wH kvs k v) k'=if k=k' then some v else zO kvs k':=by
 unfold wH;rw[ziS];cases hv:zO kvs k with
 | none=>
  rw[if_neg (by simp),ziT];by_cases h:k=k'
  ·subst h;rw[hv,if_pos rfl]
  ·rw[if_neg h,if_neg h];cases zO kvs k' <;> rfl
 | some x=>
  rw[if_pos (show(some x).isSome=true from rfl),ziU];by_cases h:k=k'
  ·subst h;rw[hv,if_pos rfl,if_pos rfl];rfl
  ·rw[if_neg h,if_neg h]
theorem zh6 {kvs:List (z8×PV)}{k:z8}{v:PV} :(wH kvs k v).length<=kvs.length+1:=by
 unfold wH
 split
 ·rw[aa];omega
 ·rw[af];exact ak _
theorem zgI {k:z8} : ∀{ps acc:List (z8×PV)},k∉ps.map (·.1)->zO (tH acc ps) k=zO acc k
 | [],_,_=>rfl
 | p::ps,acc,h=>by
  rw[bb,bd,not_or]at h;show zO (tH (wH acc p.1 p.2) ps) k=_;rw[zgI h.2,e7,if_neg λz=>h.1 z.symm]
theorem zbZ {k:z8}{v:PV} : ∀{ps acc:List (z8×PV)},(ps.map (·.1)).Nodup->(k,v)∈ps->zO (tH acc ps) k=some v
 | p::ps,acc,hn,h=>by
  rw[bb,di]at hn;show zO (tH (wH acc p.1 p.2) ps) k=_;rcases bd.mp h with rfl | h
  ·rw[zgI hn.1,e7,if_pos rfl]
  ·exact zbZ hn.2 h
def pJ (hs:List Hd):List (z8×PV):=hs.map λh=>(.inr h.1,.tup (h.2.map Rh.pv))
theorem zpH {hs:List Hd} :(hs.map xR).map nU=(pJ hs).map some:=by unfold pJ;rw[cy,cy];rfl
theorem zpI {hs:List Hd}(hn:(hs.map (·.1)).Nodup){h:Hd}(hh:h∈hs):zO (tH [] (pJ hs)) (.inr h.1)=some (.tup (h.2.map Rh.pv)):=by
 refine zbZ ?_ (ca.mpr ⟨h,hh,rfl⟩);have:(pJ hs).map (·.1)=(hs.map (·.1)).map Sum.inr:=by unfold pJ;rw[cy,cy];rfl
 rw[this];exact qj.mpr (hn.imp λh e=>h (tw e))
def pV (hs:List Hd)(k:Nat)(F:List (z8×PV)):Prop:=(∀h∈hs,zO F (.inr h.1)=if zN (zD hs) h.1 < k then some (zE (zN (zD hs) h.1))else none)/\F.length<=k
def jS (hs:List Hd)(k:Nat)(L:List (z8×PV)):Prop:=(∀h∈hs,zN (zD hs) h.1 < k->zO L (.inr h.1)=some (zE (min (k - 1) (zN (zD hs) h.1+(zL h.2).length))))/\L.length<=k
section
variable {hs:List Hd} {h:Hd} {j:Nat} {F:List (z8×PV)}
theorem cG (hn:(hs.map (·.1)).Nodup){h':Hd}(hh:h∈hs)(hh':h'∈hs){i:Nat}(hj:j<=(zL h.2).length)(hi:i<=(zL h'.2).length)(e:zN (zD hs) h'.1+i=zN (zD hs) h.1+j):h'=h/\i=j:=by
 have hcn: ∀{q:Hd},q∈hs->q.1∈(zD hs).map (·.1):=λ{q} hq=>by rw[wZ];exact br hq
 obtain⟨e1,e2⟩:=cH (hcn hh') (hcn hh) (by rw[vW hn hh'];exact hi) (by rw[vW hn hh];exact hj) e;exact⟨zcd hn hh' hh e1,e2⟩
theorem pV.new (hn:(hs.map (·.1)).Nodup)(hh:h∈hs)(H:pV hs (zN (zD hs) h.1) F):zO F (.inr h.1)=none/\pV hs (zN (zD hs) h.1+1) (wH F (.inr h.1) (zE (zN (zD hs) h.1))):=by
 have h0:=H.1 h hh;rw[if_neg (ck _)]at h0;refine⟨h0,λh' hh'=> ?_,bq zh6 (oq H.2 1)⟩;rw[e7];by_cases e:h.1=h'.1
 ·rw[if_pos (by rw[e]),<- e,if_pos (me _)]
 ·rw[if_neg λz=>e (tw z),H.1 h' hh']
  have:zN (zD hs) h'.1≠zN (zD hs) h.1:=λz=>e (by rw[(cG (i:=0) (j:=0) hn hh hh' (eh _) (eh _) (by omega)).1]);by_cases c:zN (zD hs) h'.1 < zN (zD hs) h.1
  ·rw[if_pos c,if_pos (by omega)]
  ·rw[if_neg c,if_neg (by omega)]
theorem pV.old (hn:(hs.map (·.1)).Nodup)(hh:h∈hs)(h0:0 < j)(hj:j<=(zL h.2).length)(H:pV hs (zN (zD hs) h.1+j) F):zO F (.inr h.1)=some (zE (zN (zD hs) h.1))/\pV hs (zN (zD hs) h.1+j+1) F:=by
 refine⟨by rw[H.1 h hh,if_pos (by omega)],λh' hh'=> ?_,bq H.2 (fw _)⟩;rw[H.1 h' hh'];have:zN (zD hs) h'.1≠zN (zD hs) h.1+j:=λz=>by
  have:=(cG (i:=0) hn hh hh' hj (eh _) (by omega)).2;omega
 by_cases c:zN (zD hs) h'.1 < zN (zD hs) h.1+j
 ·rw[if_pos c,if_pos (by omega)]
 ·rw[if_neg c,if_neg (by omega)]
theorem jS.put (hn:(hs.map (·.1)).Nodup)(hh:h∈hs)(hj:j<=(zL h.2).length)(H:jS hs (zN (zD hs) h.1+j) F):jS hs (zN (zD hs) h.1+j+1) (wH F (.inr h.1) (zE (zN (zD hs) h.1+j))):=by
 refine⟨λh' hh' hlt=> ?_,bq zh6 (oq H.2 1)⟩;rw[e7];by_cases e:h.1=h'.1
 ·obtain rfl:=zcd hn hh hh' e
  rw[if_pos rfl,show min (zN (zD hs) h.1+j+1 - 1) (zN (zD hs) h.1+(zL h.2).length)=zN (zD hs) h.1+j by omega]
 ·have nb: ∀i,i<=(zL h'.2).length->zN (zD hs) h'.1+i≠zN (zD hs) h.1+j:=λi hi z=>e (by rw[(cG hn hh hh' hj hi z).1])
  have n0:=nb 0 (eh _);rw[if_neg λz=>e (tw z),H.1 h' hh' (by omega)];have n1:zN (zD hs) h'.1+(zL h'.2).length < zN (zD hs) h.1+j:=by
   rcases lx (zN (zD hs) h'.1+(zL h'.2).length) (zN (zD hs) h.1+j)with z | z
   ·exact z
   ·exact absurd (show zN (zD hs) h'.1+(zN (zD hs) h.1+j - zN (zD hs) h'.1)=_ by omega) (nb _ (by omega))
  congr 2;omega
end
def S3 (st:z5)(a b c:PO):z5:=st++ [a,b,c]
section
variable {st:z5} {a b c o:PO}
theorem zjF:st++ [a]++ [b]++ [c]=S3 st a b c:=by unfold S3;simp
theorem jZ:(S3 st a b c)[st.length]?=some a:=by unfold S3;rw[aj (ak _),cv];rfl
theorem dO:(S3 st a b c)[st.length+1]?=some b:=by unfold S3;rw[aj (by omega),show st.length+1 - st.length=1 by omega];rfl
theorem dP:(S3 st a b c)[st.length+2]?=some c:=by unfold S3;rw[aj (by omega),show st.length+2 - st.length=2 by omega];rfl
theorem zjG:(S3 st a b c).set (st.length+1) o=S3 st a o c:=by unfold S3;rw[cq _ _ (by omega),show st.length+1 - st.length=1 by omega];rfl
theorem zef:(S3 st a b c).set (st.length+2) o=S3 st a b o:=by unfold S3;rw[cq _ _ (by omega),show st.length+2 - st.length=2 by omega];rfl
theorem zjH:(S3 st a b c).take st.length=st:=by unfold S3;rw[cr (ak _),fk]
theorem zjE:(S3 st a b c).length=st.length+3:=by unfold S3;rw[af];rfl
end
def zqr:zV:=λxs st Q=> ∃(sh:List Sn) (hs:List Hd),xs= [vT sh hs]/\tU hs/\Q (oA hs) st
def xS (ms:List Nat):List (z8×PV):=ms.map λ(m:Nat)=>(.inl (m:Int),.bl true)
theorem zi3 {y:Nat} : ∀{ms:List Nat},zO (xS ms) (.inl (y:Int))=if y∈ms then some (.bl true)else none
 | []=>rfl
 | m::ms=>by
  show zO ((.inl (m:Int),.bl true)::xS ms) (.inl (y:Int))=_;rw[oU,zi3];by_cases e:m=y
  ·rw[if_pos (by rw[e]),if_pos (by rw[e];exact bz ..)]
  ·rw[if_neg λz:(Sum.inl (m:Int):z8)= .inl (y:Int)=>e (ny.mp (kh z))]
   by_cases h:y∈ms
   ·rw[if_pos h,if_pos (ce _ h)]
   ·rw[if_neg h,if_neg λz=>(bd.mp z).elim (λz=>e z.symm) h]
theorem fU {ms:List Nat}{y:Nat} :(zO (xS ms) (.inl (y:Int))).isSome=decide (y∈ms):=by
 rw[zi3];by_cases h:y∈ms
 ·rw[if_pos h,decide_eq_true h];rfl
 ·rw[if_neg h,decide_eq_false h];rfl
theorem zi2 {ms:List Nat}{y:Nat}(h:y∉ms):wH (xS ms) (.inl (y:Int)) (.bl true)=xS (ms++ [y]):=by
 rw[zcw λz=> ?_]
 ·unfold xS;rw[ao];rfl
 ·obtain⟨p,hp,e⟩:=ca.mp z
  obtain⟨m,hm,rfl⟩:=ca.mp hp;exact h (ny.mp (kh e)▸hm)
theorem zqW {ms:List Nat} :(xS ms).length=ms.length:=by unfold xS;rw[aa]
structure Lk (lk:List PV)(g:Nat->List Nat)(n:Nat):Prop where
 len:lk.length=n
 at_: ∀i,i < n->lk[i]?=some (.lst ((g i).map zE))
 cl: ∀u,u < n->∀v∈g u,v < n
 sz:n<=40
 gl: ∀i,(g i).length<=100
theorem Lk.ix {lk:List PV}{g:Nat->List Nat}{n:Nat}(H:Lk lk g n){i:Nat}(h:i < n):atI lk (i:Int)=some (.lst ((g i).map zE)):=xJ (H.at_ i h)
theorem zck {hs:List Hd}(S:tU hs): ∃lk,oA hs= .lst lk/\Lk lk (gr (zD hs)) (NN (zD hs)):=by
 refine⟨_,rfl,by rw[aa,n9],λi hi=> ?_,λu hu v hv=> ?_,S.g.sz,λi=>bq nA (bq b9 (by have:=S.g.sz;omega))⟩
 ·rw[aw,pX hi];rfl
 ·exact(S.g.lt (dY.mp hv)).2
def zib:zV:=λxs st Q=> ∃(lk:List PV) (g:Nat->List Nat) (n one:Nat),xs= [.lst lk,zE one]/\Lk lk g n/\one < n/\∀ms:List Nat,(∀x,x∈ms↔Rn g one x)->Q (.dct (xS ms)) st
def zqb:zV:=λxs st Q=> ∃(sh:List Sn) (hs:List Hd) (i j:Nat),xs= [vT sh hs,zE i,zE j]/\tU hs/\i < NN (zD hs)/\∀b:Bool,(b=true↔Rn (gr (zD hs)) i j)->Q (.bl b) st
theorem bB: ∀{a b:List Int},eqPs (a.map PV.int) (b.map PV.int)=decide (a=b)
 | [],[]=>by unfold eqPs;simp
 | [],_::_=>by unfold eqPs;simp
 | _::_,[]=>by unfold eqPs;simp
 | x::a,y::b=>by
  rw[bb,bb];unfold eqPs;rw[rD.1,bB,ln,fe,beq_iff_eq,decide_eq_true_eq,decide_eq_true_eq,tq]
def uW (n:Nat):List Int:=(List.range n).map λ(i:Nat)=>(i:Int)
theorem zcP {n:Nat} :oJ n=(uW n).map PV.int:=by unfold oJ uW;rw[cy];rfl
theorem iK {a:List Int} :dpts (a.map PV.int)=0:=Nat.le_zero.mp (b7 (f:=PV.int) (n:=0) (λx=>by rw[zkY];exact ak _) a)
def yL (l:List Nat):List Int:=l.map λ(i:Nat)=>(i:Int)
theorem zds: ∀{a b:List Nat},yL a=yL b->a=b
 | [],[],_=>rfl
 | [],_::_,h=>by cases h
 | _::_,[],h=>by cases h
 | x::a,y::b,h=>by
  have h1:(x:Int)::yL a=(y:Int)::yL b:=h;rw[tq]at h1;rw[ny.mp h1.1,zds h1.2]
theorem zhw {os ns:List Int}{n:Nat}(hp:ns.Perm os)(e:ns=uW n): ∃l:List Nat,os=yL l/\l.Perm (List.range n):=by
 subst e;refine⟨os.map Int.toNat,?_,?_⟩
 ·unfold yL
  rw[cy];refine(List.map_id os).symm.trans (im λx hx=> ?_);obtain⟨i,_,rfl⟩:=ca.mp (hp.mem_iff.mpr hx);show(i:Int)=(((i:Int).toNat:Nat):Int);rw[dj]
 ·have:=(hp.map Int.toNat).symm
  unfold uW at this;rw[cy]at this;exact this.trans (mn ((im λx _=>dj x).trans (List.map_id _)))
theorem zi9 {os ns:List Int}{n:Nat}{l:List Nat}(hp:ns.Perm os)(hs:ns.Pairwise (· <= ·))(e:os=yL l)(hl:l.Perm (List.range n)):ns=uW n:=by
 have h2:(yL l).Perm (uW n):=hl.map _;have h3:(uW n).Pairwise (· <= ·):=by
  unfold uW;exact qj.mpr ((List.pairwise_lt_range (n:=n)).imp λh=>by omega)
 exact(hp.trans (e▸h2)).eq_of_pairwise (λa b _ _ h1 h2=>Int.le_antisymm h1 h2) hs h3
def qG (l:List Nat):List (z8×PV):=l.mapIdx λi (x:Nat)=>(.inl (x:Int),.int (i:Int))
theorem zoI {l:List Nat}(hn:l.Nodup){j x:Nat}(h:l[j]?=some x):zO (tH [] (qG l)) (.inl (x:Int))=some (.int (j:Int)):=by
 refine zbZ ?_ ?_
 ·have:(qG l).map (·.1)=l.map λ(x:Nat)=>(Sum.inl (x:Int):z8):=by
   refine nq λk=> ?_;unfold qG;rw[aw,kf,aw];cases l[k]? <;> rfl
  rw[this];exact qj.mpr (hn.imp λh e=>h (ny.mp (kh e)))
 ·refine ap.mpr ⟨j,?_⟩
  unfold qG;rw[kf,h];rfl
def gG:PV->Option PV:=λx=>match x with | .tup [a,b]=>some (.tup [b,a]) | _=>none
theorem zgb: ∀{l:List PV} {f g:Nat->PV->PV},(∀i x,gG (f i x)=some (g i x))->(l.mapIdx f).filterMap gG=l.mapIdx g
 | [],_,_,_=>rfl
 | x::l,f,g,h=>by
  rw[xo,xo,cn,h 0 x];dsimp only;rw[zgb λi x=>h (i+1) x]
theorem zoH {l:List Nat} :((rA ((yL l).map PV.int)).filterMap gG).map nU=(qG l).map some:=by
 unfold rA;rw[zgb (g:=λi x=> .tup [x,.int (i:Int)]) λi x=>rfl];refine nq λk=> ?_;unfold qG yL;rw[aw,aw,kf,kf,aw,aw];cases l[k]? <;> rfl
def oY (hs:List Hd)(os:List Int):Prop:= ∃l:List Nat,os=yL l/\l.Perm (List.range (NN (zD hs)))/\dJ (gr (zD hs)) l (NN (zD hs))
def zqh:zV:=λxs st Q=> ∃(sh:List Sn) (hs:List Hd) (os:List Int),xs= [vT sh hs,.tup (os.map PV.int)]/\tU hs/\os.length < 64/\∀b:Bool,(b=true↔oY hs os)->Q (.bl b) st
theorem zeB {own:Nat}{g:xL}{tt:yT}{el:zB}{xs:List PV}{Q:List PV->z5->Prop}{env:zG}{st:z5}{n:Nat}{o:PO}(hst:st[n]?=some o)(f:PV->Option PV)
  (hs: ∀i x e,xs[i]?=some x->e.length=own->g x (env++e) st λe1 s1=>tt e1 s1 λb s2=>if b=true then el e1 s2 λy s3=>yR y=true/\CP f own xs env st (i+1) ((xs.take i).filterMap f++ [y]) e1 s3 else CP f own xs env st (i+1) ((xs.take i).filterMap f) e1 s2)
  (hd:Q (xs.filterMap f) st):pU own g tt el (some (n,o)) xs Q env st:=by
 refine⟨CP f own xs env st,⟨by simp,rfl,_,by simp,rfl⟩,?_,?_⟩
 ·rintro i x ys env' st' hx ⟨rfl,rfl,e',he,rfl⟩
  exact⟨hst,hs i x e' hx he⟩
 ·rintro ys env' st' ⟨rfl,rfl,e',he,rfl⟩
  show st'[n]?=some o/\Q _ _;rw[cc (ak _)];exact⟨hst,hd⟩
structure Bh (bh:List PV)(ms:Nat->List Nat)(g:Nat->List Nat)(n:Nat):Prop where
 len:bh.length=n
 at_: ∀i,i < n->bh[i]?=some (.dct (xS (ms i)))
 rn: ∀i,i < n->∀x,x∈ms i↔Rn g i x
 sz:n<=40
theorem Bh.ix {bh:List PV}{ms g:Nat->List Nat}{n i:Nat}(H:Bh bh ms g n)(h:i < n):atI bh (i:Int)=some (.dct (xS (ms i))):=xJ (H.at_ i h)
def jP (g:Nat->List Nat)(n:Nat)(os:List Int):Prop:= ∃l:List Nat,os=yL l/\l.Perm (List.range n)/\oX g l
theorem zl3 {g:Nat->List Nat}{l:List Nat} :oX g l↔l.Pairwise λx y=> ¬ Rn g y x:=by
 rw[cz];constructor
 ·exact λh i j hi hj hij=>h i j _ _ hij (am hi) (am hj)
 ·intro h j k x y hjk hx hy
  obtain⟨h1,rfl⟩:=ad.mp hx;obtain⟨h2,rfl⟩:=ad.mp hy;exact h j k h1 h2 hjk
theorem zbE {n:Nat}{ms:List Nat}{Q:K3}{st:z5} :wP false (.int (n:Int)) (.dct (xS ms)) st Q=Q (.bl (decide (n∈ms))) st:=by rw[<- fU];rfl
def zqg:zV:=λxs st Q=> ∃(os:List Int) (bh:List PV) (ms g:Nat->List Nat) (n:Nat),xs= [.tup (os.map PV.int),.lst bh]/\Bh bh ms g n/\os.length < 64/\∀b:Bool,(b=true↔jP g n os)->Q (.bl b) st
def iU (l:List Nat)(m:List Nat):PV->Option PV:=λy=>match y with | .int i=>some (.bl (decide ((l[i.toNat]?).getD 0∈m))) | _=>none
theorem zgf {l m:List Nat} : ∀{k:Nat},(wD 0 k).filterMap (iU l m)=((List.range k).map λj=>decide ((l[j]?).getD 0∈m)).map PV.bl
 | 0=>rfl
 | k+1=>by
  rw[zcO,ja,zgf,gv,ao,ao,cn];show _++ [PV.bl (decide ((l[((k:Nat):Int).toNat]?).getD 0∈m))]=_;rw[dj];rfl
theorem zgJ {rho:Nat->Nat} : ∀{l:List Nat},l≠ []->∃x∈l,∀y∈l,rho x<=rho y
 | [a],_=>⟨a,by simp,λy hy=>by rw[aq.mp hy];exact ak _⟩
 | a::b::l,_=>by
  obtain⟨x,hx,h⟩:=zgJ (rho:=rho) (l:=b::l) (by simp);rcases we (rho a) (rho x)with z | z
  ·exact⟨a,by simp,λy hy=>(bd.mp hy).elim (λe=>by rw[e];exact ak _) λhy=>bq z (h y hy)⟩
  ·exact⟨x,ce _ hx,λy hy=>(bd.mp hy).elim (λe=>by rw[e];exact z) (h y)⟩
def lM (ms:Nat->List Nat)(lf:List Nat):PV->Option PV:=λy=>match y with | .int i=>if !(lf.any λz=>decide (i.toNat∈ms z))then some (.int i)else none | _=>none
theorem zgc {ms:Nat->List Nat}{lf:List Nat} : ∀{l:List Nat},((yL l).map PV.int).filterMap (lM ms lf)=(yL (l.filter λx=> !(lf.any λz=>decide (x∈ms z)))).map PV.int
 | []=>rfl
 | x::l=>by
  show((PV.int (x:Int))::(yL l).map PV.int).filterMap (lM ms lf)=_;have hf:lM ms lf (.int (x:Int))=if !(lf.any λz=>decide (x∈ms z))then some (.int (x:Int))else none:=by
   show(if !(lf.any λz=>decide (((x:Nat):Int).toNat∈ms z))then some (PV.int (x:Int))else none)=_;rw[dj]
  rw[cn,hf,zgc,dy];cases hb:(!(lf.any λz=>decide (x∈ms z))) <;> rfl
def i9 (ms:Nat->List Nat)(x:Nat):PV->Option PV:=λy=>match y with | .int i=>some (.bl (decide (x∈ms i.toNat))) | _=>none
theorem zem {ms:Nat->List Nat}{x:Nat} : ∀{l:List Nat},((yL l).map PV.int).filterMap (i9 ms x)=(l.map λz=>decide (x∈ms z)).map PV.bl
 | []=>rfl
 | z::l=>by
  show((PV.int (z:Int))::(yL l).map PV.int).filterMap (i9 ms x)=_;rw[cn,zem];show PV.bl (decide (x∈ms ((z:Nat):Int).toNat))::_=_;rw[dj];rfl
theorem zi0 {l:List Nat}{i:Nat}{x:PV}(h:((yL l).map PV.int)[i]?=some x): ∃z:Nat,l[i]?=some z/\x= .int (z:Int):=by
 obtain⟨y,hy,rfl⟩:=vX h;unfold yL at hy;rw[aw]at hy;cases e:l[i]? with
 | none=>rw[e]at hy;cases hy
 | some z=>rw[e]at hy;cases hy;exact⟨z,rfl,rfl⟩
theorem pP {l:List Nat} :(yL l).length=l.length:=by unfold yL;rw[aa]
theorem zqV {a b:List Nat} :yL (a++b)=yL a++yL b:=by unfold yL;rw[ao]
theorem zi1: ∀{l:List Nat} {j:Nat},(yL l).eraseIdx j=yL (l.eraseIdx j)
 | [],_=>rfl
 | x::l,0=>rfl
 | x::l,j+1=>by show(x:Int)::(yL l).eraseIdx j=_;rw[zi1];rfl
theorem fT {l:List Nat}{j:Nat} :(yL l)[j]?=(l[j]?).map λ(i:Nat)=>(i:Int):=by unfold yL;rw[aw]
def zqm:zV:=λxs st Q=> ∃(i:Nat) (a b:Int) (bh:List PV) (ms g:Nat->List Nat) (n:Nat) (rho:Nat->Nat),xs= [.obj i,.lst bh]/\st[i]?=some (z9 a b)/\zZ a b/\Bh bh ms g n/\(∀u,∀v∈g u,rho u < rho v)/\∀(l:List Nat) (a b:Int),l.Perm (List.range n)->oX g l->zZ a b->Q (.tup ((yL l).map PV.int)) (st.set i (z9 a b))
def j8 (os:List Int):PV:= .tup (os.map PV.int)
def zqo:zV:=λxs st Q=> ∃(i:Nat) (a b:Int) (os:List Int),xs= [.obj i,j8 os]/\st[i]?=some (z9 a b)/\zZ a b/\0 < os.length/\os.length<=40/\∀(oss:List (List Int)) (a b:Int),(∀o∈oss,o.length < 64)->zZ a b->Q (.lst (oss.map j8)) (st.set i (z9 a b))
def zqs:zV:=λxs st Q=> ∃(i:Nat) (hs:List Hd),xs= [.obj i,.lst (yK hs)]/\st[i]?=some (.lst (yK hs))/\Q (.bl true) st
def zqw:zV:=λxs st Q=> ∃a b:Bool,xs= [.bl a,.bl b]/\Q (.bl (a==b)) st
theorem zkO {a b:List Rh}{x y:Rh}(h:x.cut≠y.cut):zL (a++ [y,x]++b)=zL (a++ [x,y]++b):=by
 unfold zL;rw[gj,gj,gj,gj]
 congr 2
 cases hx:x.cut <;> cases hy:y.cut <;> first | (exact absurd (hx.trans hy.symm) h) | simp[dy,hx,hy]
def zqt:zV:=λxs st Q=> ∃(i:Nat) (a b:Int) (sh:List Sn) (hs:List Hd),xs= [.obj i,vT sh hs]/\st[i]?=some (z9 a b)/\zZ a b/\hs.length<=8/\(∀h∈hs,h.2.length<=30)/\∀(hs':List Hd) (a b:Int),zD hs'=zD hs->(∀h∈hs',h.2.length<=30)->zZ a b->Q (vT sh hs') (st.set i (z9 a b))
theorem zg2 {n j:Nat}(h:j < n):w9 n (j:Int)=some j:=by
 unfold w9;rw[if_pos (by omega)];simp;omega
theorem zlj {s:rT} :y8 (wI s) (wI s)=true:=by
 unfold wI;rw[show y8 (.tup [.str s.1,.int (s.2.1:Int),.int (s.2.2:Int)]) (.tup [.str s.1,.int (s.2.1:Int),.int (s.2.2:Int)])=eqPs [.str s.1,.int (s.2.1:Int),.int (s.2.2:Int)] [.str s.1,.int (s.2.1:Int),.int (s.2.2:Int)] by unfold y8;rfl];simp[eqPs,rD]
theorem zkZ {s:rT} :zF (wI s)=1:=by
 unfold wI;simp[cZ,dpts]
def Sw (rs:List Rh)(x:Nat):Prop:= ∃r r':Rh,rs[x]?=some r/\rs[x+1]?=some r'/\r.cut≠r'.cut
theorem Sw.parts {rs:List Rh}{x:Nat}(h:Sw rs x): ∃r r':Rh,rs=rs.take x++ [r,r']++rs.drop (x+2)/\rs[x]?=some r/\rs[x+1]?=some r'/\r.cut≠r'.cut:=by
 obtain⟨r,r',h1,h2,h3⟩:=h;refine⟨r,r',?_,h1,h2,h3⟩;obtain⟨l1,e1⟩:=ad.mp h1;obtain⟨l2,e2⟩:=ad.mp h2;have a:rs.drop x=r::rs.drop (x+1):=by rw[<- e1,iu]
 have b:rs.drop (x+1)=r'::rs.drop (x+2):=by rw[<- e2,iu]
 have c:rs.take x++rs.drop x=rs:=gx x rs;rw[a,b]at c;rw[au];exact c.symm
theorem zhM (r:Rh):yR r.pv=true:=by
 obtain⟨k,more,e,_⟩:=kJ r;rw[e];rfl
theorem zkJ {hs2 hs:List Hd}{h:Hd}{rs:List Rh}{k:Nat}(e:zD hs2=zD (hs.take k))(hh:hs[k]?=some h)(hc:zL rs=zL h.2):zD (hs2++ [(h.1,rs)])=zD (hs.take (k+1)):=by
 rw[sT hh];unfold zD at e⊢
 rw[ao,ao,e];show _++ [(h.1,zL rs)]=_++ [(h.1,zL h.2)];rw[hc]
def zqq:zV:=λxs st Q=> ∃(i:Nat) (a b:Int) (sh:List Sn) (hs:List Hd),xs= [.obj i,vT sh hs]/\st[i]?=some (z9 a b)/\zZ a b/\tU hs/\0 < NN (zD hs)/\∀a b,zZ a b->Q (.bl true) (st.set i (z9 a b))
theorem znX {hs:List Hd}(S:tU hs){os:List Int} :oY hs os↔jP (gr (zD hs)) (NN (zD hs)) os:=by
 have hc: ∀u < NN (zD hs),∀v∈gr (zD hs) u,v < NN (zD hs):=λu _ v hv=>(S.g.lt (dY.mp hv)).2;unfold oY jP;constructor
 ·rintro⟨l,e,hp,o⟩;exact⟨l,e,hp,(zgg hc hp).mpr o⟩
 ·rintro⟨l,e,hp,o⟩;exact⟨l,e,hp,(zgg hc hp).mp o⟩
def j3:zV:=λxs st Q=> ∃ns:List Int,xs= [.lst (ns.map PV.int)]/\st= []/\ns.length<=63/\∀st,Q (.bl true) st
section
variable {P:Program} {w:World} {K:Frag} {mg:Str->Option Value} {base:Heap}
theorem znA {f:Addr}{fd:FuncData}(M:Mo K mg)(F:yP K "deed_of" "deed_of" fL f fd):yG P w K mg base yH 1 f fd ["row"] (yC K zqe):=by
 refine xH 0 F zpP (λxs st Q h=>by obtain⟨r,rfl,_⟩:=h;rfl) ⟨_,λcdv A outer s H E hr=>(zA (yF (qc (xG hr) (qx hr (qv 0) z7) zJ) (zH (y3 (qx hr (qv 0) z7))) yN)
   (zA (yF (pE (rJ hr) (qx hr (qv 0) z7) (yJ (z3 zJ (z3 zJ z4))) (by rfl)) (zH (y3 zh9)) yN)
   (zH (y3 (qv 0))))),λxs st Q h=> ?_⟩
 obtain⟨r,rfl,q⟩:=h;have n1:(("split" :Str)==("when" :Str))=false:=by decide+kernel
 have n2:(("join" :Str)==("when" :Str))=false:=by decide+kernel
 have i1:vJ (.str "split") [PV.str "split",.str "join"]=true:=by unfold vJ;simp[rD]
 have i2:vJ (.str "join") [PV.str "split",.str "join"]=true:=by unfold vJ;simp[rD]
 have fl: [PV.str "split",PV.str "join"].all uH=true:=rfl;cases r with
 | split n=>
  unfold Rh.pv;symm;simp? only[n1];symm;simp? only[wP,sQ,uH,i1,fl];exact q
 | join n=>
  unfold Rh.pv;symm;simp? only[n2];symm;simp? only[wP,sQ,uH,i2,fl];exact q
 | pl r=>
  obtain⟨g,d⟩:=r;have hq:Q d.pv st:=q;cases g with
  | none=>
   obtain⟨k,more,e,k1,k2⟩:=d.form2;show u9 _ _ _ (pO _ [d.pv]) _;rw[e]at hq⊢
   symm;simp? only[k1];symm;simp? only[wP,sQ,uH,k2,fl];exact hq
  | some x=>
   show u9 _ _ _ (pO _ [.tup [.str "when",uV x,d.pv]]) _;symm;simp? only[beq_self_eq_true];exact zln hq
theorem zn9 {f:Addr}{fd:FuncData}(M:Mo K mg)(F:yP K "come_to" "come_to" fK f fd):yG P w K mg base yH 1 f fd ["links","one"] (yC K zib):=by
 refine xH 0 F kY (λxs st Q h=>by obtain⟨lk,g,n,one,rfl,_⟩:=h;rfl) ⟨_,λcdv A outer s H E hr=>(zA (qz 2 kY.nd gH)
   (zA (qz 3 kY.nd (u5 (z3 (qv 1) z4)))
   (zA (gJ cm (tK (qv 3)) (zA (qz 4 kY.nd (zh8 bm ly lz (by decide) zgW (qv 3)))
   (zH (wO cm rfl (uU (qx hr (qv 0) (qv 4))) (qn 5 kY.nd) (zH (yF (pE (zch hr) (qv 5) (qv 2) (by rfl)) (zA (tJ vB (rM hr (qv 2) (qv 5)))
   (zH (x9 (x8 bm bv bw (by decide) xX (qv 3) (z3 (qv 5) z4))))) yN))))))
   (zH (y3 (qv 2)))))),λxs st Q h=> ?_⟩
 obtain⟨lk,g,n0,one,rfl,H,ho,q⟩:=h;have hsz:=H.sz;have big0:(3000:Nat) < sizeLine:=by rw[cp];decide
 have g1: ∀{x y:PO},(st++ [x]++ [y])[st.length]?=some x:=λ{x y} =>by rw[au,aj (ak _),cv];rfl
 have g2: ∀{x y:PO},(st++ [x]++ [y])[st.length+1]?=some y:=λ{x y} =>by rw[au,aj (by omega),show st.length+1 - st.length=1 by omega];rfl
 have s1: ∀{x y z:PO},(st++ [x]++ [y]).set st.length z=st++ [z]++ [y]:=λ{x y z} =>by rw[au,cq _ _ (ak _),cv];simp
 have s2: ∀{x y z:PO},(st++ [x]++ [y]).set (st.length+1) z=st++ [x]++ [z]:=λ{x y z} =>by rw[au,cq _ _ (by omega),show st.length+1 - st.length=1 by omega];simp
 have t1: ∀{x y:PO},(st++ [x]++ [y]).take st.length=st:=λ{x y} =>by rw[au,cr (ak _),fk]
 have len1': ∀{x:PO},(st++ [x]).length=st.length+1:=by simp
 have big:(3000:Nat) < sizeLine:=by rw[cp];decide
 symm
 ac_nf
 symm
 ac_nf
 rw[len1'];symm;refine⟨λm env s=> ∃(wt ms:List Nat) (v w:Option PV),env= [some (.lst lk),some (.int (one:Int)),some (.obj st.length),some (.obj (st.length+1)),v,w]/\s=st++ [.dct (xS ms)]++ [.lst (wt.map zE)]/\ms.Nodup/\(∀x∈ms,Rn g one x)/\(∀x∈wt,x=one∨x∈ms)/\(∀x,(x=one∨x∈ms)->x∉wt->∀y∈g x,y∈ms)/\m=(n0 - ms.length)+wt.length/\wt.length<=1+ms.length,⟨_,[one],[],none,none,rfl,rfl,uu,by simp,by simp,λx hx hn=>by simp at hx hn;exact absurd hx hn,rfl,by simp⟩,?_⟩;rintro m env s ⟨wt,ms,v,w,rfl,rfl,hmn,hmr,hwm,hcl,rfl,hwl⟩;have hmi: ∀x∈ms,x < n0:=λx hx=>(hmr x hx).in_ H.cl ho;have nsl: ∀{l:List Nat},l.Nodup->(∀x∈l,x < n0)->l.length<=n0:=λ{l} h1 h2=>by have:=p7 (m:=List.range n0) h1 λx hx=>dk.mpr (h2 x hx);rwa [dz]at this
 have hml:ms.length<=n0:=nsl hmn hmi;simp? only[g2];rcases uv wt with rfl | ⟨wt',n,rfl⟩
 ·simp? only[g1,t1]
  unfold xA;dsimp only;rw[if_neg (ck _),g1];dsimp only;rw[t1];refine q ms λx=>⟨hmr x,λh=> ?_⟩;have cl: ∀x,(x=one∨x∈ms)->∀y∈g x,y∈ms:=λx hx=>hcl x hx (by simp)
  induction h with
  | one h=>exact cl one (.inl rfl) _ h
  | more _ h ih=>exact cl _ (.inr ih) _ h
 ·rw[uw]at *
  have hno:n=one∨n∈ms:=hwm n (by simp);have nm:n < n0:=hno.elim (λe=>e▸ho) (hmi n);have hgl:((wt'++ [n]).map zE).getLast?=some (.int (n:Int)):=by simp
  have hdl:((wt'++ [n]).map zE).dropLast=wt'.map zE:=by simp
  have hne:((wt'++ [n]).map zE).isEmpty=false:=by simp
  have gvn:atI lk (n:Int)=some (.lst ((g n).map zE)):=H.ix nm;simp? only[hne];refine⟨λe s=> ∃(wt2 ms2:List Nat) (v w:Option PV),e= [some (.lst lk),some (.int (one:Int)),some (.obj st.length),some (.obj (st.length+1)),v,w]/\s=st++ [.dct (xS ms2)]++ [.lst (wt2.map zE)]/\ms2.Nodup/\(∀x∈ms2,Rn g one x)/\(∀x∈wt2,x=one∨x∈ms2)/\(∀x,(x=one∨x∈ms2)->x∉wt2->∀y∈g x,y∈ms2)/\(n0 - ms2.length)+wt2.length < (n0 - ms.length)+(wt'++ [n]).length/\wt2.length<=1+ms2.length,?_,?_⟩
  ·rintro e s ⟨wt2,ms2,v,w,h1,h2,h3,h4,h5,h6,h7,h8⟩
   exact⟨_,h7,wt2,ms2,v,w,h1,h2,h3,h4,h5,h6,rfl,h8⟩
  ·symm
   simp? only[g2,hgl,hdl,s2];simp? only[gvn];refine wL (λk env s=> ∃(wt2 ms2:List Nat) (w:Option PV),env= [some (.lst lk),some (.int (one:Int)),some (.obj st.length),some (.obj (st.length+1)),some (.int (n:Int)),w]/\s=st++ [.dct (xS ms2)]++ [.lst (wt2.map zE)]/\ms2.Nodup/\(∀x∈ms2,Rn g one x)/\(∀x∈wt2,x=one∨x∈ms2)/\(∀x∈ms,x∈ms2)/\(∀x∈(g n).take k,x∈ms2)/\(∀x∈ms2,x∈ms∨x∈wt2)/\(∀x∈wt',x∈wt2)/\(n0 - ms2.length)+wt2.length=(n0 - ms.length)+wt'.length/\wt2.length+ms.length=wt'.length+ms2.length) ⟨wt',ms,w,rfl,rfl,hmn,hmr,λx hx=>hwm x (by simp[hx]),λx hx=>hx,by simp,λx hx=> .inl hx,λx hx=>hx,rfl,rfl⟩ ?_ ?_
   ·rintro k x env s hx ⟨wt2,ms2,w,rfl,rfl,h3,h4,h5,h6,h7,h8,h9,h10,h11⟩
    obtain⟨y,hy,rfl⟩:=vX hx;have hyg:y∈g n:=ap.mpr ⟨k,hy⟩;have hyr:Rn g one y:=hno.elim (λe=> .one (e▸hyg)) λhm=> .more (hmr n hm) hyg;have hin: ∀{Q:K3},wP true (.int (y:Int)) (.obj st.length) (st++ [.dct (xS ms2)]++ [.lst (wt2.map zE)]) Q=Q (.bl (!decide (y∈ms2))) (st++ [.dct (xS ms2)]++ [.lst (wt2.map zE)]):=λ{Q} =>by
     unfold wP sQ q5;dsimp only;rw[g1];show Q (.bl (!(zO (xS ms2) (.inl (y:Int))).isSome)) _=_;rw[fU]
    have hm2:ms2.length<=n0:=nsl h3 λx hx=>(h4 x hx).in_ H.cl ho;simp? only[hin];by_cases hd:y∈ms2
    ·have hdd:decide (y∈ms2)=true:=decide_eq_true hd
     simp? only[hdd];refine⟨wt2,ms2,_,rfl,rfl,h3,h4,h5,h6,λx hx=> ?_,h8,h9,h10,h11⟩;rw[sT hy]at hx;rcases av.mp hx with hx | hx
     ·exact h7 x hx
     ·rw[aq.mp hx];exact hd
    ·have hdd:decide (y∈ms2)=false:=decide_eq_false hd
     have hm3:(ms2++ [y]).length<=n0:=nsl (l:=ms2++ [y]) (bp.mpr ⟨h3,by simp,λa ha b hb=>by rw[aq.mp hb];exact λz=>hd (z▸ha)⟩) λx hx=>by
      rcases av.mp hx with hx | hx
      ·exact(h4 x hx).in_ H.cl ho
      ·rw[aq.mp hx];exact hyr.in_ H.cl ho
     rw[af,bi]at hm3;have htl:(xS ms2).length=ms2.length:=by unfold xS;rw[aa]
     have hw2:wt2.length<=1000:=by rw[af,bi]at hwl;omega
     have tn:=zi2 hd;simp? only[hdd];symm;simp? only[g1,s1,htl,tn];refine⟨by omega,?_⟩;simp? only[g2,s2,aa];refine⟨by omega,wt2++ [y],ms2++ [y],_,rfl,by simp,bp.mpr ⟨h3,by simp,λa ha b hb=>by rw[aq.mp hb];exact λz=>hd (z▸ha)⟩,λx hx=> ?_,λx hx=> ?_,λx hx=>az _ (h6 x hx),λx hx=> ?_,λx hx=> ?_,λx hx=>az _ (h9 x hx),by simp only[af,bi];omega,by simp only[af,bi];omega⟩
     ·rcases av.mp hx with hx | hx
      ·exact h4 x hx
      ·rw[aq.mp hx];exact hyr
     ·rcases av.mp hx with hx | hx
      ·exact(h5 x hx).imp id (az _)
      ·exact .inr (al _ hx)
     ·rw[sT hy]at hx
      rcases av.mp hx with hx | hx
      ·exact az _ (h7 x hx)
      ·exact al _ hx
     ·rcases av.mp hx with hx | hx
      ·exact(h8 x hx).imp id (az _)
      ·exact .inr (al _ hx)
   ·rintro env s ⟨wt2,ms2,w,rfl,rfl,h3,h4,h5,h6,h7,h8,h9,h10,h11⟩
    rw[aa,cc (ak _)]at h7
    ac_nf
    rw[af,bi]at hwl;refine⟨wt2,ms2,_,_,rfl,rfl,h3,h4,h5,λx hx hxw=> ?_,by rw[af,bi];omega,by omega⟩;by_cases hxn:x=n
    ·subst hxn;exact h7
    ·have hx2:x=one∨x∈ms:=hx.elim .inl λhx=>(h8 x hx).elim .inr λz=>absurd z hxw
     exact λy hy=>h6 y (hcl x hx2 (λz=>by
      rcases av.mp z with z | z
      ·exact hxw (h9 x z)
      ·exact hxn (aq.mp z)) y hy)
theorem zhd {f:Addr}{fd:FuncData}(M:Mo K mg)(F:yP K "stretches" "stretches" fO f fd):yG P w K mg base yH 2 f fd ["program"] (yC K zqu):=by
 obtain⟨_,_,zdS,zks,zm_⟩:=M.deed_of;have zj2:= @znA P w K mg base _ _ M zdS;refine xH 1 F oS (λxs st Q h=>by obtain⟨sh,hs,rfl,_⟩:=h;rfl) ⟨_,λcdv A outer s H E hr=>have hr1:zU 1 _:=hr.mono (by decide);(zA (qz 1 oS.nd (u5 z4))
   (zA (wO cm rfl (uU (qx hr (qv 0) z7)) (qn 2 oS.nd) (zA (qz 3 oS.nd z7)
   (zA (wO cm rfl (zh_ (by rfl) M.enumerate (z3 (qx hr (qv 2) z7) z4)) (uL (n:=2) rfl (yX (qn 4 oS.nd) (yX (qn 5 oS.nd) u6))) (zH (yF (qc zne (qk zj2 hr1 zm_ zdS zks (z3 (qv 5) z4)) zh9) (zA (x9 (x8 bm bv bw (by decide) xX (qv 1) (z3 (yJ (z3 (qx hr (qv 2) z7) (z3 (qv 3) (z3 (qv 4) z4)))) z4)))
   (zH (qz 3 oS.nd (zM y9 (qv 4) z7)))) yN)))
   (zH (x9 (x8 bm bv bw (by decide) xX (qv 1) (z3 (yJ (z3 (qx hr (qv 2) z7) (z3 (qv 3) (z3 (yB yM (by rfl) M.len bu (z3 (qx hr (qv 2) z7) z4)) z4)))) z4)))))))
   (zH (y3 (qv 1))))),λxs st Q h=> ?_⟩
 obtain⟨sh,hs,rfl,hl,rl,q⟩:=h;unfold vT;have big:(1000:Nat) < sizeLine:=by rw[cp];decide
 symm
 ac_nf
 symm
 ac_nf
 refine wL (λk env s=> ∃v2 v3 v4 v5,env= [some (.tup [.tup (sh.map wS),.tup (hs.map xR)]),some (.obj st.length),v2,v3,v4,v5]/\s=st++ [.lst (yK (hs.take k))]) ⟨none,none,none,none,rfl,by simp[yK,SS]⟩ ?_ ?_
 ·rintro k x env s hx ⟨v2,v3,v4,v5,rfl,rfl⟩
  obtain⟨h,hh,rfl⟩:=vX hx;have hm:h∈hs:=ap.mpr ⟨k,hh⟩;have hrl:=rl h hm;have hsl:=dQ (hs:=hs.take k) λh hh=>rl h (mf hh);have htk:(hs.take k).length<=8:=by rw[cf];omega
  have hbl:(yK (hs.take k)).length<=248:=by unfold yK;rw[aa];omega
  have hsn:=sT hh;unfold xR wS lP
  ac_nf
  symm
  ac_nf
  symm
  ac_nf
  refine⟨_,rfl,wL (λj env s=> ∃v4 v5,env= [some (.tup [.tup (sh.map wS),.tup (hs.map xR)]),some (.obj st.length),some (.tup [.str h.1,.tup (h.2.map Rh.pv)]),some (.int (qX 0 (y7 0 (h.2.take j)):Nat)),v4,v5]/\s=st++ [.lst (yK (hs.take k)++qL h (y7 0 (h.2.take j)))]) ⟨v4,v5,rfl,by simp[y7,qL]⟩ ?_ ?_⟩
  ·rintro j y env s hy ⟨v4,v5,rfl,rfl⟩
   obtain⟨y,hy2,rfl⟩:=o4 hy;obtain⟨r,hr,rfl⟩:=vX hy2;have hj:j < h.2.length:=(ad.mp hr).1;have hjs:=sT hr;have hjl:(h.2.take j).length=j:=zdp hr;have hJ:=zii (h:=h) (rs:=h.2.take j);have hcs:y7 0 (h.2.take (j+1))=y7 0 (h.2.take j)++(if r.cut then [j]else []):=by rw[hjs,cW,hjl,lw]
   ac_nf
   refine⟨r,rfl,?_⟩;cases hc:r.cut with
   | true=>
    rw[hc,if_pos rfl]at hcs;have hd:b8 r.deed= .non:=by cases r <;> first | rfl | cases hc
    rw[hd]
    ac_nf
    symm;simp? only[af];exact⟨by omega,_,_,by rw[hcs,zg7];rfl,by rw[hcs,zq2,au];rfl⟩
   | false=>
    rw[hc,if_neg (by decide),db]at hcs;have hd: ∃more,b8 r.deed= .tup more:=by
     cases r with
     | pl r=>obtain⟨k,more,e,_⟩:=r.2.form2;exact⟨_,e⟩
     | split=>cases hc
     | join=>cases hc
    obtain⟨more,hd⟩:=hd;rw[hd]
    ac_nf
    exact⟨_,_,by rw[hcs],by rw[hcs]⟩
  ·rintro env s ⟨v4,v5,rfl,rfl⟩
   rw[rB,aa,cc (ak _)];have hJ:=zii (h:=h) (rs:=h.2);simp? only[af,aa];refine⟨by omega,_,_,_,_,rfl,?_⟩;unfold yK;rw[hsn,zei,ao,zq1,<- au];rfl
 ·rintro env s ⟨v2,v3,v4,v5,rfl,rfl⟩
  rw[aa,cc (ak _)]
  ac_nf
  exact q
theorem nd0:(["program","rows_of","cut","first_of","last_of","number","?6","behind","row","stretch"]:List Str).Nodup:=by decide+kernel
theorem zhc {f:Addr}{fd:FuncData}(M:Mo K mg)(F:yP K "straight_behind" "straight_behind" j5 f fd):yG P w K mg base yH 3 f fd ["program"] (yC K zqr):=by
 obtain⟨_,_,mR,cK,zcc⟩:=M.stretches;have dA:= @zhd P w K mg base _ _ M mR;refine xH 0 F sP (λxs st Q h=>by obtain⟨sh,hs,rfl,_⟩:=h;rfl) ⟨_,λcdv A outer s H E hr=>have hr2:zU 2 _:=hr.mono (by decide);(zA (qz 1 sP.nd (vK (znb rfl) (by rfl) M.dict zez (z3 (qx hr (qv 0) z7) z4)))
   (zA (qz 2 sP.nd (qk dA hr2 zcc mR cK (z3 (qv 0) z4)))
   (zA (qz 3 sP.nd gH)
   (zA (qz 4 sP.nd gH)
   (zA (wO cm rfl (zc1 (by rfl) M.enumerate (z3 (qv 2) z4)) (uL (n:=2) rfl (yX (qn 5 sP.nd) (yX (qn 6 sP.nd) u6))) (zA (x9 (x8 PySem.F.plainAttrs_dict ox PySem.F.type_dict_setdefault (by decide) znl (qv 3) (z3 (qx hr (qv 6) z7) (z3 (qv 5) z4))))
   (zH (tJ (qv 5) (rM hr (qv 4) (qx hr (qv 6) z7))))))
   (zhE (zhC (i0:=7) (own:= ["stretch"]) (uF (fsc:=y4 j5) (N:= ["program","rows_of","cut","first_of","last_of","number","stretch","behind","row"]) (N':= ["program","rows_of","cut","first_of","last_of","number","?6","behind","row"]) rfl rfl (by decide+kernel)) sP.nd rfl (Or.inl rfl) rfl (uU (qv 2)) (λC s H fp pins=>(qn 9 nd0)) (λC s H fp pins=>sO) (λC s H fp pins=>(u5 z4))) (wO cm rfl (zc1 (by rfl) M.enumerate (z3 (qv 2) z4)) (uL (n:=2) rfl (yX (qn 5 sP.nd) (yX (qn 6 sP.nd) u6))) (zA (yF (qc (xG hr) (qv 5) (qx hr (qv 4) (qx hr (qv 6) z7))) (zH zpo) yN)
   (zA (x9 (x8 bm bv bw (by decide) xX (wN (nS hr) (qv 7) (qv 5) (λ_ _=>rfl)) (z3 (zM y9 (qv 5) z7) z4)))
   (zA (qz 8 sP.nd (qx hr (qx hr (qv 1) (qx hr (qv 6) z7)) (qx hr (qv 6) z7)))
   (zH (yF (qc (xG hr) (qx hr (qv 8) z7) zJ) (zH (x9 (x8 bm bv bw (by decide) xX (wN (nS hr) (qv 7) (qv 5) (λ_ _=>rfl)) (z3 (qx hr (qv 3) (qx hr (qv 8) z7)) z4)))) (zH (x9 (x8 bm bv bw (by decide) xX (wN (nS hr) (qv 7) (qx hr (qv 4) (qx hr (qv 8) z7)) (λ_ _=>rfl)) (z3 (zM y9 (qv 5) z7) z4))))))))))
   (zH (y3 (qv 7))))))))),λxs st Q h=> ?_⟩
 obtain⟨sh,hs,rfl,S,q⟩:=h;have hn:=S.hn;have rl:=S.rl;have hl:=S.hl;have hsz:=S.g.sz;have big:(1000:Nat) < sizeLine:=by rw[cp];decide
 obtain⟨N,eN⟩: ∃N,NN (zD hs)=N:=⟨_,rfl⟩;obtain⟨cs,ecs⟩: ∃cs,zD hs=cs:=⟨_,rfl⟩;have hsl:(yK hs).length=N:=by unfold yK;rw[aa,uO,eN]
 have hpg:vT sh hs= .tup [.tup (sh.map wS),.tup (hs.map xR)]:=rfl;rw[hpg];symm;simp? only[zc3];refine⟨pJ hs,zpH,?_⟩;symm
 ac_nf
 refine⟨sh,hs,rfl,hl,rl,?_⟩;symm
 ac_nf
 symm
 ac_nf
 rw[zjF];symm
 ac_nf
 refine⟨_,rfl,.inr ⟨_,_,rfl,jZ,?_⟩⟩;have l1: ∀{x:PO},(st++ [x]).length=st.length+1:=λ{x} =>by simp
 have l2: ∀{x y:PO},(st++ [x]++ [y]).length=st.length+2:=λ{x y} =>by simp
 dsimp only;rw[l1,l2];refine wL (λk env s=> ∃(F L:List (z8×PV)) (v5 v6:Option PV),env= [some (.tup [.tup (sh.map wS),.tup (hs.map xR)]),some (.dct (tH [] (pJ hs))),some (.obj st.length),some (.obj (st.length+1)),some (.obj (st.length+2)),v5,v6,none,none]/\s=S3 st (.lst (yK hs)) (.dct F) (.dct L)/\pV hs k F/\jS hs k L) ⟨[],[],none,none,rfl,rfl,⟨λh _=>by rw[if_neg (mo _)];rfl,ak _⟩,⟨λh _ z=>absurd z (mo _),ak _⟩⟩ ?_ ?_
 ·rintro k x env s hx ⟨F,L,v5,v6,rfl,rfl,hF,hL⟩
  refine⟨jZ,?_⟩;obtain⟨y,hy,rfl⟩:=o4 hx;obtain⟨s,hs',rfl⟩:=vX hy;have hkN:k < N:=by rw[<- eN,<- uO];exact(ad.mp hs').1
  obtain⟨h,hh,j,hj,rfl⟩:=dR hn (show k < NN (zD hs) by rw[eN];exact hkN);rw[n5 hn hh hj]at hs';have hs1:=(pN hs').1;have hFl:=hF.2;have hLl:=hL.2;have hL2:=hL.put hn hh hj;have hF0:=hF;obtain⟨k,ek⟩: ∃k,zN (zD hs) h.1+j=k:=⟨_,rfl⟩;unfold wI;rw[hs1];rw[ek]at hF hL hFl hLl hL2 hkN⊢
  ac_nf
  symm;simp? only[zhI,dO];refine⟨_,.inr h.1,F,_,_,rfl,rfl,rfl,rfl,dO,by omega,?_⟩;rcases Nat.eq_zero_or_pos j with rfl | h0
  ·rw[rf]at ek
   subst ek;obtain⟨g1,g2⟩:=hF.new hn hh;refine .inr ⟨g1,?_⟩;rw[zjG];simp? only[dP,zef];exact⟨by omega,_,_,_,_,rfl,rfl,g2,hL2⟩
  ·obtain⟨g1,g2⟩:=hF0.old hn hh h0 hj
   rw[ek]at g2;refine .inl ⟨_,g1,?_⟩;simp? only[dP,zef];exact⟨by omega,_,_,_,_,rfl,rfl,g2,hL2⟩
 ·rintro env s ⟨F,L,v5,v6,rfl,rfl,hF,hL⟩
  refine⟨jZ,?_⟩;rw[rB,hsl]at hF hL;obtain⟨U,eUU⟩: ∃U,S3 st (.lst (yK hs)) (.dct F) (.dct L)=U:=⟨_,rfl⟩;have u0:U[st.length]?=some (.lst (yK hs)):=by rw[<- eUU];exact jZ
  have u1:U[st.length+1]?=some (.dct F):=by rw[<- eUU];exact dO
  have u2:U[st.length+2]?=some (.dct L):=by rw[<- eUU];exact dP
  have ut:U.take st.length=st:=by rw[<- eUU];exact zjH
  have ul:st.length<=U.length:=by rw[<- eUU,zjE];omega
  rw[eUU];dsimp only;symm;unfold zdz;symm;simp? only[zi8,u0];refine zeC (λm=>by show(U++_)[st.length]?=_;rw[ax (ad.mp u0).1];exact u0) ?_;have e0:U++List.replicate (yK hs).length (PO.lst [])++ [PO.ros (xZ U.length (yK hs).length)]=sL U (yQ N (eU cs 0)):=by
   show _=sL U (yQ N []);unfold sL;rw[zel,hsl,wm,dq,au]
  have e1:(U++List.replicate (yK hs).length (PO.lst [])).length=U.length+N:=by rw[af,dq,hsl]
  rw[e0,e1];refine⟨_,rfl,.inr ⟨_,_,rfl,kM u0,?_⟩⟩;dsimp only;refine wL (λk env s=> ∃(v5 v6 v8:Option PV),env= [some (.tup [.tup (sh.map wS),.tup (hs.map xR)]),some (.dct (tH [] (pJ hs))),some (.obj st.length),some (.obj (st.length+1)),some (.obj (st.length+2)),v5,v6,some (.obj (U.length+N)),v8]/\s=sL U (yQ N (eU cs k))) ⟨_,_,_,rfl,rfl⟩ ?_ ?_
  ·rintro k x env s hx ⟨v5,v6,v8,rfl,rfl⟩
   refine⟨kM u0,?_⟩;obtain⟨y,hy,rfl⟩:=o4 hx;obtain⟨s,hs',rfl⟩:=vX hy;have hkN:k < N:=by rw[<- eN,<- uO];exact(ad.mp hs').1
   obtain⟨h,hm,j,hj,ek⟩:=dR hn (show k < NN (zD hs) by rw[eN];exact hkN);rw[ek,n5 hn hm hj]at hs';obtain⟨hs1,_,_,_,hs5⟩:=pN hs';rw[ecs]at ek;have hmc:h.1∈cs.map (·.1):=by rw[<- ecs,wZ];exact br hm
   have hlt:=t5 hmc;have hlk:wA cs h.1=zL h.2:=by rw[<- ecs];exact vW hn hm
   rw[hlk,<- ecs,eN,ecs]at hlt;have hek:eK cs k=eJ cs h.1 j:=by rw[ek];exact lI hmc (by rw[hlk];exact hj)
   obtain⟨z,ez⟩: ∃z,zN cs h.1+(zL h.2).length=z:=⟨_,rfl⟩;have lv:zO L (.inr h.1)=some (.int (z:Int)):=by rw[hL.1 h hm (by rw[ecs];omega),ecs,show min (N - 1) (zN cs h.1+(zL h.2).length)=z by omega]
   have s1: ∀{E:List (Nat×Nat)},(sL U (yQ N E))[st.length+1]?=some (.dct F):=kM u1;have s2: ∀{E:List (Nat×Nat)},(sL U (yQ N E))[st.length+2]?=some (.dct L):=kM u2;have heq:((k:Int)==(z:Int))=decide (j=(zL h.2).length):=by
    rw[ln,beq_iff_eq,decide_eq_true_eq];omega
   unfold wI;rw[hs1]
   ac_nf
   symm;simp? only[s2,lv,heq];by_cases hjm:j=(zL h.2).length
   ·have hd:decide (j=(zL h.2).length)=true:=decide_eq_true hjm
    have hek0:eK cs k= []:=by rw[hek];unfold eJ;rw[hlk,jp (by omega)]
    simp? only[hd];exact⟨_,_,_,rfl,by rw[lJ,hek0,db]⟩
   have hd:decide (j=(zL h.2).length)=false:=decide_eq_false hjm;have hj2:j < (zL h.2).length:=by omega
   obtain⟨c,hc⟩: ∃c,(y7 0 h.2)[j]?=some c:=⟨_,am (by rw[t8];exact hj2)⟩;rw[ax (by rw[t8];exact hj2),hc]at hs5;have e5:s.2.2=c:=(bx hs5).symm;obtain⟨_,r,hr1,hc2⟩:=lC hc;have hat:atI (h.2.map Rh.pv) (c:Int)=some r.pv:=xJ (by rw[aw,hr1];rfl);have hrv:=zpI hn hm;have hekr:eK cs k=tW cs k r:=by rw[hek,ek];unfold eJ;rw[hlk,hc2]
   have hEl:=b9 (cs:=cs) (k:=k);have hal:=nA (E:=eU cs k) (i:=k);have hx1:((k:Nat):Int)+1=((k+1:Nat):Int):=rfl;have xr:atI (xZ U.length N) (k:Int)=some (.obj (U.length+k)):=m6 hkN;have xa: ∀{E:List (Nat×Nat)},(sL U (yQ N E))[U.length+k]?=some (.lst ((w4 E k).map zE)):=m7 (pX hkN);have hro: ∀{E:List (Nat×Nat)},(sL U (yQ N E))[U.length+N]?=some (.ros (xZ U.length N)):=zhS n9;have hal2: ∀{i:Nat},(w4 (eU cs k++ [(k,k+1)]) i).length<=100:=λ{i} =>by have:=nA (E:=eU cs k++ [(k,k+1)]) (i:=i);rw[af,bi]at this;omega
   rw[e5];rw[lJ,hekr];simp? only[hd];symm;simp? only[hro,xr,xa,aa];refine⟨by omega,?_⟩;rw[hx1,oK hkN];cases r with
   | pl r=>
    have:=(cX (ap.mpr ⟨_,hc2⟩)).2;cases this
   | split y=>
    obtain⟨hy,hym,rfl⟩: ∃hy∈hs,hy.1=y:=by
     have:=S.g.cl (h.1,zL h.2) (br hm) _ (ap.mpr ⟨_,hc2⟩) y (.inl rfl);rw[wZ]at this;exact ca.mp this
    have hyc:hy.1∈cs.map (·.1):=by rw[<- ecs,wZ];exact br hym
    have hyk:wA cs hy.1=zL hy.2:=by rw[<- ecs];exact vW hn hym
    have hyl:=t5 hyc;rw[hyk,<- ecs,eN,ecs]at hyl;have fv:zO F (.inr hy.1)=some (.int ((zN cs hy.1:Nat):Int)):=by rw[hF.1 hy hym,ecs,if_pos (by omega)]
    obtain⟨z2,ez2⟩: ∃z,zN cs hy.1+(zL hy.2).length=z:=⟨_,rfl⟩;have lv2:zO L (.inr hy.1)=some (.int (z2:Int)):=by rw[hL.1 hy hym (by rw[ecs];omega),ecs,show min (N - 1) (zN cs hy.1+(zL hy.2).length)=z2 by omega]
    rw[ez2]at hyl;have yr:atI (xZ U.length N) (z2:Int)=some (.obj (U.length+z2)):=m6 hyl;have ya: ∀{E:List (Nat×Nat)},(sL U (yQ N E))[U.length+z2]?=some (.lst ((w4 E z2).map zE)):=m7 (pX hyl);have hrp:(Rh.split hy.1).pv= .tup [.str "split",.str hy.1]:=rfl;rw[hrp]at hat;symm;simp? only[hrv,hat];simp? only[s1,fv,hro,xr,xa,aa];refine⟨by have:=hal2 (i:=k);omega,_,_,_,rfl,?_⟩;rw[oK hkN,au]
    rfl
   | join y=>
    obtain⟨hy,hym,rfl⟩: ∃hy∈hs,hy.1=y:=by
     have:=S.g.cl (h.1,zL h.2) (br hm) _ (ap.mpr ⟨_,hc2⟩) y (.inr rfl);rw[wZ]at this;exact ca.mp this
    have hyc:hy.1∈cs.map (·.1):=by rw[<- ecs,wZ];exact br hym
    have hyk:wA cs hy.1=zL hy.2:=by rw[<- ecs];exact vW hn hym
    have hyl:=t5 hyc;rw[hyk,<- ecs,eN,ecs]at hyl;have fv:zO F (.inr hy.1)=some (.int ((zN cs hy.1:Nat):Int)):=by rw[hF.1 hy hym,ecs,if_pos (by omega)]
    obtain⟨z2,ez2⟩: ∃z,zN cs hy.1+(zL hy.2).length=z:=⟨_,rfl⟩;have lv2:zO L (.inr hy.1)=some (.int (z2:Int)):=by rw[hL.1 hy hym (by rw[ecs];omega),ecs,show min (N - 1) (zN cs hy.1+(zL hy.2).length)=z2 by omega]
    rw[ez2]at hyl;have yr:atI (xZ U.length N) (z2:Int)=some (.obj (U.length+z2)):=m6 hyl;have ya: ∀{E:List (Nat×Nat)},(sL U (yQ N E))[U.length+z2]?=some (.lst ((w4 E z2).map zE)):=m7 (pX hyl);have hrp:(Rh.join hy.1).pv= .tup [.str "join",.str hy.1]:=rfl;rw[hrp]at hat;symm;simp? only[hrv,hat];simp? only[s2,lv2,hro,yr,ya,aa];refine⟨by have:=hal2 (i:=z2);omega,_,_,_,rfl,?_⟩;rw[hx1,oK hyl,au,<- ez2,<- hyk]
    rfl
  ·rintro env s ⟨v5,v6,v8,rfl,rfl⟩
   refine⟨kM u0,?_⟩;rw[rB,hsl];dsimp only;refine⟨U,yQ N (eU cs N),rfl,ak _,?_⟩;have hfr:nK U.length (U.length+(yQ N (eU cs N)).length) (.lst ((yQ N (eU cs N)).map PV.lst)) (some (.obj (U.length+N)))=some (.lst ((yQ N (eU cs N)).map PV.lst)):=by rw[n9];exact if_pos rfl
   have hq:oA hs= .lst ((yQ N (eU cs N)).map PV.lst):=by unfold oA;rw[ecs,<- ecs,eN,ecs]
   rw[hq]at q;simp? only[hfr,ut];exact q
theorem zn8 {f:Addr}{fd:FuncData}(M:Mo K mg)(F:yP K "ahead" "ahead" fH f fd):yG P w K mg base yH 4 f fd ["program","one","other"] (yC K zqb):=by
 obtain⟨_,_,zdR,zkr,zm9⟩:=M.come_to;have zj1:= @zn9 P w K mg base _ _ M zdR;obtain⟨_,_,mQ,cJ,zcb⟩:=M.straight_behind;have eZ:= @zhc P w K mg base _ _ M mQ;refine xH 0 F zpO (λxs st Q h=>by obtain⟨sh,hs,i,j,rfl,_⟩:=h;rfl) ⟨_,λcdv A outer s H E hr=>have hr1:zU 1 _:=hr.mono (by decide);have hr3:zU 3 _:=hr.mono (by decide);(zH (y3 (vZ (rJ hr) (qv 2) (qk zj1 hr1 zm9 zdR zkr (z3 (qk eZ hr3 zcb mQ cJ (z3 (qv 0) z4)) (z3 (qv 1) z4))) (by rfl)))),λxs st Q h=> ?_⟩;obtain⟨sh,hs,i,j,rfl,S,hi,q⟩:=h
 ac_nf
 obtain⟨lk,elk,H⟩:=zck S;refine⟨sh,hs,rfl,S,?_⟩;rw[elk]
 ac_nf
 refine⟨lk,_,_,i,rfl,H,hi,λms hms=> ?_⟩;have hin: ∀{Q:K3} {st:z5},wP false (.int (j:Int)) (.dct (xS ms)) st Q=Q (.bl (decide (j∈ms))) st:=λ{Q st} =>by rw[<- fU];rfl
 simp? only[zE,hin];exact q _ (by rw[decide_eq_true_eq];exact hms j)
theorem nd1:(["program","order","behind","?3","place_of","later_ones","place","number"]:List Str).Nodup:=by decide+kernel
theorem nd2:(["program","order","behind","number","place_of","later_ones","later"]:List Str).Nodup:=by decide+kernel
theorem znB {f:Addr}{fd:FuncData}(M:Mo K mg)(F:yP K "is_order" "is_order" mE f fd):yG P w K mg base yH 4 f fd ["program","order"] (yC K zqh):=by
 obtain⟨_,_,mQ,cJ,zcb⟩:=M.straight_behind;have eZ:= @zhc P w K mg base _ _ M mQ;refine xH 0 F kZ (λxs st Q h=>by obtain⟨sh,hs,os,rfl,_⟩:=h;rfl) ⟨_,λcdv A outer s H E hr=>have hr3:zU 3 _:=hr.mono (by decide);(zA (qz 2 kZ.nd (qk eZ hr3 zcb mQ cJ (z3 (qv 0) z4)))
   (zA (yF (qc (o8 hr) (yB zgY (by rfl) M.sorted xf (z3 (qv 1) z4)) (zcz false rfl (by rfl) M.list (by rfl) M.range (z3 (yB yM (by rfl) M.len bu (z3 (qv 2) z4)) z4))) (zH (y3 vB)) yN)
   (zA (nX (i:=4) kZ.nd rfl (Or.inr rfl) (vK (znc rfl) (by rfl) M.dict zez (z3 (oF (own:= ["place","number"]) (uF (fsc:=y4 mE) (N:= ["program","order","behind","number","place_of","later_ones"]) (N':= ["program","order","behind","?3","place_of","later_ones"]) rfl rfl (by decide+kernel)) rfl (zh_ (by rfl) M.enumerate (z3 (qv 1) z4)) (λC s H fp pins=>(uL (n:=2) rfl (yX (qn 6 nd1) (yX (qn 7 nd1) u6)))) (λC s H fp pins=>sO) (λC s H fp pins=>(yJ (z3 (qv 7) (z3 (qv 6) z4))))) z4)))
   (zA (wO cm rfl (zc1 (by rfl) M.enumerate (z3 (qv 2) z4)) (uL (n:=2) rfl (yX (pD (i:=3) kZ.nd rfl (Or.inr rfl)) (yX (qn 5 kZ.nd) u6))) (zH (yF (tK (yB (zcf rfl) (by rfl) M.any boot_any (z3 (oF (own:= ["later"]) (uF (fsc:=y4 mE) (N:= ["program","order","behind","number","place_of","later_ones"]) (N':= ["program","order","behind","number","place_of","later_ones"]) rfl rfl (by decide+kernel)) rfl (uU (qv 5)) (λC s H fp pins=>(qn 6 nd2)) (λC s H fp pins=>sO) (λC s H fp pins=>(vZ o7 (qx hr (qv 4) (qv 6)) (qx hr (qv 4) (qv 3)) (sM _)))) z4))) (zH (y3 vB)) yN)))
   (zH (y3 vB)))))),λxs st Q h=> ?_⟩
 obtain⟨sh,hs,os,rfl,S,h64,q⟩:=h;have hsz:=S.g.sz;have big:(1000:Nat) < sizeLine:=by rw[cp];decide
 obtain⟨lk,elk,H⟩:=zck S;obtain⟨N,eN⟩: ∃N,NN (zD hs)=N:=⟨_,rfl⟩;obtain⟨g,eg⟩: ∃g,gr (zD hs)=g:=⟨_,rfl⟩;have hq: ∀b:Bool,(b=true↔∃l:List Nat,os=yL l/\l.Perm (List.range N)/\dJ g l N)->Q (.bl b) st:=λb hb=>q b (by unfold oY;rw[eN,eg];exact hb);rw[eN,eg]at H;rw[eN]at hsz;have hlk:=H.len;symm
 ac_nf
 refine⟨sh,hs,rfl,S,?_⟩;rw[elk];symm;simp? only[gR];refine⟨os,rfl,h64,λns hp hsrt=> ?_⟩
 ac_nf
 refine⟨N,by rw[hlk],by omega,?_⟩
 ac_nf
 rw[zcP,bB,iK,iK];refine⟨⟨by decide,by decide⟩,?_⟩;by_cases hu:ns=uW N
 ·have hd:decide (ns=uW N)=true:=decide_eq_true hu
  obtain⟨l,rfl,hl⟩:=zhw hp hu;have hn:l.Nodup:=hl.nodup_iff.mpr rq;simp? only[hd];symm
  ac_nf
  refine⟨_,rfl,r6 gG (λi x e hx he=> ?_) ?_⟩
  ·obtain⟨y,hy,rfl⟩:=o4 hx
   obtain⟨a,b,rfl⟩:=zmm he;obtain⟨z,hz,rfl⟩:=vX hy
   ac_nf
   exact CP.yes (e':= [_,_]) hx rfl rfl
  simp? only[zc4];refine⟨qG l,zoH,?_⟩;have hin: ∀x,x < N->∃j,l[j]?=some x:=λx hx=>ap.mp (hl.mem_iff.mpr (dk.mpr hx));have hpv: ∀x,x < N->zO (tH [] (qG l)) (.inl (x:Int))=some (.int (l.idxOf x:Nat)):=λx hx=>by
   obtain⟨j,hj⟩:=hin x hx;rw[lQ hn hj];exact zoI hn hj
  symm
  ac_nf
  refine⟨_,rfl,.inl ⟨_,rfl,?_⟩⟩;dsimp only;refine wL (λk env s=> ∃(v3 v5:Option PV),env= [some (vT sh hs),some (.tup ((yL l).map PV.int)),some (.lst lk),v3,some (.dct (tH [] (qG l))),v5]/\s=st/\∀u,u < k->∀v∈g u,l.idxOf u<=l.idxOf v) ⟨_,_,rfl,rfl,λu hu=>absurd hu (mo _)⟩ ?_ ?_
  ·rintro k x env s hx ⟨v3,v5,rfl,rfl,hk⟩
   obtain⟨y,hy,rfl⟩:=o4 hx;have hkN:k < N:=by rw[<- hlk];exact(ad.mp hy).1
   rw[H.at_ k hkN]at hy;cases hy;have hpk:=hpv k hkN
   ac_nf
   refine r6 (λy=>match y with | .int i=>some (.bl (decide (l.idxOf i.toNat < l.idxOf k))) | _=>none) (λi x e hx2 he=> ?_) ?_
   ·obtain⟨v,hv,rfl⟩:=vX hx2
    obtain⟨a,rfl⟩:=sI he;have hvN:=H.cl k hkN v (ap.mpr ⟨i,hv⟩);have hpw:=hpv v hvN;have hi:decide (((l.idxOf v:Nat):Int) < ((l.idxOf k:Nat):Int))=decide (l.idxOf v < l.idxOf k):=decide_eq_decide.mpr wf;simp? only[zE,hpw,hpk,hi];exact CP.yes (e':= [_]) hx2 rfl rfl
   have hfm: ∀vs:List Nat,(vs.map zE).filterMap (λy=>match y with | .int i=>some (PV.bl (decide (l.idxOf i.toNat < l.idxOf k))) | _=>none)=(vs.map λv=>decide (l.idxOf v < l.idxOf k)).map PV.bl:=λvs=>by
    induction vs with
    | nil=>rfl
    | cons v vs ih=>rw[bb,cn,bb,bb];show PV.bl (decide (l.idxOf ((v:Nat):Int).toNat < l.idxOf k))::_=_;rw[dj,ih]
   rw[hfm];simp? only[kC];refine⟨_,rfl,?_⟩;cases ha:((g k).map λv=>decide (l.idxOf v < l.idxOf k)).any id with
   | true=>
    ac_nf
    refine hq false ⟨nofun,λ⟨l2,e2,_,o2⟩=> ?_⟩;obtain rfl:=zds e2;obtain⟨b,hb,eb⟩:=fz.mp ha;obtain⟨v,hv,rfl⟩:=ca.mp hb;have h1:=of_decide_eq_true eb;have h2:=o2 k hkN v hv;omega
   | false=>
    ac_nf
    refine⟨_,_,rfl,λu hu v hv=> ?_⟩;rcases lx u k with z | z
    ·exact hk u z v hv
    ·have:u=k:=by omega
     subst this;refine qq λz2=> ?_;have:((g u).map λv=>decide (l.idxOf v < l.idxOf u)).any id=true:=fz.mpr ⟨true,ca.mpr ⟨v,hv,decide_eq_true z2⟩,rfl⟩;rw[this]at ha;cases ha
  ·rintro env s ⟨v3,v5,rfl,rfl,hk⟩
   rw[rB,hlk]at hk
   ac_nf
   exact hq true ⟨λ_=>⟨l,rfl,hl,hk⟩,λ_=>rfl⟩
 ·have hd:decide (ns=uW N)=false:=decide_eq_false hu
  simp? only[hd];exact hq false ⟨nofun,λ⟨l,e,hl,_⟩=>absurd (zi9 hp hsrt e hl) hu⟩
theorem zci {f:Addr}{fd:FuncData}(M:Mo K mg)(F:yP K "_law_box" "_law_box" gX f fd):yG P w K mg base yH 1 f fd ["_law_script","_law_k"] (yC K zqd):=by
 refine xH 1 F kS (λxs st Q h=>by obtain⟨ns,k,rfl,_⟩:=h;rfl) ⟨_,λcdv A outer s H E hr=>(zA (qz 2 kS.nd (zM y9 (zM rL z7 (qv 1)) z7))
   (zA (yF (qc o7 (qv 1) (yB yM (by rfl) M.len bu (z3 (qv 0) z4))) (zH (qz 2 kS.nd (qx hr (qv 0) (qv 1)))) (zH (yF (qc vY (yB yM (by rfl) M.len bu (z3 (qv 0) z4)) z7) (zH (qz 2 kS.nd (zM y9 (qv 2) (zM rL (zM rK (qx hr (qv 0) (zM rK (qv 1) (yB yM (by rfl) M.len bu (z3 (qv 0) z4)))) z7) z7)))) yN)))
   (zA (qz 3 kS.nd (zM y9 (zM rK (zM y9 (zM rL (zM rK (qv 2) z7) z7) (zM rL z7 (qv 1))) z7) z7))
   (zH (y3 (u5 (z3 (zM rL (qv 2) (vK nR (by rfl) M.int pY (z3 (vZ zgU (qv 2) (zM znj z7 z7) (sM _)) z4))) (z3 (qv 3) z4)))))))),λxs st Q h=> ?_⟩
 obtain⟨ns,k,rfl,hl,hk,q⟩:=h
 simp_all? only[aa]
 have bit: ∀c:Int,-18446744073709551616 < (if decide (1000000000000000000<=c)=true then(1:Int)else 0)/\(if decide (1000000000000000000<=c)=true then(1:Int)else 0) < 18446744073709551616:=λc=>by split <;> exact⟨by decide,by decide⟩
 have fin: ∀c:Int,zZ (c * (if decide (1000000000000000000<=c)=true then(1:Int)else 0)) ((c % 2147483629 * 48271+40692 * k) % 2147483629+1):=λc=>by
  refine⟨?_,by omega,by omega⟩
  split
  ·rename_i h
   have:=of_decide_eq_true h;omega
  ·omega
 refine zbI (λh=> ?_) (λh=>zbI (λh2=> ?_) (λh2=> ?_))
 ·obtain⟨z,_,ez⟩:=nB PV.int (ns:=ns) hk (of_decide_eq_true h)
  simp_all? only[ez]
  exact⟨cU,.inr (bit z),q _ _ (fin z)⟩
 ·have hp:(0:Int) < ns.length:=of_decide_eq_true h2
  obtain⟨z,_,ez⟩:=nB PV.int (ns:=ns) (k:=k % ns.length) (or _ (by omega)) (ng _ hp)
  simp_all? only[ez]
  exact⟨hp,cU,.inr (bit _),q _ _ (fin _)⟩
 ·exact⟨cU,.inr (bit _),q _ _ (fin _)⟩
theorem vS {f:Addr}{fd:FuncData}(M:Mo K mg)(F:yP K "_law_take" "_law_take" fD f fd):yG P w K mg base yH 1 f fd ["_law_box_here","_law_many"] (yC K zie):=by
 refine xH 0 F zcX (λxs st Q h=>by obtain⟨i,many,a,b,rfl,_⟩:=h;rfl) ⟨_,λcdv A outer s H E hr=>(zA (yF (qc vY (qx hr (qv 0) z7) z7) (zA (qz 2 zcX.nd (zM rK (qx hr (qv 0) z7) (qv 1)))
   (zA (tJ (zM gC (qx hr (qv 0) z7) (qv 1)) (rM hr (qv 0) z7))
   (zH (y3 (qv 2))))) yN)
   (zA (qz 3 zcX.nd (zM rK (zM rL (qx hr (qv 0) z7) z7) z7))
   (zA (tJ (zM y9 (zM rK (zM y9 (zM rL (qv 3) z7) z7) z7) z7) (rM hr (qv 0) z7))
   (zH (y3 (zM rK (zM gC (zM y9 (zM rL (qv 3) z7) (qx hr (qv 0) z7)) z7) (qv 1))))))),λxs st Q h=> ?_⟩
 obtain⟨i,many,a,b,rfl,hi,⟨ha,hb,hb2⟩,hm,hm2,q⟩:=h
 simp_all? only[hi]
 refine zbI (λh=> ?_) (λh=> ?_)
 ·exact⟨hm,⟨hm,hm2⟩,q _ _ _ (or _ (by omega)) (ng _ hm) ⟨Int.ediv_nonneg ha (by omega),hb,hb2⟩⟩
 ·exact⟨hm,q _ _ _ (or _ (by omega)) (ng _ hm) ⟨ha,by omega,by omega⟩⟩
theorem nd3:(["_law_box_here","_law_many","_law_letters","?3","_law_common","_law_at","_law_first","_law_longer","_law_found","_law_word","_law_own","_law_k"]:List Str).Nodup:=by decide+kernel
theorem zn7 {f:Addr}{fd:FuncData}(M:Mo K mg)(F:yP K "_law_words" "_law_words" kQ f fd):yG P w K mg base yH 2 f fd ["_law_box_here","_law_many"] (yC K zqx):=by
 obtain⟨_,_,zQ,zX,zY⟩:=M._law_take;have zW:= @vS P w K mg base _ _ M zQ;refine xH 0 F tN (λxs st Q h=>by obtain⟨i,many,a,b,rfl,_⟩:=h;rfl) ⟨_,λcdv A outer s H E hr=>have hr1:zU 1 _:=hr.mono (by decide);(zA (nX (i:=2) tN.nd rfl (Or.inr rfl) zJ)
   (zA (qz 4 tN.nd (x8 PySem.F.plainAttrs_str PySem.F.slot_str_join PySem.F.type_str_join (by decide) znh zJ (z3 (oF (own:= ["_law_k"]) (uF (fsc:=y4 kQ) (N:= ["_law_box_here","_law_many","_law_letters","_law_k","_law_common","_law_at","_law_first","_law_longer","_law_found","_law_word","_law_own"]) (N':= ["_law_box_here","_law_many","_law_letters","?3","_law_common","_law_at","_law_first","_law_longer","_law_found","_law_word","_law_own"]) rfl rfl (by decide+kernel)) rfl (u7 (by rfl) M.range (z3 (qk zW hr1 zY zQ zX (z3 (qv 0) (z3 z7 z4))) z4)) (λC s H fp pins=>(qn 11 nd3)) (λC s H fp pins=>sO) (λC s H fp pins=>(qx hr (qv 2) (qk zW hr1 zY zQ zX (z3 (qv 0) (z3 z7 z4)))))) z4)))
   (zA (qz 5 tN.nd (qk zW hr1 zY zQ zX (z3 (qv 0) (z3 (zM y9 (yB yM (by rfl) M.len bu (z3 (qv 4) z4)) z7) z4))))
   (zA (qz 6 tN.nd (qk zW hr1 zY zQ zX (z3 (qv 0) (z3 z7 z4))))
   (zA (qz 7 tN.nd (qk zW hr1 zY zQ zX (z3 (qv 0) (z3 z7 z4))))
   (zA (qz 8 tN.nd (u5 z4))
   (zA (wO cm rfl (u7 (by rfl) M.range (z3 (qv 1) z4)) (qn 3 tN.nd) (zA (qz 9 tN.nd (zM y9 (zM y9 (wB (qv 4) wC (xY (qv 5))) (qx hr (qv 2) (zM rK (zM y9 (qv 6) (zM rL z7 (qv 3))) z7))) (wB (qv 4) (xY (qv 5)) wC)))
   (zH (x9 (x8 bm bv bw (by decide) xX (qv 8) (z3 (zM y9 (qv 9) (zM rL zJ (vK nR (by rfl) M.int pY (z3 (zcy (vZ (xG hr) (qv 7) z7 (sM _)) (zc0 (vZ (xG hr) (zM rK (qv 3) z7) z7 (sM _)))) z4)))) z4))))))
   (zA (qz 10 tN.nd (u3 (z3 zJ (z3 zJ (z3 zJ (z3 zJ (z3 zJ (z3 zJ (z3 zJ (z3 zJ (z3 zJ (z3 zJ (z3 zJ (z3 zJ z4))))))))))))))
   (zA (qz 10 tN.nd (zM y9 (qv 10) (u3 (z3 zJ (z3 zJ (z3 zJ (z3 zJ (z3 zJ (z3 zJ (z3 zJ (z3 zJ (z3 zJ (z3 zJ (z3 zJ z4))))))))))))))
   (zA (qz 10 tN.nd (zM y9 (qv 10) (u3 (z3 zJ (z3 zJ (z3 zJ (z3 zJ z4)))))))
   (zA (qz 9 tN.nd (qx hr (qv 10) (qk zW hr1 zY zQ zX (z3 (qv 0) (z3 z7 z4)))))
   (zA (yF (PW.pt (rN (qc (xG hr) (qk zW hr1 zY zQ zX (z3 (qv 0) (z3 z7 z4))) z7) (rO (pE (zch hr) (qv 9) (qv 8) (by rfl))))) (zH (tJ (qv 9) (rM hr (qv 8) (qk zW hr1 zY zQ zX (z3 (qv 0) (z3 (qv 1) z4)))))) yN)
   (zH (y3 (qv 8))))))))))))))),λxs st Q h=> ?_⟩
 obtain⟨i,many,a,b,rfl,hi,hb,h0,h10,q⟩:=h;have hil:=(ad.mp hi).1;have hset: ∀{a b:Int},(st.set i (z9 a b))[i]?=some (z9 a b):=λ{a b} =>sG hi;have hset2: ∀{a b:Int} {o:PO},(st.set i (z9 a b)++ [o])[i]?=some (z9 a b):=λ{a b o} =>zbB hset;have hput: ∀{a b c d:Int} {o:PO},(st.set i (z9 a b)++ [o]).set i (z9 c d)=st.set i (z9 c d)++ [o]:=λ{a b c d o} =>by rw[zdc (by rw[ci];exact hil),set_set]
 have hsl: ∀{o:PO},(st.set i o).length=st.length:=ci;have hat: ∀{a b:Int} {o:PO},(st.set i (z9 a b)++ [o])[st.length]?=some o:=λ{a b o} =>by rw[<- hsl (o:=z9 a b)];exact qE
 have hst2: ∀{a b:Int} {o o':PO},(st.set i (z9 a b)++ [o]).set st.length o'=st.set i (z9 a b)++ [o']:=λ{a b o o'} =>by rw[<- hsl (o:=z9 a b)];exact j0
 have small_l:(("abcdefghijklmnopqrstuvwxyz" :Str)).length<=sizeLine:=bq (m:=1000) (by decide+kernel) (by decide);have thou: ∀{n:Nat},n<=1000->n<=sizeLine:=λh=>bq h (by decide);symm
 ac_nf
 symm
 ac_nf
 refine⟨i,7,a,b,rfl,hi,hb,by decide,by decide,λd a b d0 d1 hb=> ?_⟩
 ac_nf
 refine⟨⟨by omega,by omega⟩,λk ys env s=> ∃(xs:List Str) (v:Option PV) (a b:Int),ys=xs.map PV.str/\xs.length=k/\(∀x∈xs,x.length<=1)/\env= [some (PV.obj i),some (PV.int many),some (PV.str "abcdefghijklmnopqrstuvwxyz"),none,none,none,none,none,none,none,none,v]/\zZ a b/\s=st.set i (z9 a b),
  ⟨[],none,a,b,rfl,rfl,by simp,rfl,hb,rfl⟩,?_,?_⟩
 ·rintro k x ys env s hx ⟨xs,v,a,b,rfl,hk,hx1,rfl,hb,rfl⟩
  obtain⟨_,rfl⟩:=u8 hx
  ac_nf
  refine⟨i,26,a,b,rfl,hset,hb,by decide,by decide,λe a b e0 e1 hb=> ?_⟩;have hc:=zg9 e0 e1;simp? only[hc];refine⟨small_l,xs++ [⟨#[97+e.toNat]⟩],_,a,b,by simp,by simp[hk],λz hz=> ?_,rfl,hb,rfl⟩;rcases av.mp hz with hz | hz
  ·exact hx1 z hz
  ·rw[aq.mp hz];exact ak _
 rintro ys env s ⟨xs,v,a,b,rfl,hk,hx1,rfl,hb,rfl⟩;rw[tL]at hk;have hsum:(xs.map (·.length)).sum<=1 * xs.length:=zrg xs 1 hx1;have hz:(xs.map (·.length)).sum+xs.length * (Str.ofString "").length<=6:=by
  rw[show(Str.ofString "").length=0 by decide+kernel];omega
 simp? only[zc_];refine⟨xs,rfl,bq hz (by decide),?_⟩;have hcl:(Txt.join (Str.ofString "") xs).length<=6:=bq (zlU _ _) hz;generalize Txt.join (Str.ofString "") xs=common at hcl⊢
 ac_nf
 symm
 ac_nf
 refine⟨thou (by omega),i,_,a,b,rfl,hset,hb,by omega,by omega,λat' a b a0 a1 hb=> ?_⟩
 ac_nf
 symm
 ac_nf
 refine⟨i,26,a,b,rfl,hset,hb,by decide,by decide,λfirst a b f0 f1 hb=> ?_⟩
 ac_nf
 symm
 ac_nf
 refine⟨i,3,a,b,rfl,hset,hb,by decide,by decide,λlg a b g0 g1 hb=> ?_⟩
 ac_nf
 symm
 ac_nf
 symm;simp? only[hsl];obtain⟨A,eA⟩: ∃A:Str,A=Txt.slice common none (some at'):=⟨_,rfl⟩;obtain⟨B,eB⟩: ∃B:Str,B=Txt.slice common (some at') none:=⟨_,rfl⟩;refine⟨⟨by omega,by omega⟩,?_⟩;refine wL (λk env s=> ∃(ws:List Str) (v3 v9:Option PV),env= [some (PV.obj i),some (PV.int many),some (PV.str "abcdefghijklmnopqrstuvwxyz"),v3,some (.str common),some (.int at'),some (.int first),some (.int lg),some (.obj st.length),v9,none]/\ws.length=k/\pW A B first ws/\s=st.set i (z9 a b)++ [.lst (ws.map PV.str)])
  ⟨[],none,none,rfl,rfl,λm w hw=>by simp at hw,rfl⟩ ?_ ?_
 ·rintro k x env s hx ⟨ws,v3,v9,rfl,hwl,hw,rfl⟩
  obtain⟨hk2,rfl⟩:=u8 hx;have hc:=zg9 (d:=(first+5 * (0+k)) % 26) (or _ (by decide)) (ng _ (by decide))
  ac_nf
  symm;simp? only[hc];refine⟨thou (by omega),λl1=>⟨small_l,?_⟩⟩;rw[<- eA]at l1⊢
  have lc:(⟨#[97+((first+5 * (0+(k:Int))) % 26).toNat]⟩:Str).length=1:=rfl;refine⟨thou (by omega),thou (by omega),λl2=> ?_⟩;rw[<- eB]at l2⊢
  refine⟨thou (by rw[lu];omega),?_⟩
  ac_nf
  have done: ∀z:Str,z.length<=1->(A++⟨#[97+((first+5 * (0+(k:Int))) % 26).toNat]⟩++B).length+z.length<=sizeLine/\ws.length < sizeLine/\∃(ws':List Str) (v3 v9:Option PV),[some (PV.obj i),some (PV.int many),some (PV.str "abcdefghijklmnopqrstuvwxyz"),some (PV.int (0+k)),some (.str common),some (.int at'),some (.int first),some (.int lg),some (.obj st.length),some (PV.str (A++⟨#[97+((first+5 * (0+(k:Int))) % 26).toNat]⟩++B)),none]= [some (PV.obj i),some (PV.int many),some (PV.str "abcdefghijklmnopqrstuvwxyz"),v3,some (.str common),some (.int at'),some (.int first),some (.int lg),some (.obj st.length),v9,none]/\ws'.length=k+1/\pW A B first ws'/\st.set i (z9 a b)++ [PO.lst (ws.map PV.str++ [.str (A++⟨#[97+((first+5 * (0+(k:Int))) % 26).toNat]⟩++B++z)])]=st.set i (z9 a b)++ [.lst (ws'.map PV.str)]:=λz hz=>by
   refine⟨thou (by rw[lu,lu];omega),bc (m:=1000) (by omega) (by decide),ws++ [A++⟨#[97+((first+5 * (0+(k:Int))) % 26).toNat]⟩++B++z],_,_,rfl,by simp[hwl],hw.snoc hwl,by simp⟩
  by_cases gg:lg=1
  ·subst gg
   by_cases o1:(0+(k:Int)) % 2=1
   ·have b1:((0+(k:Int)) % 2==1)=true:=by simpa using o1
    simp? only[beq_self_eq_true,b1,hat,hst2,aa];exact done _ (by decide+kernel)
   ·have b1:((0+(k:Int)) % 2==1)=false:=by simpa using o1
    simp? only[beq_self_eq_true,b1,hat,hst2,aa];exact done _ (by decide+kernel)
  ·have gf:(lg==1)=false:=by simpa using gg
   simp? only[gf,hat,hst2,aa];exact done _ (by decide+kernel)
 ·rintro env s ⟨ws,v3,v9,rfl,hwl,hw,rfl⟩
  rw[tL]at hwl;have hnd:=hw.nodup (by omega)
  ac_nf
  symm
  ac_nf
  symm
  ac_nf
  refine⟨thou (by decide),zda ?_⟩
  ac_nf
  refine⟨thou (by decide),zda ?_⟩
  ac_nf
  refine⟨i,27,a,b,rfl,hset2,hb,by decide,by decide,λe a b e0 e1 hb=> ?_⟩;obtain⟨wd,et⟩:=znZ e0 e1;simp? only[hput,et];refine pL (λenv s=> ∃(us:List Str) (v3 v9 v10:Option PV) (a b:Int),env= [some (PV.obj i),some (PV.int many),some (PV.str "abcdefghijklmnopqrstuvwxyz"),v3,some (.str common),some (.int at'),some (.int first),some (.int lg),some (.obj st.length),v9,v10]/\us.Nodup/\us.length=ws.length/\zZ a b/\s=st.set i (z9 a b)++ [.lst (us.map PV.str)]) (λN hN=> ?_) ?_
  ·ac_nf
   refine⟨i,4,a,b,rfl,hset2,hb,by decide,by decide,λf a b f0 f1 hb=> ?_⟩;simp? only[hput];by_cases hf:f=0
   ·subst hf
    have nin: ∀{Q:K3},wP true (.str wd) (.obj st.length) (st.set i (z9 a b)++ [.lst (ws.map PV.str)]) Q=Q (.bl (!decide (wd∈ws))) (st.set i (z9 a b)++ [.lst (ws.map PV.str)]):=zmY hat;simp? only[beq_self_eq_true,nin];by_cases hin:wd∈ws
    ·have hd:decide (wd∈ws)=true:=decide_eq_true hin
     simp? only[hd];exact hN _ _ ⟨ws,_,_,_,a,b,rfl,hnd,rfl,hb,rfl⟩
    ·have hd:decide (wd∈ws)=false:=decide_eq_false hin
     simp? only[hd];refine⟨i,many,a,b,rfl,hset2,hb,by omega,by omega,λg a b g0 g1 hb=> ?_⟩;obtain⟨n,rfl⟩: ∃n:Nat,g=n:=⟨g.toNat,by omega⟩;have hix:w9 ws.length (n:Int)=some n:=zlR (by omega);simp? only[hput,hat,hst2,aa,hix];exact hN _ _ ⟨ws.set n wd,_,_,_,a,b,rfl,zmW hnd hin n,ci,hb,by rw[oo]⟩
   ·have nf:(f==0)=false:=by simpa using hf
    simp? only[nf];exact hN _ _ ⟨ws,_,_,_,a,b,rfl,hnd,rfl,hb,rfl⟩
  ·rintro env s ⟨us,v3,v9,v10,a,b,rfl,hun,hul,hb,rfl⟩
   ac_nf
   rw[show xA st.length Q=xA ((st.set i (z9 a b)).length+0) Q by rw[hsl];rfl,<- hsl (o:=z9 a b),iO];exact q us a b (by omega) hun hb
theorem zhb {f:Addr}{fd:FuncData}(M:Mo K mg)(F:yP K "_law_number" "_law_number" f9 f fd):yG P w K mg base yH 2 f fd ["_law_box_here"] (yC K zql):=by
 obtain⟨_,_,zQ,zX,zY⟩:=M._law_take;have zW:= @vS P w K mg base _ _ M zQ;refine xH 0 F zhW (λxs st Q h=>by obtain⟨i,a,b,rfl,_⟩:=h;rfl) ⟨_,λcdv A outer s H E hr=>have hr1:zU 1 _:=hr.mono (by decide);(zA (qz 1 zhW.nd (qk zW hr1 zY zQ zX (z3 (qv 0) (z3 z7 z4))))
   (zA (yF (qc o7 (qv 1) z7) (zH (y3 (qk zW hr1 zY zQ zX (z3 (qv 0) (z3 z7 z4))))) yN)
   (zA (yF (qc (xG hr) (qv 1) z7) (zH (y3 (zM sN z7 (qk zW hr1 zY zQ zX (z3 (qv 0) (z3 z7 z4)))))) yN)
   (zH (y3 (qk zW hr1 zY zQ zX (z3 (qv 0) (z3 z7 z4)))))))),λxs st Q h=> ?_⟩
 obtain⟨i,a,b,rfl,hi,hb,q⟩:=h;have hset: ∀{a b:Int},(st.set i (z9 a b))[i]?=some (z9 a b):=λ{a b} =>sG hi;symm
 ac_nf
 refine⟨i,4,a,b,rfl,hi,hb,by decide,by decide,λd a b d0 d1 hb=> ?_⟩;symm
 ac_nf
 by_cases h0:d < 2
 ·rw[if_pos (decide_eq_true h0)]
  exact⟨i,_,a,b,rfl,hset,hb,by decide,by decide,λe a b e0 e1 hb=>by simp? only[true_and];exact q e a b e0 (by omega) hb⟩
 rw[if_neg (by simpa using h0)];symm
 ac_nf
 by_cases h1:d=2
 ·subst h1
  simp? only[beq_self_eq_true];refine⟨i,_,a,b,rfl,hset,hb,by decide,by decide,λe a b e0 e1 hb=> ?_⟩
  ac_nf
  exact q _ a b (by omega) (by omega) hb
 have n1:(d==2)=false:=by simpa using h1
 simp? only[n1];exact⟨i,_,a,b,rfl,hset,hb,by decide,by decide,λe a b e0 e1 hb=>by simp? only[true_and];exact q e a b e0 e1 hb⟩
theorem zcj {L:Type}{lp:L->PV}{f:Addr}{fd:FuncData}(M:Mo K mg)(F:yP K "_law_term" "_law_term" fE f fd)(uZ:tP K fd ["_law_box_here","_law_leaves_here","_law_room","_law_deep"] [])(tG:mg "_law_term" =some (.ref f)): ∀d,yG P w K mg base yH (d+2) f fd ["_law_box_here","_law_leaves_here","_law_room","_law_deep"] (yC K ((j4 lp) d))
 | 0=>⟨λvs H Q E h=>(zif h).elim,λA outer s H args us vs Q E _ _ _ _ h=>(zif h).elim⟩
 | d+1=>by
  have IH:yG P w K mg base yH (d+2) f fd ["_law_box_here","_law_leaves_here","_law_room","_law_deep"] (yC K ((j4 lp) d)):=zcj M F uZ tG d;obtain⟨_,_,zQ,zX,zY⟩:=M._law_take;have zW:= @vS P w K mg base _ _ M zQ;obtain⟨_,_,mP,c7,zbW⟩:=M._law_number;have eP:= @zhb P w K mg base _ _ M mP;have tQ:=F;refine xH 0 F oR (λxs st Q h=>by obtain⟨i,ls,room,deep,a,b,rfl,_⟩:=h;rfl) ⟨_,λcdv A outer s H E hr=>have hr1:zU 1 _:=hr.mono (by omega);have hr2:zU 2 _:=hr.mono (by omega);(zA (qz 4 oR.nd (qk zW hr1 zY zQ zX (z3 (qv 0) (z3 z7 z4))))
   (zA (yF (PW.pt (oG (qc o7 (qv 2) z7) (oG (qc (xG hr) (qv 3) z7) (nZ (qc o7 (qv 4) z7))))) (zA (yF (PW.pt (rN (qc vY (yB yM (by rfl) M.len bu (z3 (qv 1) z4)) z7) (rO (qc vY (qk zW hr1 zY zQ zX (z3 (qv 0) (z3 z7 z4))) z7)))) (zH (y3 (qx hr (qv 1) (qk zW hr1 zY zQ zX (z3 (qv 0) (z3 (yB yM (by rfl) M.len bu (z3 (qv 1) z4)) z4)))))) yN)
   (zH (y3 (yJ (z3 zJ (z3 (qk eP hr2 zbW mP c7 (z3 (qv 0) z4)) z4)))))) yN)
   (zA (yF (PW.pt (rN (qc (xG hr) (qv 4) z7) (rO (qc vY (qv 2) z7)))) (zA (qz 5 oR.nd (zM gC (zM sN (qv 2) z7) z7))
   (zA (qz 6 oR.nd (qk IH hr tG tQ uZ (z3 (qv 0) (z3 (qv 1) (z3 (qv 5) (z3 (zM sN (qv 3) z7) z4))))))
   (zA (qz 7 oR.nd (qk IH hr tG tQ uZ (z3 (qv 0) (z3 (qv 1) (z3 (qv 5) (z3 (zM sN (qv 3) z7) z4))))))
   (zH (y3 (yJ (z3 zJ (z3 (qv 6) (z3 (qv 7) (z3 (qk IH hr tG tQ uZ (z3 (qv 0) (z3 (qv 1) (z3 (qv 5) (z3 (zM sN (qv 3) z7) z4))))) z4)))))))))) yN)
   (zA (qz 8 oR.nd (zM gC (zM sN (qv 2) z7) z7))
   (zA (qz 6 oR.nd (qk IH hr tG tQ uZ (z3 (qv 0) (z3 (qv 1) (z3 (qv 8) (z3 (zM sN (qv 3) z7) z4))))))
   (zH (y3 (yJ (z3 zJ (z3 (qx hr zJ (qk zW hr1 zY zQ zX (z3 (qv 0) (z3 z7 z4)))) (z3 (qv 6) (z3 (qk IH hr tG tQ uZ (z3 (qv 0) (z3 (qv 1) (z3 (qv 8) (z3 (zM sN (qv 3) z7) z4))))) z4)))))))))))),λxs st Q h=> ?_⟩
  obtain⟨i,ls,room,deep,a,b,rfl,hi,hb,hlp,hll,d0,dd,q⟩:=h;have hset: ∀{a b:Int},(st.set i (z9 a b))[i]?=some (z9 a b):=λ{a b} =>sG hi;symm
  ac_nf
  refine⟨i,5,a,b,rfl,hi,hb,by decide,by decide,λf a b f0 f1 hb=> ?_⟩;symm;refine zgr (b:=decide (room < 3∨deep=0∨f < 2)) (λQ=> ?_) ?_
  ·ac_nf
   by_cases h1:room < 3
   ·simp[h1]
   ·by_cases h2:deep=0
    ·simp[h1,h2]
    ·simp[h1,h2]
  by_cases hz:room < 3∨deep=0∨f < 2
  ·rw[if_pos (decide_eq_true hz)]
   symm;simp? only[aa];by_cases hl:0 < ls.length
   ·have hl':decide ((0:Int) < (ls.length:Int))=true:=decide_eq_true (by omega)
    simp? only[hl'];refine⟨i,3,a,b,rfl,hset,hb,by decide,by decide,λe a b e0 e1 hb=> ?_⟩
    ac_nf
    by_cases he:0 < e
    ·rw[if_pos (decide_eq_true he)]
     simp? only[aa];refine⟨i,_,a,b,rfl,hset,hb,by omega,by omega,λg a b g0 g1 hb=> ?_⟩;obtain⟨n,rfl⟩: ∃n:Nat,g=n:=⟨g.toNat,by omega⟩;have hn:n < ls.length:=by omega
     have ha:atI (ls.map lp) (n:Int)=some (lp ls[n]):=xJ (by rw[aw,am hn];rfl);simp? only[ha];refine zeU (t:= .lf ls[n]) hlp ?_;rw[zqU];exact q (.lf ls[n]) a b (gz hn) d0 hb
    ·rw[if_neg (by simpa using he)]
     ac_nf
     refine⟨i,a,b,rfl,hset,hb,λk a b k0 k1 hb=> ?_⟩
     ac_nf
     exact q (.num k) a b ⟨k0,k1⟩ d0 hb
   ·have hl':decide ((0:Int) < (ls.length:Int))=false:=decide_eq_false (by omega)
    simp? only[hl'];refine⟨i,a,b,rfl,hset,hb,λk a b k0 k1 hb=> ?_⟩
    ac_nf
    exact q (.num k) a b ⟨k0,k1⟩ d0 hb
  rw[if_neg (by simpa using hz)];have hd0: ¬ deep=0:=λz=>hz (.inr (.inl z))
  ac_nf
  symm;refine zgr (b:=decide (f=4/\3 < room)) (λQ=> ?_) ?_
  ·ac_nf
   by_cases h1:f=4
   ·subst h1;simp
   ·simp[h1]
  by_cases hc:f=4/\3 < room
  ·rw[if_pos (decide_eq_true hc)]
   symm
   ac_nf
   symm
   ac_nf
   refine⟨i,ls,_,deep - 1,a,b,rfl,hset,hb,hlp,hll,by omega,by omega,λt1 a b k1 r1 hb=> ?_⟩;symm
   ac_nf
   refine⟨i,ls,_,deep - 1,a,b,rfl,hset,hb,hlp,hll,by omega,by omega,λt2 a b k2 r2 hb=> ?_⟩
   ac_nf
   refine⟨i,ls,_,deep - 1,a,b,rfl,hset,hb,hlp,hll,by omega,by omega,λt3 a b k3 r3 hb=> ?_⟩;simp? only[zcx hlp];exact q (.ite t1 t2 t3) a b ⟨k1,k2,k3⟩ (by show((max t1.rank (max t2.rank t3.rank)+1:Nat):Int)<=deep;omega) hb
  rw[if_neg (by simpa using hc)]
  ac_nf
  symm
  ac_nf
  symm
  ac_nf
  refine⟨i,ls,_,deep - 1,a,b,rfl,hset,hb,hlp,hll,by omega,by omega,λt1 a b k1 r1 hb=> ?_⟩
  ac_nf
  refine⟨i,5,a,b,rfl,hset,hb,by decide,by decide,λg a b g0 g1 hb=> ?_⟩;obtain⟨c,hc,hs⟩:=zpT g g0 g1;simp? only[hc];refine⟨bq (m:=1000) (by decide+kernel) (by decide),i,ls,_,deep - 1,a,b,rfl,hset,hb,hlp,hll,by omega,by omega,λt2 a b k2 r2 hb=> ?_⟩;simp? only[zcx hlp];exact q (.op ⟨#[c]⟩ t1 t2) a b ⟨hs,k1,k2⟩ (by show((max t1.rank t2.rank+1:Nat):Int)<=deep;omega) hb
theorem zgZ {L:Type}{lp:L->PV}{f:Addr}{fd:FuncData}(M:Mo K mg)(F:yP K "_law_any_term" "_law_any_term" gV f fd):yG P w K mg base yH 10 f fd ["_law_box_here","_law_leaves_here"] (yC K (zde lp)):=by
 obtain⟨_,_,zQ,zX,zY⟩:=M._law_take;have zW:= @vS P w K mg base _ _ M zQ;obtain⟨zby,zb0,tQ,uZ,tG⟩:=M._law_term;have jO:yG P w K mg base yH 9 zby zb0 ["_law_box_here","_law_leaves_here","_law_room","_law_deep"] (yC K (j4 lp 7)):=zcj M tQ uZ tG 7;refine xH 0 F zhT (λxs st Q h=>by obtain⟨i,ls,a,b,rfl,_⟩:=h;rfl) ⟨_,λcdv A outer s H E hr=>have hr1:zU 1 _:=hr.mono (by decide);have hr9:zU 9 _:=hr.mono (by decide);(zA (qz 2 zhT.nd (qx hr (u3 (z3 z7 (z3 z7 (z3 z7 (z3 z7 z4))))) (qk zW hr1 zY zQ zX (z3 (qv 0) (z3 z7 z4)))))
   (zH (y3 (qk jO hr9 tG tQ uZ (z3 (qv 0) (z3 (qv 1) (z3 (qv 2) (z3 (qx hr (u3 (z3 z7 (z3 z7 z4))) (vK nR (by rfl) M.int pY (z3 (vZ (xG hr) (qk zW hr1 zY zQ zX (z3 (qv 0) (z3 z7 z4))) z7 (sM _)) z4))) z4)))))))),λxs st Q h=> ?_⟩
 obtain⟨i,ls,a,b,rfl,hi,hb,hlp,hll,q⟩:=h;have hset: ∀{a b:Int},(st.set i (z9 a b))[i]?=some (z9 a b):=λ{a b} =>sG hi;symm
 ac_nf
 refine⟨i,4,a,b,rfl,hi,hb,by decide,by decide,λf a b f0 f1 hb=> ?_⟩;obtain⟨r,er⟩: ∃r:Int,atI [PV.int 1,.int 3,.int 7,.int 30] f=some (.int r):=by
  have:f=0∨f=1∨f=2∨f=3:=by omega
  rcases this with rfl | rfl | rfl | rfl
  ·exact⟨1,rfl⟩
  ·exact⟨3,rfl⟩
  ·exact⟨7,rfl⟩
  ·exact⟨30,rfl⟩
 simp? only[er];refine⟨i,4,a,b,rfl,hset,hb,by decide,by decide,λg a b g0 g1 hb=> ?_⟩;obtain⟨dp,ed,p0,p6⟩: ∃dp:Int,atI [PV.int 2,.int 6] (if(g==1)=true then(1:Int)else 0)=some (.int dp)/\0<=dp/\dp<=6:=by
  split
  ·exact⟨6,rfl,by decide,by decide⟩
  ·exact⟨2,rfl,by decide,by decide⟩
 simp? only[ed];refine⟨i,ls,r,dp,a,b,rfl,hset,hb,hlp,hll,p0,by omega,λt a b tk tr hb=> ?_⟩;refine zeU hlp ?_
 ac_nf
 exact q t a b tk (by omega) hb
theorem znv {f:Addr}{fd:FuncData}(M:Mo K mg)(F:yP K "_law_manner" "_law_manner" f8 f fd):yG P w K mg base yH 10 f fd ["_law_box_here","_law_kinds","_law_calm"] (yC K zqk):=by
 obtain⟨_,_,zQ,zX,zY⟩:=M._law_take;have zW:= @vS P w K mg base _ _ M zQ;obtain⟨zby,zb0,tQ,uZ,tG⟩:=M._law_term;have jO:yG P w K mg base yH 9 zby zb0 ["_law_box_here","_law_leaves_here","_law_room","_law_deep"] (yC K (j4 tS.pv 7)):=zcj M tQ uZ tG 7;refine xH 0 F kU (λxs st Q h=>by obtain⟨i,a,b,rfl,_⟩:=h;rfl) ⟨_,λcdv A outer s H E hr=>have hr1:zU 1 _:=hr.mono (by decide);have hr9:zU 9 _:=hr.mono (by decide);(zA (qz 3 kU.nd (qx hr (qv 1) (qk zW hr1 zY zQ zX (z3 (qv 0) (z3 (yB yM (by rfl) M.len bu (z3 (qv 1) z4)) z4)))))
   (zA (yF (qc (o8 hr) (qv 3) zJ) (zH (y3 (yJ (z3 (qv 3) z4)))) yN)
   (zA (qz 4 kU.nd (u3 (z3 (yJ (z3 zJ z4)) (z3 (yJ (z3 zJ z4)) (z3 (yJ (z3 zJ z4)) z4)))))
   (zA (qz 5 kU.nd (qk jO hr9 tG tQ uZ (z3 (qv 0) (z3 (qv 4) (z3 (qx hr (u3 (z3 z7 (z3 z7 (z3 z7 (z3 z7 z4))))) (qk zW hr1 zY zQ zX (z3 (qv 0) (z3 z7 z4)))) (z3 z7 z4))))))
   (zA (yF (tK (qv 2)) (zH (qz 5 kU.nd (yJ (z3 zJ (z3 (yJ (z3 zJ (z3 zJ (z3 (qx hr (qv 4) z7) (z3 (qx hr (qv 4) z7) z4))))) (z3 (qx hr (qv 4) z7) (z3 (qk jO hr9 tG tQ uZ (z3 (qv 0) (z3 (qv 4) (z3 z7 (z3 z7 z4))))) z4))))))) yN)
   (zH (y3 (yJ (z3 zJ (z3 (zM y9 z7 (qk zW hr1 zY zQ zX (z3 (qv 0) (z3 z7 z4)))) (z3 (qv 5) z4))))))))))),λxs st Q h=> ?_⟩
 obtain⟨i,a,b,rfl,hi,hb,q⟩:=h;have hset: ∀{a b:Int},(st.set i (z9 a b))[i]?=some (z9 a b):=λ{a b} =>sG hi;unfold lU;symm
 ac_nf
 refine⟨i,_,a,b,rfl,hi,hb,by decide,by decide,λd a b d0 d1 hb=> ?_⟩;obtain⟨kd,hkd,ek⟩: ∃kd:Str,(kd= "last" ∨kd= "sum" ∨kd= "bag" ∨kd= "row" ∨kd= "told")/\atI [PV.str "last",.str "sum"] d=some (.str kd):=by
  have:d=0∨d=1:=by omega
  rcases this with rfl | rfl
  ·exact⟨_,.inl rfl,rfl⟩
  ·exact⟨_,.inr (.inl rfl),rfl⟩
 simp? only[ek];symm
 ac_nf
 by_cases ht:kd= "told"
 ·subst ht
  simp? only[beq_self_eq_true];symm
  ac_nf
  symm
  ac_nf
  refine⟨i,4,a,b,rfl,hset,hb,by decide,by decide,λe a b e0 e1 hb=> ?_⟩;obtain⟨rm,er⟩: ∃rm:Int,atI [PV.int 1,.int 3,.int 7,.int 15] e=some (.int rm):=by
   have:e=0∨e=1∨e=2∨e=3:=by omega
   rcases this with rfl | rfl | rfl | rfl
   ·exact⟨1,rfl⟩
   ·exact⟨3,rfl⟩
   ·exact⟨7,rfl⟩
   ·exact⟨15,rfl⟩
  simp? only[er];refine⟨i,[.was,.mine,.yours],rm,6,a,b,rfl,hset,hb,zg6,by decide,by decide,by decide,λt a b tk tr hb=> ?_⟩
  ac_nf
  symm
  ac_nf
  refine⟨i,4,a,b,rfl,hset,hb,by decide,by decide,λn a b n0 n1 hb=> ?_⟩;simp? only[zcx zg6];exact q "told" [.int (2+n),t.pv tS.pv] a b (.inr ⟨rfl,2+n,t,rfl,by omega,by omega,by omega⟩) hb
 ·have nt:(kd==("told" :Str))=false:=by simpa using ht
  simp? only[nt];exact q kd [] a b (.inl ⟨by rcases hkd with h | h | h | h | h <;> simp_all,rfl⟩) hb
theorem nd4:(["_law_box_here","_law_manner_here","_law_things","_law_found","_law_word","_law_many","_law_k"]:List Str).Nodup:=by decide+kernel
theorem znp {f:Addr}{fd:FuncData}(M:Mo K mg)(F:yP K "_law_begin" "_law_begin" kK f fd):yG P w K mg base yH 3 f fd ["_law_box_here","_law_manner_here","_law_things"] (yC K zqc):=by
 obtain⟨_,_,zQ,zX,zY⟩:=M._law_take;have zW:= @vS P w K mg base _ _ M zQ;obtain⟨_,_,mP,c7,zbW⟩:=M._law_number;have eP:= @zhb P w K mg base _ _ M mP;refine xH 0 F kR (λxs st Q h=>by obtain⟨i,kd,r,ws,a,b,rfl,_⟩:=h;rfl) ⟨_,λcdv A outer s H E hr=>have hr1:zU 1 _:=hr.mono (by decide);have hr2:zU 2 _:=hr.mono (by decide);(zA (yF (qc (xG hr) (qx hr (qv 1) z7) zJ) (zH (y3 (qk zW hr1 zY zQ zX (z3 (qv 0) (z3 (qx hr (qv 1) z7) z4))))) yN)
   (zA (yF (qc (xG hr) (qx hr (qv 1) z7) zJ) (zA (qz 3 kR.nd (u5 z4))
   (zA (wO cm rfl (uU (yB znn (by rfl) M.sorted xf (z3 (qv 2) z4))) (qn 4 kR.nd) (zA (qz 5 kR.nd (zM sN (qk zW hr1 zY zQ zX (z3 (qv 0) (z3 z7 z4))) z7))
   (zH (yF (qc (xG hr) (qk zW hr1 zY zQ zX (z3 (qv 0) (z3 z7 z4))) z7) (zH (x9 (x8 bm bv bw (by decide) xX (qv 3) (z3 (yJ (z3 (qv 4) (z3 (zM y9 (qv 5) (vK nR (by rfl) M.int pY (z3 (vZ zgU (qv 5) z7 (sM _)) z4))) z4))) z4)))) yN))))
   (zH (y3 (vK (p9 rfl) (by rfl) M.tuple rX (z3 (qv 3) z4)))))) yN)
   (zA (yF (qc (xG hr) (qx hr (qv 1) z7) zJ) (zA (qz 5 kR.nd (qk zW hr1 zY zQ zX (z3 (qv 0) (z3 (qx hr (u3 (z3 z7 (z3 z7 z4))) (vK nR (by rfl) M.int pY (z3 (vZ (xG hr) (qk zW hr1 zY zQ zX (z3 (qv 0) (z3 z7 z4))) z7 (sM _)) z4))) z4))))
   (zH (y3 (vK (p9 rfl) (by rfl) M.tuple rX (z3 (oF (own:= ["_law_k"]) (uF (fsc:=y4 kK) (N:= ["_law_box_here","_law_manner_here","_law_things","_law_found","_law_word","_law_many"]) (N':= ["_law_box_here","_law_manner_here","_law_things","_law_found","_law_word","_law_many"]) rfl rfl (by decide+kernel)) rfl (u7 (by rfl) M.range (z3 (qv 5) z4)) (λC s H fp pins=>(qn 6 nd4)) (λC s H fp pins=>sO) (λC s H fp pins=>(qx hr (qv 2) (qk zW hr1 zY zQ zX (z3 (qv 0) (z3 (yB yM (by rfl) M.len bu (z3 (qv 2) z4)) z4)))))) z4))))) yN)
   (zH (y3 (qk eP hr2 zbW mP c7 (z3 (qv 0) z4))))))),λxs st Q h=> ?_⟩
 obtain⟨i,kd,r,ws,a,b,rfl,hi,hb,hmn,hne,hwl,hnd,q⟩:=h;have hil:=(ad.mp hi).1;have hset: ∀{a b:Int},(st.set i (z9 a b))[i]?=some (z9 a b):=λ{a b} =>sG hi;have hset2: ∀{a b:Int} {o:PO},(st.set i (z9 a b)++ [o])[i]?=some (z9 a b):=λ{a b o} =>zbB hset;have hput: ∀{a b c d:Int} {o:PO},(st.set i (z9 a b)++ [o]).set i (z9 c d)=st.set i (z9 c d)++ [o]:=λ{a b c d o} =>by rw[zdc (by rw[ci];exact hil),set_set]
 have hsl: ∀{o:PO},(st.set i o).length=st.length:=ci;have hat: ∀{a b:Int} {o:PO},(st.set i (z9 a b)++ [o])[st.length]?=some o:=λ{a b o} =>by rw[<- hsl (o:=z9 a b)];exact qE
 have hst2: ∀{a b:Int} {o o':PO},(st.set i (z9 a b)++ [o]).set st.length o'=st.set i (z9 a b)++ [o']:=λ{a b o o'} =>by rw[<- hsl (o:=z9 a b)];exact j0
 have htk: ∀{a b:Int} {o:PO},(st.set i (z9 a b)++ [o]).take st.length=st.set i (z9 a b):=λ{a b o} =>by rw[<- hsl (o:=z9 a b)];exact zdo
 have hst:st=st.set i (z9 a b):=by
  obtain⟨h1,h2⟩:=ad.mp hi;rw[<- h2,jt]
 have hpos:0 < ws.length:=fg.mpr hne;have n_last_told:(("last" :Str)==("told" :Str))=false:=by decide+kernel
 have n_last_bag:(("last" :Str)==("bag" :Str))=false:=by decide+kernel
 have n_last_row:(("last" :Str)==("row" :Str))=false:=by decide+kernel
 have n_sum_told:(("sum" :Str)==("told" :Str))=false:=by decide+kernel
 have n_sum_bag:(("sum" :Str)==("bag" :Str))=false:=by decide+kernel
 have n_sum_row:(("sum" :Str)==("row" :Str))=false:=by decide+kernel
 have n_bag_told:(("bag" :Str)==("told" :Str))=false:=by decide+kernel
 have n_row_told:(("row" :Str)==("told" :Str))=false:=by decide+kernel
 have n_row_bag:(("row" :Str)==("bag" :Str))=false:=by decide+kernel
 rcases hmn with⟨hk,rfl⟩ | ⟨rfl,n,t,rfl,n2,n6⟩
 ·rcases hk with rfl | rfl | rfl | rfl
  ·symm
   simp? only[n_last_told];symm;simp? only[n_last_bag];symm;simp? only[n_last_row];refine⟨i,a,b,rfl,hi,hb,λd a b d0 d1 hb=> ?_⟩
   ac_nf
   exact q (.int d) a b ⟨by decide+kernel,by decide+kernel,d0,d1⟩ hb
  ·symm
   simp? only[n_sum_told];symm;simp? only[n_sum_bag];symm;simp? only[n_sum_row];refine⟨i,a,b,rfl,hi,hb,λd a b d0 d1 hb=> ?_⟩
   ac_nf
   exact q (.int d) a b ⟨by decide+kernel,by decide+kernel,d0,d1⟩ hb
  ·symm
   simp? only[n_bag_told];symm;simp? only[beq_self_eq_true];symm
   ac_nf
   symm;simp? only[zcH,sJ];refine⟨ws,rfl,by omega,λss hp hs=> ?_⟩;have hss:ss.Nodup:=hp.nodup_iff.mpr hnd;have hsln:=hp.length_eq
   ac_nf
   refine wL (λk env s=> ∃(l:List (Str×Int)) (v w:Option PV) (a b:Int),env= [some (PV.obj i),some (.tup [.str "bag"]),some (.lst (ws.map PV.str)),some (.obj st.length),v,w]/\(l.map (·.1)).Sublist (ss.take k)/\zZ a b/\s=st.set i (z9 a b)++ [.lst (l.map λq=>PV.tup [.str q.1,.int q.2])])
    ⟨[],none,none,a,b,rfl,by simp,hb,by rw[<- hst];rfl⟩ ?_ ?_
   ·rintro k x env s hx ⟨l,v,w,a,b,rfl,hl,hb,rfl⟩
    obtain⟨wd,hwd,rfl⟩:=vX hx;have hll:l.length<=40:=by
     have:=hl.length_le;rw[aa,cf]at this;omega
    ac_nf
    symm
    ac_nf
    refine⟨i,198,a,b,rfl,hset2,hb,by decide,by decide,λd a b d0 d1 hb=> ?_⟩;simp? only[hput];refine⟨i,2,a,b,rfl,hset2,hb,by decide,by decide,λe a b e0 e1 hb=> ?_⟩;simp? only[hput];by_cases h1:e=1
    ·subst h1
     simp? only[beq_self_eq_true,hat,hst2,aa];refine⟨bc (m:=1000) (by omega) (by decide),l++ [(wd,_)],_,_,a,b,rfl,?_,hb,by simp;rfl⟩;rw[mJ hwd,ao];exact hl.append (List.Sublist.refl _)
    ·have n1:(e==1)=false:=by simpa using h1
     simp? only[n1];exact⟨l,_,_,a,b,rfl,by rw[mJ hwd];exact hl.trans (List.sublist_append_left _ _),hb,rfl⟩
   ·rintro env s ⟨l,v,w,a,b,rfl,hl,hb,rfl⟩
    have hsub:=hl.trans (jy _ _);have hll:l.length<=40:=by
     have:=hsub.length_le;rw[aa]at this;omega
    simp? only[hat,htk];exact q (.bag l) a b ⟨rfl,hss.sublist hsub,hll⟩ hb
  ·symm
   simp? only[n_row_told];symm;simp? only[n_row_bag];symm;simp? only[beq_self_eq_true];symm
   ac_nf
   refine⟨i,4,a,b,rfl,hi,hb,by decide,by decide,λe a b e0 e1 hb=> ?_⟩;obtain⟨z,ez,z0,z1⟩: ∃z:Int,atI [PV.int 5,.int 21] (if(e==1)=true then(1:Int)else 0)=some (.int z)/\0 < z/\z<=21:=by
    split
    ·exact⟨21,rfl,by decide,by decide⟩
    ·exact⟨5,rfl,by decide,by decide⟩
   simp? only[ez];refine⟨i,z,a,b,rfl,hset,hb,z0,by omega,λm a b m0 m1 hb=> ?_⟩
   ac_nf
   refine⟨⟨by omega,by omega⟩,λk ys env s=> ∃(us:List Str) (v:Option PV) (a b:Int),ys=us.map PV.str/\us.length=k/\env= [some (PV.obj i),some (.tup [.str "row"]),some (.lst (ws.map PV.str)),none,none,some (.int m),v]/\zZ a b/\s=st.set i (z9 a b),⟨[],none,a,b,rfl,rfl,rfl,hb,rfl⟩,?_,?_⟩
   ·rintro k x ys env s hx ⟨us,v,a,b,rfl,hk,rfl,hb,rfl⟩
    obtain⟨_,rfl⟩:=u8 hx;simp? only[aa];refine⟨i,_,a,b,rfl,hset,hb,by omega,by omega,λe a b e0 e1 hb=> ?_⟩;obtain⟨t,_,et⟩:=nB PV.str (ns:=ws) e0 e1;simp? only[et];exact⟨us++ [t],_,a,b,by simp,by simp[hk],rfl,hb,rfl⟩
   ·rintro ys env s ⟨us,v,a,b,rfl,hk,rfl,hb,rfl⟩
    rw[tL]at hk
    ac_nf
    exact q (.row us) a b ⟨rfl,by omega⟩ hb
 ·symm
  simp? only[beq_self_eq_true];refine⟨i,n,a,b,rfl,hi,hb,by omega,by omega,λd a b d0 d1 hb=> ?_⟩
  ac_nf
  exact q (.int d) a b ⟨by decide+kernel,by decide+kernel,d0,by omega⟩ hb
theorem znu {f:Addr}{fd:FuncData}(M:Mo K mg)(F:yP K "_law_leaves" "_law_leaves" f7 f fd):yG P w K mg base yH 2 f fd ["_law_box_here","_law_shelves","_law_things"] (yC K zqj):=by
 obtain⟨_,_,zQ,zX,zY⟩:=M._law_take;have zW:= @vS P w K mg base _ _ M zQ;refine xH 0 F kT (λxs st Q h=>by obtain⟨i,sh,ws,a,b,rfl,_⟩:=h;rfl) ⟨_,λcdv A outer s H E hr=>have hr1:zU 1 _:=hr.mono (by decide);(zA (qz 3 kT.nd (u5 z4))
   (zA (wO cm rfl (uU (qv 1)) (uL (n:=3) rfl (yX (qn 4 kT.nd) (yX (qn 5 kT.nd) (yX (qn 6 kT.nd) u6)))) (zH (yF (qc (xG hr) (qx hr (qv 5) z7) zJ) (zH (x9 (x8 bm bv bw (by decide) xX (qv 3) (z3 (yJ (z3 zJ (z3 (qv 4) (z3 (qx hr (qv 2) (qk zW hr1 zY zQ zX (z3 (qv 0) (z3 (yB yM (by rfl) M.len bu (z3 (qv 2) z4)) z4)))) z4)))) z4)))) (zH (x9 (x8 bm bv bw (by decide) xX (qv 3) (z3 (qx hr (u3 (z3 (yJ (z3 zJ (z3 (qv 4) z4))) (z3 (yJ (z3 zJ (z3 (qv 4) z4))) z4))) (vK nR (by rfl) M.int pY (z3 (vZ (xG hr) (qx hr (qv 5) z7) zJ (sM _)) z4))) z4)))))))
   (zH (y3 (qv 3))))),λxs st Q h=> ?_⟩
 obtain⟨i,sh,ws,a,b,rfl,hi,hb,hk,hsl,hne,hwl,q⟩:=h;have hil:=(ad.mp hi).1;have hset: ∀{a b:Int},(st.set i (z9 a b))[i]?=some (z9 a b):=λ{a b} =>sG hi;have hset2: ∀{a b:Int} {o:PO},(st.set i (z9 a b)++ [o])[i]?=some (z9 a b):=λ{a b o} =>zbB hset;have hput: ∀{a b c d:Int} {o:PO},(st.set i (z9 a b)++ [o]).set i (z9 c d)=st.set i (z9 c d)++ [o]:=λ{a b c d o} =>by rw[zdc (by rw[ci];exact hil),set_set]
 have hsl2: ∀{o:PO},(st.set i o).length=st.length:=ci;have hst:st=st.set i (z9 a b):=by
  obtain⟨h1,h2⟩:=ad.mp hi;rw[<- h2,jt]
 have hpos:0 < ws.length:=fg.mpr hne;symm
 ac_nf
 symm
 ac_nf
 refine wL (λk env s=> ∃(ls:List Lf) (v w x:Option PV) (a b:Int),env= [some (PV.obj i),some (.lst (sh.map y6)),some (.lst (ws.map PV.str)),some (.obj st.length),v,w,x]/\ls.length=k/\(∀l∈ls,mU sh l)/\zZ a b/\s=st.set i (z9 a b)++ [.lst (ls.map Lf.pv)])
  ⟨[],none,none,none,a,b,rfl,rfl,by simp,hb,by rw[<- hst];rfl⟩ ?_ ?_
 ·rintro k y env s hy ⟨ls,v,w,x,a,b,rfl,hk',hl,hb,rfl⟩
  obtain⟨s0,hs0,rfl⟩:=vX hy;have ms:=cj hs0;have hkl:=(ad.mp hs0).1;obtain⟨kd,r,er⟩:=hk s0 ms;have hat: ∀{a b:Int} {o:PO},(st.set i (z9 a b)++ [o])[st.length]?=some o:=λ{a b o} =>by rw[<- hsl2 (o:=z9 a b)];exact qE
  have hst2: ∀{a b:Int} {o o':PO},(st.set i (z9 a b)++ [o]).set st.length o'=st.set i (z9 a b)++ [o']:=λ{a b o o'} =>by rw[<- hsl2 (o:=z9 a b)];exact j0
  unfold y6;rw[er];have more: ∀(l:Lf) (a b:Int),mU sh l->zZ a b->∀v w x,∃(ls':List Lf) (v' w' x':Option PV) (a' b':Int),[some (PV.obj i),some (.lst (sh.map y6)),some (.lst (ws.map PV.str)),some (.obj st.length),v,w,x]= [some (PV.obj i),some (.lst (sh.map y6)),some (.lst (ws.map PV.str)),some (.obj st.length),v',w',x']/\ls'.length=k+1/\(∀l∈ls',mU sh l)/\zZ a' b'/\st.set i (z9 a b)++ [PO.lst (ls.map Lf.pv++ [l.pv])]=st.set i (z9 a' b')++ [.lst (ls'.map Lf.pv)]:=λl a b h1 h2 v w x=>
   ⟨ls++ [l],v,w,x,a,b,rfl,by simp[hk'],λl' hl'=>by
    rcases av.mp hl' with h | h
    ·exact hl l' h
    ·rw[aq.mp h];exact h1,h2,by simp⟩
  have small:(ls.map Lf.pv).length < sizeLine:=bc (m:=1000) (by rw[aa];omega) (by decide)
  ac_nf
  by_cases hbag:kd= "bag"
  ·subst hbag
   simp? only[beq_self_eq_true,aa,hat];refine⟨i,_,a,b,rfl,hset2,hb,by omega,by omega,λe a b e0 e1 hb=> ?_⟩;obtain⟨t,_,et⟩:=nB PV.str (ns:=ws) e0 e1;simp? only[et,hput,hat,hst2];exact⟨small,more (.many s0.1 t) a b ⟨s0,ms,"bag",⟨r,er⟩,.inl ⟨rfl,t,rfl⟩⟩ hb _ _ _⟩
  ·have nb:(kd==("bag" :Str))=false:=by simpa using hbag
   simp? only[nb];by_cases hrow:kd= "row"
   ·subst hrow
    simp? only[beq_self_eq_true,hat,hst2];exact⟨small,more (.long s0.1) a b ⟨s0,ms,"row",⟨r,er⟩,.inr (.inl ⟨rfl,rfl⟩)⟩ hb _ _ _⟩
   ·have nr:(kd==("row" :Str))=false:=by simpa using hrow
    simp? only[nr,hat,hst2];exact⟨small,more (.shelf s0.1) a b ⟨s0,ms,kd,⟨r,er⟩,.inr (.inr ⟨hbag,hrow,rfl⟩)⟩ hb _ _ _⟩
 ·rintro env s ⟨ls,v,w,x,a,b,rfl,hk',hl,hb,rfl⟩
  rw[aa]at hk'
  ac_nf
  rw[show xA st.length Q=xA ((st.set i (z9 a b)).length+0) Q by rw[hsl2];rfl,<- hsl2 (o:=z9 a b),iO];exact q ls a b hk' hl hb
theorem znr {f:Addr}{fd:FuncData}(M:Mo K mg)(F:yP K "_law_deed" "_law_deed" gY f fd):yG P w K mg base yH 11 f fd ["_law_box_here","_law_shelf","_law_leaves_here","_law_things"] (yC K zqf):=by
 obtain⟨_,_,zQ,zX,zY⟩:=M._law_take;have zW:= @vS P w K mg base _ _ M zQ;obtain⟨zbx,zbz,oW,iA,gA⟩:=M._law_any_term;have jN:yG P w K mg base yH 10 zbx zbz ["_law_box_here","_law_leaves_here"] (yC K (zde Lf.pv)):=zgZ M oW;refine xH 0 F oN (λxs st Q h=>by obtain⟨i,nm,kd,r,bg,ls,ws,a,b,rfl,_⟩:=h;rfl) ⟨_,λcdv A outer s H E hr=>have hr1:zU 1 _:=hr.mono (by decide);have hr10:zU 10 _:=hr.mono (by decide);(zA (tJ (qv 1) (uL (n:=3) rfl (yX (qn 4 oN.nd) (yX (qn 5 oN.nd) (yX (qn 6 oN.nd) u6)))))
   (zA (qz 7 oN.nd (qx hr (qv 3) (qk zW hr1 zY zQ zX (z3 (qv 0) (z3 (yB yM (by rfl) M.len bu (z3 (qv 3) z4)) z4)))))
   (zA (yF (qc (xG hr) (qx hr (qv 5) z7) zJ) (zH (y3 (yJ (z3 (qx hr (u3 (z3 zJ (z3 zJ z4))) (qk zW hr1 zY zQ zX (z3 (qv 0) (z3 z7 z4)))) (z3 (qv 4) (z3 (qv 7) z4)))))) yN)
   (zA (qz 8 oN.nd (qk jN hr10 gA oW iA (z3 (qv 0) (z3 (qv 2) z4))))
   (zA (yF (qc (xG hr) (qx hr (qv 5) z7) zJ) (zH (y3 (yJ (z3 zJ (z3 (qv 4) (z3 (qv 8) z4)))))) yN)
   (zA (yF (qc (o8 hr) (qx hr (qv 5) z7) zJ) (zH (y3 (yJ (z3 zJ (z3 (qv 4) (z3 (qv 8) z4)))))) yN)
   (zA (yF (qc (xG hr) (qk zW hr1 zY zQ zX (z3 (qv 0) (z3 z7 z4))) z7) (zH (qz 8 oN.nd (yJ (z3 zJ (z3 (qk zW hr1 zY zQ zX (z3 (qv 0) (z3 z7 z4))) z4))))) yN)
   (zA (yF (qc vY (qk zW hr1 zY zQ zX (z3 (qv 0) (z3 z7 z4))) z7) (zH (y3 (yJ (z3 zJ (z3 (qv 4) (z3 (qv 8) (z3 (qv 7) z4))))))) yN)
   (zH (y3 (yJ (z3 zJ (z3 (qv 4) (z3 (qv 8) z4)))))))))))))),λxs st Q h=> ?_⟩
 obtain⟨i,nm,kd,r,bg,ls,ws,a,b,rfl,hbg,hi,hb,hwe,hwl,hll,q⟩:=h;have hset: ∀{a b:Int},(st.set i (z9 a b))[i]?=some (z9 a b):=λ{a b} =>sG hi;have hw0:0 < ws.length:=fg.mpr hwe;symm;simp? only[hbg];symm;simp? only[aa];refine⟨i,(ws.length:Int),a,b,rfl,hi,hb,by omega,by omega,λd a b d0 d1 hb=> ?_⟩;obtain⟨wd,_,ew⟩:=nB PV.str (ns:=ws) d0 d1;simp? only[ew];symm;by_cases k1:kd= "bag"
 ·subst k1
  simp? only[beq_self_eq_true];refine⟨i,2,a,b,rfl,hset,hb,by decide,by decide,λg a b g0 g1 hb=> ?_⟩;have hg:g=0∨g=1:=by omega
  rcases hg with rfl | rfl
  ·simp? only[set_set]
   exact q (.bag true nm wd) a b ⟨rfl,λx hx=>(by cases hx),rfl⟩ hb
  ·simp? only[set_set]
   exact q (.bag false nm wd) a b ⟨rfl,λx hx=>(by cases hx),rfl⟩ hb
 have n1:(kd==("bag" :Str))=false:=by simpa using k1
 simp? only[n1];symm
 ac_nf
 refine⟨i,ls,a,b,rfl,hset,hb,zbT,hll,λt a b tok uM hb=> ?_⟩;simp? only[set_set];symm;by_cases k2:kd= "sum"
 ·subst k2
  simp? only[beq_self_eq_true];exact⟨mK t,q (.more nm t) a b ⟨rfl,λx hx=>(by cases hx;exact⟨tok,uM⟩),rfl⟩ hb⟩
 have n2:(kd==("sum" :Str))=false:=by simpa using k2
 simp? only[n2];symm;by_cases k3:kd= "row"
 rotate_left
 ·have n3:(kd==("row" :Str))=false:=by simpa using k3
  simp? only[n3];exact⟨mK t,q (.set nm t) a b ⟨rfl,λx hx=>(by cases hx;exact⟨tok,uM⟩),k1,k3,k2⟩ hb⟩
 subst k3;simp? only[beq_self_eq_true];refine pL (λenv s=> ∃(t:Tm Lf) (a b:Int),env= [some (PV.obj i),some (.tup [.str nm,.tup (.str "row" ::r),bg]),some (.lst (ls.map Lf.pv)),some (.lst (ws.map PV.str)),some (.str nm),some (.tup (.str "row" ::r)),some bg,some (.str wd),some (t.pv Lf.pv)]/\s=st.set i (z9 a b)/\zZ a b/\t.ok (λl=>l∈ls)/\t.rank < 7) (λN hN=> ?_) ?_
 ·ac_nf
  refine⟨i,2,a,b,rfl,hset,hb,by decide,by decide,λg a b g0 g1 hb=> ?_⟩;simp? only[set_set];by_cases h0:g=0
  ·subst h0
   simp? only[beq_self_eq_true];refine⟨i,6,a,b,rfl,hset,hb,by decide,by decide,λe a b e0 e1 hb=> ?_⟩;simp? only[set_set];exact hN _ _ ⟨.num e,a,b,rfl,rfl,hb,⟨e0,by omega⟩,by show 0 < 7;decide⟩
  ·have nf:(g==0)=false:=by simpa using h0
   simp? only[nf];exact hN _ _ ⟨t,a,b,rfl,rfl,hb,tok,uM⟩
 ·rintro env s0 ⟨t,a,b,rfl,rfl,hb,tok,uM⟩
  symm
  ac_nf
  refine⟨i,5,a,b,rfl,hset,hb,by decide,by decide,λg a b g0 g1 hb=> ?_⟩;simp? only[set_set];by_cases h1:1 < g
  ·have hd:decide (1 < g)=true:=decide_eq_true h1
   simp? only[hd];exact⟨mK t,q (.lay nm t wd) a b ⟨rfl,λx hx=>(by cases hx;exact⟨tok,uM⟩),rfl⟩ hb⟩
  ·have hd:decide (1 < g)=false:=decide_eq_false h1
   simp? only[hd];exact⟨mK t,q (.drop nm t) a b ⟨rfl,λx hx=>(by cases hx;exact⟨tok,uM⟩),rfl⟩ hb⟩
theorem zn1 {f:Addr}{fd:FuncData}(M:Mo K mg)(F:yP K "_law_row" "_law_row" fB f fd):yG P w K mg base yH 12 f fd ["_law_box_here","_law_uses","_law_things"] (yC K fN):=by
 obtain⟨_,_,zQ,zX,zY⟩:=M._law_take;have zW:= @vS P w K mg base _ _ M zQ;obtain⟨zbx,zbz,oW,iA,gA⟩:=M._law_any_term;have jN:yG P w K mg base yH 10 zbx zbz ["_law_box_here","_law_leaves_here"] (yC K (zde Lf.pv)):=zgZ M oW;obtain⟨_,_,zdG,zkf,zmx⟩:=M._law_leaves;have zjn:= @znu P w K mg base _ _ M zdG;obtain⟨_,_,zdE,zkd,zmv⟩:=M._law_deed;have zjk:= @znr P w K mg base _ _ M zdE;refine xH 0 F mC (λxs st Q h=>by obtain⟨i,sh,ws,a,b,rfl,_⟩:=h;rfl) ⟨_,λcdv A outer s H E hr=>have hr1:zU 1 _:=hr.mono (by decide);have hr2:zU 2 _:=hr.mono (by decide);have hr10:zU 10 _:=hr.mono (by decide);have hr11:zU 11 _:=hr.mono (by decide);(zA (tJ (qv 1) (uL (n:=2) rfl (yX (qn 3 mC.nd) (yX (qn 4 mC.nd) u6))))
   (zA (qz 5 mC.nd (qk zjn hr2 zmx zdG zkf (z3 (qv 0) (z3 (qv 4) (z3 (qv 2) z4)))))
   (zA (qz 6 mC.nd (yJ (z3 zJ (z3 (qk jN hr10 gA oW iA (z3 (qv 0) (z3 (qv 5) z4))) z4))))
   (zA (yF (PW.pt (rN (qc vY (yB yM (by rfl) M.len bu (z3 (qv 3) z4)) z7) (rO (qc vY (qk zW hr1 zY zQ zX (z3 (qv 0) (z3 z7 z4))) z7)))) (zH (qz 6 mC.nd (qk zjk hr11 zmv zdE zkd (z3 (qv 0) (z3 (qx hr (qv 3) (qk zW hr1 zY zQ zX (z3 (qv 0) (z3 (yB yM (by rfl) M.len bu (z3 (qv 3) z4)) z4)))) (z3 (qv 5) (z3 (qv 2) z4))))))) yN)
   (zA (yF (qc (xG hr) (qk zW hr1 zY zQ zX (z3 (qv 0) (z3 z7 z4))) z7) (zH (y3 (yJ (z3 zJ (z3 (qk jN hr10 gA oW iA (z3 (qv 0) (z3 (qv 5) z4))) (z3 (qv 6) z4)))))) yN)
   (zH (y3 (qv 6)))))))),λxs st Q h=> ?_⟩
 obtain⟨i,sh,ws,a,b,rfl,hi,hb,hsh,hse,hsl,hwe,hwl,q⟩:=h;have hset: ∀{a b:Int},(st.set i (z9 a b))[i]?=some (z9 a b):=λ{a b} =>sG hi;have hs0:0 < sh.length:=fg.mpr hse;have hk: ∀s∈sh,∃kd,dG s kd:=λs hs=>let⟨kd,r,h,e,_⟩:=hsh s hs;⟨kd,r,e⟩;symm
 ac_nf
 symm
 ac_nf
 refine⟨i,sh,ws,a,b,rfl,hi,hb,hk,by omega,hwe,hwl,λls a b lll hls hb=> ?_⟩;have tf: ∀{t:Tm Lf},t.ok (λl=>l∈ls)->t.rank < 7->dU sh t:=λh1 h2=>⟨Tm.ok_mono (λl hl=>hls l hl) h1,h2⟩
 ac_nf
 symm
 ac_nf
 refine⟨i,ls,a,b,rfl,hset,hb,zbT,by omega,λt a b tok uM hb=> ?_⟩;simp? only[set_set,mK];refine pL (λenv s=> ∃(d:Dd) (a b:Int),env= [some (PV.obj i),some (.tup [.lst (sh.map y6),.lst (sh.map y6)]),some (.lst (ws.map PV.str)),some (.lst (sh.map y6)),some (.lst (sh.map y6)),some (.lst (ls.map Lf.pv)),some d.pv]/\s=st.set i (z9 a b)/\zZ a b/\zdB sh d) (λN hN=> ?_) ?_
 ·have hd0:decide ((0:Int) < (sh.length:Int))=true:=decide_eq_true (by omega)
  simp? only[aa,hd0];refine⟨i,6,a,b,rfl,hset,hb,by decide,by decide,λg a b g0 g1 hb=> ?_⟩;simp? only[set_set];by_cases hg:0 < g
  ·have hd:decide (0 < g)=true:=decide_eq_true hg
   simp? only[hd,aa];refine⟨i,(sh.length:Int),a,b,rfl,hset,hb,by omega,by omega,λe a b e0 e1 hb=> ?_⟩;obtain⟨n,rfl⟩: ∃n:Nat,e=n:=⟨e.toNat,by omega⟩;have hn:sh[n]?=some sh[n]:=am (by omega);obtain⟨kd,r,h,es,hm,eb,hv⟩:=hsh _ (ap.mpr ⟨n,hn⟩);have er:atI (sh.map y6) (n:Int)=some (.tup [.str sh[n].1,.tup (.str kd::r),h.pv]):=by
    rw[zpV hn];unfold y6;rw[es,eb]
   simp? only[set_set,er];refine⟨i,sh[n].1,kd,r,h.pv,ls,ws,a,b,rfl,zgl h,hset,hb,hwe,hwl,by omega,λd a b hd hb=> ?_⟩;simp? only[set_set];obtain⟨d1,d2,d3⟩:=hd;exact hN _ _ ⟨d,a,b,rfl,rfl,hb,λx hx=>tf (d2 x hx).1 (d2 x hx).2,λs hs=>⟨sh[n],ap.mpr ⟨n,hn⟩,by rw[d1]at hs;exact bx hs,kd,r,es,d3⟩⟩
  ·have hd:decide (0 < g)=false:=decide_eq_false hg
   simp? only[hd];exact hN _ _ ⟨.tell t,a,b,rfl,rfl,hb,λx hx=>(by cases hx;exact tf tok uM),λs hs=>by cases hs⟩
 ·rintro env s0 ⟨d,a,b,rfl,rfl,hb,hD⟩
  symm
  ac_nf
  refine⟨i,4,a,b,rfl,hset,hb,by decide,by decide,λg a b g0 g1 hb=> ?_⟩;simp? only[set_set];by_cases h0:g=0
  ·subst h0
   simp? only[beq_self_eq_true];refine⟨i,ls,a,b,rfl,hset,hb,zbT,by omega,λt a b tok uM hb=> ?_⟩;simp? only[set_set,mK];exact⟨cY d,q (some t,d) a b ⟨λx hx=>(by cases hx;exact tf tok uM),hD⟩ hb⟩
  ·have nf:(g==0)=false:=by simpa using h0
   simp? only[nf];exact zlo (cY d) (q (none,d) a b ⟨λx hx=>(by cases hx),hD⟩ hb)
theorem znt {f:Addr}{fd:FuncData}(M:Mo K mg)(F:yP K "_law_join" "_law_join" f6 f fd):yG P w K mg base yH 2 f fd ["_law_box_here","_law_plan","_law_rows","_law_held"] (yC K zdf):=by
 obtain⟨_,_,zQ,zX,zY⟩:=M._law_take;have zW:= @vS P w K mg base _ _ M zQ;refine xH 0 F zhV (λxs st Q h=>by obtain⟨S,i,p,r,h,e,kv,names,E,a,b,w0,hd,rfl,_⟩:=h;rfl) ⟨_,λcdv A outer s H E hr=>have hr1:zU 1 _:=hr.mono (by decide);(zA (qz 4 zhV.nd (x8 bm ly lz (by decide) zgX (qv 3) (z3 (qk zW hr1 zY zQ zX (z3 (qv 0) (z3 (yB yM (by rfl) M.len bu (z3 (qv 3) z4)) z4))) z4)))
   (zA (x9 (x8 bm bv bw (by decide) xX (qv 2) (z3 (yJ (z3 zJ (z3 (qx hr (wN (uJ hr) (qv 1) zJ (λ_ _=>rfl)) (qv 4)) z4))) z4)))
   (zH (x9 (x8 bm sa sf (by decide) zgT (qv 3) (z3 (qx hr (wN (uJ hr) (qv 1) zJ (λ_ _=>rfl)) (qv 4)) z4)))))),λxs st Q h=> ?_⟩
 obtain⟨S,i,p,r,h,e,kv,names,E,a,b,w0,hd,rfl,rfl,L,hb,hne,hl1,hl2,hx,q⟩:=h;have hlen: ∀{a b a' b':Int} {w w' d d':List PV},(S a' b' w' d').take (S a b w d).length=S a' b' w' d':=λ{a b a' b' w w' d d'} =>by
  rw[L.len (a':=a') (b':=b') (w':=w') (d':=d')];exact fk
 obtain⟨gi,si,gr,sr,gh,sh',gp,ge⟩:=L;have hpos:0 < hd.length:=fg.mpr hne;have nm:zO kv (.inr "names")=some (.lst (names.map PV.str)):=hx.1;have en:zO kv (.inr "ends")=some (.obj e):=hx.2.1;symm;simp? only[gh,aa];refine⟨i,hd.length,a,b,rfl,gi,hb,by omega,by omega,λk a b k0 k1 hb=> ?_⟩;obtain⟨k,rfl⟩: ∃n:Nat,k=n:=⟨k.toNat,by omega⟩;have hk:k < hd.length:=by omega
 obtain⟨x,hxk⟩: ∃x,hd[k]?=some x:=⟨_,am hk⟩;obtain⟨hxn,l,hll,hlv⟩:=hx.2.2 x (ap.mpr ⟨k,hxk⟩);obtain⟨nmx,hnx⟩: ∃z,names[x]?=some z:=⟨_,am hxn⟩;have hix:atI (names.map PV.str) (x:Int)=some (.str nmx):=xJ (by rw[aw,hnx];rfl);have hel:(hd.eraseIdx k).length<=1000:=bq (ii ..) hl1;have he:(hd.map zE).eraseIdx k=(hd.eraseIdx k).map zE:=bD;simp? only[si,zcE];refine⟨h,k,zE x,_,rfl,rfl,gh,by rw[aw,hxk];rfl,?_⟩;rw[he];simp? only[sh'];symm;simp? only[gp,nm,hix,gr,sr,v0];refine⟨lm hl2 (by decide),?_⟩;rw[gh,en];refine⟨rfl,?_⟩;have ge':= @ge;simp? only[ge,hlv,gh,sh',aa];refine⟨by rw[cp];omega,?_⟩;rw[<- ao,hlen];exact q k x l nmx a b hxk hnx hlv hb
theorem zha {f:Addr}{fd:FuncData}(M:Mo K mg)(F:yP K "_law_hand" "_law_hand" gZ f fd)(l4:tP K fd ["_law_script","_law_at","_law_plan","_law_number_here"] [])(lX:mg "_law_hand" =some (.ref f)): ∀d,yG P w K mg base yH (d+13) f fd ["_law_script","_law_at","_law_plan","_law_number_here"] (yC K (fM d))
 | 0=>⟨λvs H Q E h=>(zic h).elim,λA outer s H args us vs Q E _ _ _ _ h=>(zic h).elim⟩
 | d+1=>by
  have IH:yG P w K mg base yH (d+13) f fd ["_law_script","_law_at","_law_plan","_law_number_here"] (yC K (fM d)):=zha M F l4 lX d;obtain⟨_,_,qN,l3,lW⟩:=M._law_box;have mS:= @zci P w K mg base _ _ M qN;obtain⟨_,_,zQ,zX,zY⟩:=M._law_take;have zW:= @vS P w K mg base _ _ M zQ;obtain⟨_,_,eL,zer,zgC⟩:=M._law_row;have zdV:= @zn1 P w K mg base _ _ M eL;obtain⟨_,_,eI,zeq,zgB⟩:=M._law_join;have zdU:= @znt P w K mg base _ _ M eI;have jH:=F;refine xH 0 F oO (λxs st Q h=>by obtain⟨ns,at',n,a0,kv,names,things,shl,many,sp,E,R,m0,rfl,_⟩:=h;rfl) ⟨_,λcdv A outer s H E hr=>have hr1:zU 1 _:=hr.mono (by omega);have hr2:zU 2 _:=hr.mono (by omega);have hr12:zU 12 _:=hr.mono (by omega);(zA (qz 4 oO.nd (qk mS hr1 lW qN l3 (z3 (qv 0) (z3 (zM y9 (qv 1) (qv 3)) z4))))
   (zA (qz 5 oO.nd (qx hr (wN (uJ hr) (qv 2) zJ (λ_ _=>rfl)) (qv 3)))
   (zA (zhB (i:=6) (j:=7) rfl oO.nd rfl rfl (by decide) rfl rfl (z3 (u5 z4) (z3 (u5 z4) z4)) (by rfl))
   (zA (wO cm rfl (u7 (by rfl) M.range (z3 (qk zW hr1 zY zQ zX (z3 (qv 4) (z3 z7 z4))) z4)) (qn 8 oO.nd) (zA (qz 9 oO.nd (qk zW hr1 zY zQ zX (z3 (qv 4) (z3 z7 z4))))
   (zH (yF (PW.pt (rN (qc o7 (qv 9) z7) (rO (qc vY (yB yM (by rfl) M.len bu (z3 (wN (uJ hr) (qv 2) zJ (λ_ _=>rfl)) z4)) z7)))) (zA (qz 10 oO.nd (x8 bm ly lz (by decide) zgX (wN (uJ hr) (qv 2) zJ (λ_ _=>rfl)) (z3 (qk zW hr1 zY zQ zX (z3 (qv 4) (z3 (yB yM (by rfl) M.len bu (z3 (wN (uJ hr) (qv 2) zJ (λ_ _=>rfl)) z4)) z4))) z4)))
   (zA (tJ (qk IH hr lX jH l4 (z3 (qv 0) (z3 (qv 1) (z3 (qv 2) (z3 (qv 10) z4))))) (rM hr (wN (uJ hr) (qv 2) zJ (λ_ _=>rfl)) (qv 10)))
   (zA (x9 (x8 bm bv bw (by decide) xX (qv 6) (z3 (yJ (z3 zJ (z3 (qx hr (wN (uJ hr) (qv 2) zJ (λ_ _=>rfl)) (qv 10)) z4))) z4)))
   (zH (x9 (x8 bm bv bw (by decide) xX (qv 7) (z3 (qv 10) z4))))))) (zH (yF (PW.pt (rN (qc (xG hr) (qv 9) z7) (rO (qc vY (yB yM (by rfl) M.len bu (z3 (qv 7) z4)) z7)))) (zH (x9 (qk zdU hr2 zgB eI zeq (z3 (qv 4) (z3 (qv 2) (z3 (qv 6) (z3 (qv 7) z4))))))) (zH (x9 (x8 bm bv bw (by decide) xX (qv 6) (z3 (qk zdV hr12 zgC eL zer (z3 (qv 4) (z3 (qv 5) (z3 (wN (uJ hr) (qv 2) zJ (λ_ _=>rfl)) z4)))) z4))))))))))
   (zA (gJ cm (PW.pt (rN (qc vY (yB yM (by rfl) M.len bu (z3 (qv 7) z4)) z7) (rO (PW.pt (oG (qc (xG hr) (qv 3) z7) (nZ (qc vY (qk zW hr1 zY zQ zX (z3 (qv 4) (z3 z7 z4))) z7))))))) (zA (yF (PW.pt (rN (qc o7 (yB yM (by rfl) M.len bu (z3 (qv 6) z4)) z7) (rO (qc (xG hr) (qk zW hr1 zY zQ zX (z3 (qv 4) (z3 z7 z4))) z7)))) (zH (x9 (x8 bm bv bw (by decide) xX (qv 6) (z3 (qk zdV hr12 zgC eL zer (z3 (qv 4) (z3 (qv 5) (z3 (wN (uJ hr) (qv 2) zJ (λ_ _=>rfl)) z4)))) z4)))) yN)
   (zH (x9 (qk zdU hr2 zgB eI zeq (z3 (qv 4) (z3 (qv 2) (z3 (qv 6) (z3 (qv 7) z4)))))))))
   (zA (tJ (yJ (z3 (qx hr (wN (uJ hr) (qv 2) zJ (λ_ _=>rfl)) (qv 3)) (z3 (vK (p9 rfl) (by rfl) M.tuple rX (z3 (qv 6) z4)) z4))) (rM hr (wN (uJ hr) (qv 2) zJ (λ_ _=>rfl)) (qv 3)))
   (zH (y3 (qv 7))))))))),λxs st Q h=> ?_⟩
  obtain⟨ns,at',n,a0,kv,names,things,shl,many,sp,E,R,m0,rfl,rfl,H,hd8,q⟩:=h;have hu:atI (List.replicate many (PV.tup [.lst (shl.map y6),.lst (shl.map y6)])) (n:Int)=some (.tup [.lst (shl.map y6),.lst (shl.map y6)]):=xJ (by rw[gk,if_pos H.nlt]);have kn:=H.K.nms;have kt:=H.K.tgs;have ku:=H.K.uses;have ks:=H.K.spare;have ke:=H.K.ends;have kr:=H.K.rows;symm
  ac_nf
  refine⟨ns,_,rfl,H.nl,by have:=H.a0;omega,λa b hb=> ?_⟩;simp? only[zdX,zdY];symm;simp? only[wV,ku,hu,v0];symm;simp? only[zdX,zdY];have e3: ∀{x y z:PO},m0++ [x]++ [y]++ [z]=m0++ [x,y,z]:=λ{x y z} =>by simp
  have l1: ∀{x:PO},(m0++ [x]).length+5=m0.length+6:=λ{x} =>by simp
  have l2: ∀{x y:PO},(m0++ [x]++ [y]).length+5=m0.length+7:=λ{x y} =>by simp
  rw[e3,l1,l2];have enm: ∀{x:Nat},x < names.length->atI (names.map PV.str) (x:Int)=some (.str (zC names x)):=λ{x} hx=>xJ (by rw[aw,gB hx];rfl);have insp: ∀x∈sp,x < names.length:=λx hx=>bc (H.sm x hx) H.nml;have inj: ∀a∈sp,∀b∈sp,zC names a=zC names b->a=b:=λa ha b hb e=>lZ H.nn (insp a ha) (insp b hb) e;have env0: ∃ev:Option PV->Option PV->Option PV->zG,ev=λv8 v9 v10=> [some (PV.lst (ns.map PV.int)),some (.int at'),some (.obj 4),some (.int (n:Int)),some (.obj (m0.length+5)),some (.tup [.lst (shl.map y6),.lst (shl.map y6)]),some (.obj (m0.length+6)),some (.obj (m0.length+7)),v8,v9,v10]:=⟨_,rfl⟩;obtain⟨ev,hev⟩:=env0;have big:(2000:Nat) < sizeLine:=by rw[cp];decide
  refine pL (λenv s=> ∃(sp' ks:List Nat) (X:List Re) (E1:List Ee) (rs:List Rh) (hd:List Nat) (a b:Int) (v8 v9 v10:Option PV),env=ev v8 v9 v10/\s=G a0 kv (zC names) sp' (E++E1) (R++X) (m0++ [z9 a b,.lst (rs.map Rh.pv),.lst (hd.map zE)])/\LK shl (zC names) sp E sp' ks X E1 rs hd/\rs.length<=8/\zZ a b) (λN hN=> ?_) ?_
  ·ac_nf
   refine⟨m0.length+5,9,a,b,rfl,wF,hb,by decide,by decide,λt a b t0 t1 hb=> ?_⟩;simp? only[wJ];refine⟨⟨by omega,by omega⟩,wL (λk env s=> ∃(sp' ks:List Nat) (X:List Re) (E1:List Ee) (rs:List Rh) (hd:List Nat) (a b:Int) (v8 v9 v10:Option PV),env=ev v8 v9 v10/\s=G a0 kv (zC names) sp' (E++E1) (R++X) (m0++ [z9 a b,.lst (rs.map Rh.pv),.lst (hd.map zE)])/\LK shl (zC names) sp E sp' ks X E1 rs hd/\rs.length<=k/\zZ a b) ⟨sp,[],[],[],[],[],a,b,none,none,none,by rw[hev],by simp,LK.start H.sn,ak _,hb⟩ ?_ ?_⟩
   ·rintro k x env s hx ⟨sp',ks',X,E1,rs,hd,a,b,v8,v9,v10,rfl,rfl,I,hrl,hb⟩
    obtain⟨hk,rfl⟩:=u8 hx;have hIl:=I.len;have hs7:=H.s7;subst hev
    ac_nf
    symm
    ac_nf
    refine⟨m0.length+5,8,a,b,rfl,wF,hb,by decide,by decide,λkind a b k0 k1 hb=> ?_⟩;simp? only[wJ];have hrl':rs.length<=8:=by omega
    have done: ∀{yC ks2:List Nat} {X2:List Re} {E2:List Ee} {rs2:List Rh} {hd2:List Nat} {a b:Int} {v8 v9 v10:Option PV},LK shl (zC names) sp E yC ks2 X2 E2 rs2 hd2->rs2.length<=k+1->zZ a b->∃(sp' ks:List Nat) (X:List Re) (E1:List Ee) (rs:List Rh) (hd:List Nat) (a' b':Int) (v8' v9' v10':Option PV),[some (PV.lst (ns.map PV.int)),some (.int at'),some (.obj 4),some (.int (n:Int)),some (.obj (m0.length+5)),some (.tup [.lst (shl.map y6),.lst (shl.map y6)]),some (.obj (m0.length+6)),some (.obj (m0.length+7)),v8,v9,v10]= [some (PV.lst (ns.map PV.int)),some (.int at'),some (.obj 4),some (.int (n:Int)),some (.obj (m0.length+5)),some (.tup [.lst (shl.map y6),.lst (shl.map y6)]),some (.obj (m0.length+6)),some (.obj (m0.length+7)),v8',v9',v10']/\G a0 kv (zC names) yC (E++E2) (R++X2) (m0++ [z9 a b,.lst (rs2.map Rh.pv),.lst (hd2.map zE)])=G a0 kv (zC names) sp' (E++E1) (R++X) (m0++ [z9 a' b',.lst (rs.map Rh.pv),.lst (hd.map zE)])/\LK shl (zC names) sp E sp' ks X E1 rs hd/\rs.length<=k+1/\zZ a' b':=λ{yC ks2 X2 E2 rs2 hd2 a b v8 v9 v10} I2 h2 hb=>⟨yC,ks2,X2,E2,rs2,hd2,a,b,v8,v9,v10,rfl,rfl,I2,h2,hb⟩;have plain: ∀{r:Rw} {a b:Int} {v8 v9 v10:Option PV},qQ shl r->zZ a b->_:=λ{r a b v8 v9 v10} hr hb=>done (v8:=v8) (v9:=v9) (v10:=v10) (I.plain hr) (by rw[af,bi];omega) hb;by_cases hk3:kind < 3
    ·have d3:decide (kind < 3)=true:=decide_eq_true hk3
     rw[d3];by_cases hsp:sp'= []
     ·subst hsp
      simp? only[vM,vN,vE,wV,wF,vO,vH,wJ,vP,vQ,kn,kt,ks,ke,kr,v0,aa];have hk3':(kind==3)=false:=by simp;omega
      rw[hk3']
      ac_nf
      refine zcQ H hb λr a b hr hb=> ?_;simp? only[vM,vN,vE,wV,wF,vO,vH,wJ,vP,vQ,kn,kt,ks,ke,kr,v0,aa,gU];refine⟨by omega,?_⟩;have:=plain (v8:=some (.int (0+(k:Int)))) (v9:=some (.int kind)) (v10:=v10) hr hb;rw[ao]at this;exact this
     ·have hpos:0 < sp'.length:=fg.mpr hsp
      have hdp:decide (0 < ((sp'.length:Nat):Int))=true:=decide_eq_true (by omega);simp? only[vM,vN,vE,wV,wF,vO,vH,wJ,vP,vQ,kn,kt,ks,ke,kr,v0,aa,hdp];symm;simp? only[vM,vN,vE,wV,wF,vO,vH,wJ,vP,vQ,kn,kt,ks,ke,kr,v0,aa];refine⟨m0.length+5,sp'.length,a,b,rfl,wF,hb,by omega,by omega,λi a b i0 i1 hb=> ?_⟩;obtain⟨i,rfl⟩: ∃n:Nat,i=n:=⟨i.toNat,by omega⟩;have hi:i < sp'.length:=by omega
      obtain⟨j,hj⟩: ∃j,sp'[i]?=some j:=⟨_,am hi⟩;have hjs:j∈sp':=ap.mpr ⟨i,hj⟩;have hjsp:j∈sp:=I.sub j (al _ hjs);simp? only[vM,vN,vE,wV,wF,vO,vH,wJ,vP,vQ,kn,kt,ks,ke,kr,v0,aa,zcE];refine⟨1,i,zE j,_,rfl,rfl,vM,by rw[aw,hj];rfl,?_⟩;rw[bD,zjx]
      ac_nf
      symm
      ac_nf
      have hlt:=ii sp' i;have hlt2:(sp'.eraseIdx i).length < sp'.length:=by rw[List.length_eraseIdx,if_pos hi];omega
      refine⟨ns,at',j,a0,kv,names,things,shl,many,sp'.eraseIdx i,E++E1,R++X,_,rfl,rfl,H.kid I.toLI hj,by omega,λspc ksc Xc E1c rsc hdc C _ hcl=> ?_⟩;have hjn:j < names.length:=insp j hjsp;have ej:=enm hjn;have Cl:=C.len;have ee1:E1.length=ks'.length:=by rw[<- I.ek,aa]
      have ee2:E1c.length=ksc.length:=by rw[<- C.ek,aa]
      have helh:=H.el;have hjne:j∉(E++E1++E1c).map (·.1):=by
       have hk:=H.kid I.toLI hj;rw[ao,av,not_or,C.ek];refine⟨?_,λz=>(zeT (bp.mp I.nd).2.1 hj (C.sub j (az _ z))).2 rfl⟩;rw[ao,av,not_or,I.ek];exact⟨H.de j hjsp,λz=>(bp.mp I.nd).2.2 j z j hjs rfl⟩
      have hen:=zlg (l:=hdc) hjne;have hel2:(vF (E++E1++E1c)).length<=200:=by unfold vF;rw[aa,af,af];omega
      have I2:=LK.split inj I hj C hcl;simp? only[vM,vN,vE,wV,wF,vO,vH,wJ,vP,vQ,kn,kt,ks,ke,kr,v0,aa];refine⟨by omega,?_⟩;rw[hen,zjy];symm;simp? only[vM,vN,vE,wV,wF,vO,vH,wJ,vP,vQ,kn,kt,ks,ke,kr,v0,aa,ej];have hhl:=I.hl;refine⟨by omega,by omega,?_⟩;have:=done (v8:=some (.int (0+(k:Int)))) (v9:=some (.int kind)) (v10:=some (zE j)) I2 (by rw[af,bi];omega) hb;rw[<- au E,<- au (E++E1),<- au R,<- au (R++X),ao,ao]at this;exact this
    ·have d3:decide (kind < 3)=false:=decide_eq_false hk3
     rw[d3];simp? only[vM,vN,vE,wV,wF,vO,vH,wJ,vP,vQ,kn,kt,ks,ke,kr,v0,aa];by_cases he3:kind=3/\hd≠ []
     ·obtain⟨rfl,hne⟩:=he3
      have hdp:decide (0 < ((hd.length:Nat):Int))=true:=decide_eq_true (by have:=fg.mpr hne;omega);simp? only[beq_self_eq_true,hdp];refine zg4 H I.toLI (by omega) hb hne λk' x l a b hx hl hb=> ?_;exact done (I.join inj hx hl).1 (by rw[af,bi];omega) hb
     ·have rowc: ∀{Q:K3},(∀(r:Rw) a b,qQ shl r->zZ a b->Q r.pv (G a0 kv (zC names) sp' (E++E1) (R++X) (m0++ [z9 a b,.lst (rs.map Rh.pv),.lst (hd.map zE)])))->fN [.obj (m0.length+5),.tup [.lst (shl.map y6),.lst (shl.map y6)],.lst (things.map PV.str)] (G a0 kv (zC names) sp' (E++E1) (R++X) (m0++ [z9 a b,.lst (rs.map Rh.pv),.lst (hd.map zE)])) Q:=λq=>zcQ H hb q
      have rowd: ∀(r:Rw) a b,qQ shl r->zZ a b->_:=λr a b hr hb=>plain (v8:=some (.int (0+(k:Int)))) (v9:=some (.int kind)) (v10:=v10) (a:=a) (b:=b) hr hb;by_cases hkk:kind=3
      ·have hnil:hd= []:=Classical.byContradiction λz=>he3 ⟨hkk,z⟩
       subst hkk hnil;simp? only[beq_self_eq_true];refine rowc λr a b hr hb=> ?_;simp? only[vM,vN,vE,wV,wF,vO,vH,wJ,vP,vQ,kn,kt,ks,ke,kr,v0,aa,gU];refine⟨by omega,?_⟩;have:=rowd r a b hr hb;rw[ao]at this;exact this
      ·have hk3':(kind==3)=false:=by simpa using hkk
       rw[hk3']
       ac_nf
       refine rowc λr a b hr hb=> ?_;simp? only[vM,vN,vE,wV,wF,vO,vH,wJ,vP,vQ,kn,kt,ks,ke,kr,v0,aa,gU];refine⟨by omega,?_⟩;have:=rowd r a b hr hb;rw[ao]at this;exact this
   ·rintro env s ⟨sp',ks',X,E1,rs,hd,a,b,v8,v9,v10,rfl,rfl,I,hrl,hb⟩
    rw[tL]at hrl
    ac_nf
    exact hN _ _ ⟨sp',ks',X,E1,rs,hd,a,b,v8,v9,v10,rfl,rfl,I,by omega,hb⟩
  ·rintro env s ⟨sp0,ks0,X0,E0,rs0,hd0,a,b,v8,v9,v10,rfl,rfl,I0,hrl0,hb0⟩
   have hs7:=H.s7;have hw0:=I0.wt;have hk0:=I0.len;refine pL (λenv s=> ∃(sp' ks:List Nat) (X:List Re) (E1:List Ee) (rs:List Rh) (hd:List Nat) (a b:Int) (v8 v9 v10:Option PV),env=ev v8 v9 v10/\s=G a0 kv (zC names) sp' (E++E1) (R++X) (m0++ [z9 a b,.lst (rs.map Rh.pv),.lst (hd.map zE)])/\LK shl (zC names) sp E sp' ks X E1 rs hd/\(n=0->hd= [])/\rs.length<=30) (λN hN=> ?_) ?_
   ·refine⟨λm env s=> ∃(sp' ks:List Nat) (X:List Re) (E1:List Ee) (rs:List Rh) (hd:List Nat) (a b:Int) (v8 v9 v10:Option PV),env=ev v8 v9 v10/\s=G a0 kv (zC names) sp' (E++E1) (R++X) (m0++ [z9 a b,.lst (rs.map Rh.pv),.lst (hd.map zE)])/\LK shl (zC names) sp E sp' ks X E1 rs hd/\zZ a b/\m=(hd.map (wE (E++E1))).sum/\rs.length+2 * m<=22,⟨_,sp0,ks0,X0,E0,rs0,hd0,a,b,v8,v9,v10,rfl,rfl,I0,hb0,rfl,by omega⟩,?_⟩
    rintro m env s ⟨sp',ks',X,E1,rs,hd,a,b,v8,v9,v10,rfl,rfl,I,hb,rfl,hrl⟩;have hIl:=I.len;have hhl:=I.hl;subst hev;by_cases hne:hd= []
    ·subst hne
     simp? only[vM,vN,vE,wV,wF,vO,vH,wJ,vP,vQ,kn,kt,ks,ke,kr,v0,aa];exact hN _ _ ⟨sp',ks',X,E1,rs,[],a,b,v8,v9,v10,rfl,rfl,I,λ_=>rfl,by omega⟩
    ·have hdp:decide (0 < ((hd.length:Nat):Int))=true:=decide_eq_true (by have:=fg.mpr hne;omega)
     have body: ∀{a b:Int} {D:xV},zZ a b->(∀(rs2:List Rh) (hd2:List Nat) (a b:Int),LK shl (zC names) sp E sp' ks' X E1 rs2 hd2->zZ a b->(hd2.map (wE (E++E1))).sum+1=(hd.map (wE (E++E1))).sum->rs2.length<=rs.length+2->D.nx [some (PV.lst (ns.map PV.int)),some (.int at'),some (.obj 4),some (.int (n:Int)),some (.obj (m0.length+5)),some (.tup [.lst (shl.map y6),.lst (shl.map y6)]),some (.obj (m0.length+6)),some (.obj (m0.length+7)),v8,v9,v10] (G a0 kv (zC names) sp' (E++E1) (R++X) (m0++ [z9 a b,.lst (rs2.map Rh.pv),.lst (hd2.map zE)])))->
       u9 (fY (fW (mM (sU (oH λi j=>decide (i < j)) (rR gP (tO (uA 6) pR)) (vC (PV.int 12)))) (mM (sU zc6 (rR zie (tO (uA 4) (tO (vC (PV.int 3)) pR))) (vC (PV.int 0))))) (fX (vBM "list" gK (uA 6) (tO (rR fN (tO (uA 4) (tO (uA 5) (tO (sU gO (uA 2) (vC (PV.str (Str.ofString "things")))) pR)))) pR))) zd1) (fX (rR zdf (tO (uA 4) (tO (uA 2) (tO (uA 6) (tO (uA 7) pR)))))) D [some (PV.lst (ns.map PV.int)),some (.int at'),some (.obj 4),some (.int (n:Int)),some (.obj (m0.length+5)),some (.tup [.lst (shl.map y6),.lst (shl.map y6)]),some (.obj (m0.length+6)),some (.obj (m0.length+7)),v8,v9,v10] (G a0 kv (zC names) sp' (E++E1) (R++X) (m0++ [z9 a b,.lst (rs.map Rh.pv),.lst (hd.map zE)])):=by
      intro a b D hb hD;refine pL (λenv s=> ∃(rs2:List Rh) (a b:Int),env= [some (PV.lst (ns.map PV.int)),some (.int at'),some (.obj 4),some (.int (n:Int)),some (.obj (m0.length+5)),some (.tup [.lst (shl.map y6),.lst (shl.map y6)]),some (.obj (m0.length+6)),some (.obj (m0.length+7)),v8,v9,v10]/\s=G a0 kv (zC names) sp' (E++E1) (R++X) (m0++ [z9 a b,.lst (rs2.map Rh.pv),.lst (hd.map zE)])/\LK shl (zC names) sp E sp' ks' X E1 rs2 hd/\zZ a b/\rs2.length<=rs.length+1) (λN hN=> ?_) ?_
      ·simp? only[vM,vN,vE,wV,wF,vO,vH,wJ,vP,vQ,kn,kt,ks,ke,kr,v0,aa]
       by_cases h12:((rs.length:Nat):Int) < 12
       ·have d12:decide (((rs.length:Nat):Int) < 12)=true:=decide_eq_true h12
        simp? only[d12];refine⟨m0.length+5,3,a,b,rfl,wF,hb,by decide,by decide,λt a b t0 t1 hb=> ?_⟩;simp? only[wJ];by_cases ht:t=0
        ·subst ht
         simp? only[beq_self_eq_true,vM,vN,vE,wV,wF,vO,vH,wJ,vP,vQ,kn,kt,ks,ke,kr,v0,aa];refine zcQ H hb λr a b hr hb=> ?_;simp? only[vM,vN,vE,wV,wF,vO,vH,wJ,vP,vQ,kn,kt,ks,ke,kr,v0,aa,gU];refine⟨by omega,hN _ _ ⟨rs++ [.pl r],a,b,rfl,by rw[ao];rfl,I.plain hr,hb,by rw[af,bi];exact ak _⟩⟩
        ·have ht':(t==0)=false:=by simpa using ht
         simp? only[ht'];exact hN _ _ ⟨rs,a,b,rfl,rfl,I,hb,by omega⟩
       ·have d12:decide (((rs.length:Nat):Int) < 12)=false:=decide_eq_false h12
        simp? only[d12];exact hN _ _ ⟨rs,a,b,rfl,rfl,I,hb,by omega⟩
      ·rintro env s ⟨rs2,a,b,rfl,rfl,I2,hb,hr2⟩
       ac_nf
       refine zg4 H I2.toLI (by omega) hb hne λk' x l a b hx hl hb=> ?_;have:=I2.join inj hx hl;exact hD _ _ a b this.1 hb this.2 (by rw[af,bi];omega)
     simp? only[vM,vN,vE,wV,wF,vO,vH,wJ,vP,vQ,kn,kt,ks,ke,kr,v0,aa,hdp];by_cases hn0:n=0
     ·have hn0':(((n:Nat):Int)==0)=true:=by rw[hn0];rfl
      simp? only[hn0'];refine⟨λe s=> ∃(rs2:List Rh) (hd2:List Nat) (a b:Int),e= [some (PV.lst (ns.map PV.int)),some (.int at'),some (.obj 4),some (.int (n:Int)),some (.obj (m0.length+5)),some (.tup [.lst (shl.map y6),.lst (shl.map y6)]),some (.obj (m0.length+6)),some (.obj (m0.length+7)),v8,v9,v10]/\s=G a0 kv (zC names) sp' (E++E1) (R++X) (m0++ [z9 a b,.lst (rs2.map Rh.pv),.lst (hd2.map zE)])/\LK shl (zC names) sp E sp' ks' X E1 rs2 hd2/\zZ a b/\(hd2.map (wE (E++E1))).sum+1=(hd.map (wE (E++E1))).sum/\rs2.length<=rs.length+2,?_,body hb λrs2 hd2 a b i1 i2 i3 i4=>⟨rs2,hd2,a,b,rfl,rfl,i1,i2,i3,i4⟩⟩;rintro e s ⟨rs2,hd2,a,b,rfl,rfl,h3,h4,h5,h6⟩;exact⟨(hd2.map (wE (E++E1))).sum,by omega,sp',ks',X,E1,rs2,hd2,a,b,v8,v9,v10,rfl,rfl,h3,h4,rfl,by omega⟩
     ·have hn0':(((n:Nat):Int)==0)=false:=by simp;omega
      simp? only[hn0'];refine⟨m0.length+5,3,a,b,rfl,wF,hb,by decide,by decide,λt a b t0 t1 hb=> ?_⟩;simp? only[wJ];by_cases ht:0 < t
      ·have ht':decide (0 < t)=true:=decide_eq_true ht
       simp? only[ht'];refine⟨λe s=> ∃(rs2:List Rh) (hd2:List Nat) (a b:Int),e= [some (PV.lst (ns.map PV.int)),some (.int at'),some (.obj 4),some (.int (n:Int)),some (.obj (m0.length+5)),some (.tup [.lst (shl.map y6),.lst (shl.map y6)]),some (.obj (m0.length+6)),some (.obj (m0.length+7)),v8,v9,v10]/\s=G a0 kv (zC names) sp' (E++E1) (R++X) (m0++ [z9 a b,.lst (rs2.map Rh.pv),.lst (hd2.map zE)])/\LK shl (zC names) sp E sp' ks' X E1 rs2 hd2/\zZ a b/\(hd2.map (wE (E++E1))).sum+1=(hd.map (wE (E++E1))).sum/\rs2.length<=rs.length+2,?_,body hb λrs2 hd2 a b i1 i2 i3 i4=>⟨rs2,hd2,a,b,rfl,rfl,i1,i2,i3,i4⟩⟩;rintro e s ⟨rs2,hd2,a,b,rfl,rfl,h3,h4,h5,h6⟩;exact⟨(hd2.map (wE (E++E1))).sum,by omega,sp',ks',X,E1,rs2,hd2,a,b,v8,v9,v10,rfl,rfl,h3,h4,rfl,by omega⟩
      ·have ht':decide (0 < t)=false:=decide_eq_false ht
       simp? only[ht'];exact hN _ _ ⟨sp',ks',X,E1,rs,hd,a,b,v8,v9,v10,rfl,rfl,I,λz=>absurd z hn0,by omega⟩
   ·rintro env s ⟨sp',ks',X,E1,rs,hd,a,b,v8,v9,v10,rfl,rfl,I,hz,hrl⟩
    subst hev;have en:=enm (bc H.nlt H.nml);have hnk:n∉(R++X).map (·.1):=by
     rw[ao,av,not_or,I.xk];exact⟨H.nr,λz=>H.ns' (I.sub n (az _ z))⟩
    have hrn:=zpD (nm:=zC names) (rs:=rs) hnk;have hxl:X.length=ks'.length:=by rw[<- I.xk,aa]
    have hIl:=I.len;have hrr:=H.rl;have hrl2:(vU (zC names) (R++X)).length<=200:=by unfold vU;rw[aa,af];omega
    symm;simp? only[vM,vN,vE,wV,wF,vO,vH,wJ,vP,vQ,kn,kt,ks,ke,kr,v0,aa,en];refine⟨by omega,?_⟩;rw[show PV.tup [PV.str (zC names n),PV.tup (rs.map Rh.pv)]=xR (zC names n,rs)from rfl,hrn,zjz];unfold xA;dsimp only;rw[if_neg (by omega),vH];dsimp only;have htk: ∀{m1 m2:z5} {x y:List Nat} {z:List Ee} {u:List Re},(G a0 kv (zC names) x z u (m1++m2)).take (m1.length+5)=G a0 kv (zC names) x z u m1:=λ{m1 m2 x y z u} =>by
     show _::_::_::_::_::((m1++m2).take m1.length)=_;rw[cr (ak _),fk];rfl
    rw[htk (y:= [])];exact q sp' ks' X E1 rs hd I hz hrl
theorem zn5 {f:Addr}{fd:FuncData}(M:Mo K mg)(F:yP K "_law_three_words" "_law_three_words" fF f fd):yG P w K mg base yH 3 f fd ["_law_box_here"] (yC K zqv):=by
 obtain⟨_,_,zQ,zX,zY⟩:=M._law_take;have zW:= @vS P w K mg base _ _ M zQ;obtain⟨_,_,jJ,c9,zbY⟩:=M._law_words;have eR:= @zn7 P w K mg base _ _ M jJ;refine xH 0 F qI (λxs st Q h=>by obtain⟨i,a,b,rfl,_⟩:=h;rfl) ⟨_,λcdv A outer s H E hr=>have hr1:zU 1 _:=hr.mono (by decide);have hr2:zU 2 _:=hr.mono (by decide);(zA (qz 1 qI.nd (qk zW hr1 zY zQ zX (z3 (qv 0) (z3 z7 z4))))
   (zA (qz 2 qI.nd (qk eR hr2 zbY jJ c9 (z3 (qv 0) (z3 z7 z4))))
   (zA (yF (qc (xG hr) (qv 1) z7) (zA (tJ (wB (wB zJ (xY (qk zW hr1 zY zQ zX (z3 (qv 0) (z3 z7 z4)))) wC) wC (xY z7)) (zpl (n:=3) rfl (yX (qn 3 qI.nd) (yX (qn 4 qI.nd) (yX (qn 5 qI.nd) u6)))))
   (zA (qz 2 qI.nd (u3 (z3 (qv 3) (z3 (zM y9 (qv 3) (qv 4)) (z3 (qv 4) (z3 (zM y9 (qv 4) (qv 5)) (z3 (qv 5) z4)))))))
   (zH (qz 2 qI.nd (zM y9 (qv 2) (u3 (z3 (zM y9 (qv 3) (qv 5)) (z3 (zM y9 (zM y9 (qv 3) (qv 4)) (qv 5)) (z3 (zM y9 (qv 5) (qv 4)) z4))))))))) yN)
   (zA (qz 6 qI.nd (qk zW hr1 zY zQ zX (z3 (qv 0) (z3 z7 z4))))
   (zA (yF (PW.pt (oG (qc (xG hr) (qv 1) z7) (nZ (qc (xG hr) (qv 1) z7)))) (zH (y3 (yJ (z3 (wB (qv 2) wC (xY z7)) (z3 (zM y9 (wB (qv 2) (xY (qv 6)) wC) (wB (qv 2) wC (xY (qv 6)))) (z3 (wB (zpj (qv 2) (xY (pC p8 z7))) wC (xY z7)) z4)))))) yN)
   (zH (y3 (yJ (z3 (wB (qv 2) wC (xY z7)) (z3 (qk eR hr2 zbY jJ c9 (z3 (qv 0) (z3 z7 z4))) (z3 (qk eR hr2 zbY jJ c9 (z3 (qv 0) (z3 z7 z4))) z4))))))))))),λxs st Q h=> ?_⟩
 obtain⟨i,a,b,rfl,hi,hb,q⟩:=h;have hset: ∀{a b:Int},(st.set i (z9 a b))[i]?=some (z9 a b):=λ{a b} =>sG hi;have small_l:(("abcdefghijklmnopqrstuvwxyz" :Str)).length<=sizeLine:=bq (m:=1000) (by decide+kernel) (by decide);symm
 ac_nf
 refine⟨i,4,a,b,rfl,hi,hb,by decide,by decide,λform a b f0 f1 hb=> ?_⟩
 ac_nf
 symm
 ac_nf
 refine⟨i,8,a,b,rfl,hset,hb,by decide,by decide,λws a b hwl hwn hb=> ?_⟩;have hwl':ws.length=8:=by omega
 ac_nf
 refine pL (λenv s=> ∃(ws:List Str) (v1 v2 v3:Option PV) (a b:Int),env= [some (PV.obj i),some (.int form),some (.lst (ws.map PV.str)),v1,v2,v3,none]/\ws.length=8/\ws.Nodup/\zZ a b/\s=st.set i (z9 a b)) (λN hN=> ?_) ?_
 ·by_cases hf:form=2
  ·subst hf
   simp? only[beq_self_eq_true];symm
   ac_nf
   refine⟨i,24,a,b,rfl,hset,hb,by decide,by decide,λk a b k0 k1 hb=> ?_⟩;obtain⟨n,rfl⟩: ∃n:Nat,k=n:=⟨k.toNat,by omega⟩;have hn:n < 24:=by omega
   have hc:=zkK n hn
   ac_nf
   refine⟨small_l,λl1=>⟨bq l1 small_l,λl2=> ?_⟩⟩;rw[hc];refine⟨rfl,?_⟩;have e3:(mD ⟨#[97+n,97+(n+1),97+(n+2)]⟩).map PV.str= [.str (sg n),.str (sg (n+1)),.str (sg (n+2))]:=rfl;rw[e3];have l1': ∀k,(sg k).length=1:=λk=>rfl;have thou: ∀{n:Nat},n<=1000->n<=sizeLine:=λh=>bq h (by decide)
   ac_nf
   symm;simp? only[l1',lu];refine⟨thou (by decide),thou (by decide),?_⟩;simp? only[l1',lu];exact⟨thou (by decide),thou (by decide),thou (by decide),thou (by decide),thou (by decide),hN _ _ ⟨zeQ n,_,_,_,a,b,rfl,rfl,zle n hn,hb,rfl⟩⟩
  ·have hf':(form==2)=false:=by simpa using hf
   simp? only[hf'];exact hN _ _ ⟨ws,_,_,_,a,b,rfl,hwl',hwn,hb,rfl⟩
 ·rintro env s ⟨ws,v1,v2,v3,a,b,rfl,hwl,hwn,hb,rfl⟩
  symm
  ac_nf
  refine⟨i,8,a,b,rfl,hset,hb,by decide,by decide,λk a b k0 k1 hb=> ?_⟩;obtain⟨n,rfl⟩: ∃n:Nat,k=n:=⟨k.toNat,by omega⟩
  ac_nf
  symm
  ac_nf
  have e6:w5 (ws.map PV.str) none (some 6)=(ws.take 6).map PV.str:=by rw[show((6:Int))=((6:Nat):Int)from rfl,o0,lh]
  have l6:(ws.take 6).length=6:=by rw[cf];omega
  have n6:(ws.take 6).Nodup:=hwn.sublist (jy _ _);have done:(w5 (ws.map PV.str) (some (n:Int)) none).length+(w5 (ws.map PV.str) none (some (n:Int))).length<=sizeLine/\Q (.tup [.lst (w5 (ws.map PV.str) none (some 6)),.lst (w5 (ws.map PV.str) (some (n:Int)) none++w5 (ws.map PV.str) none (some (n:Int))),.lst (w5 (ws.map PV.str).reverse none (some 6))]) (st.set i (z9 a b)):=by
   rw[e6,lE,o0,<- nz,<- lh,<- ao,<- og,show((6:Int))=((6:Nat):Int)from rfl,o0,<- lh];have hp:(ws.drop n++ws.take n).Perm ws:=fq.trans (by rw[gx]);refine⟨?_,q _ _ _ a b l6 n6 (hp.length_eq.trans hwl) (hp.nodup_iff.mpr hwn) ?_ ?_ (((List.reverse_perm ws).nodup_iff.mpr hwn).sublist (jy _ _)) hb⟩
   ·rw[aa,aa,fj,cf,cp];omega
   ·intro z;have:=congrArg List.length z;rw[cf,io,hwl]at this;exact absurd this (by decide)
   ·rw[cf];omega
  by_cases hf:form=1∨form=2
  ·rcases hf with rfl | rfl
   ·simp? only[beq_self_eq_true]
    exact done
   ·simp? only[beq_self_eq_true]
    exact done
  ·have hb1:(form==1)=false:=by simp at hf⊢;exact hf.1
   have hb2:(form==2)=false:=by simp at hf⊢;exact hf.2
   simp? only[hb1,hb2];refine⟨i,8,a,b,rfl,hset,hb,by decide,by decide,λns a b hnl hnn hb=> ?_⟩
   ac_nf
   refine⟨i,6,a,b,rfl,hset,hb,by decide,by decide,λts a b htl htn hb=> ?_⟩;rw[e6]
   ac_nf
   exact q _ ns ts a b l6 n6 (by omega) hnn (λz=>by rw[z]at htl;simp at htl) (by omega) htn hb
theorem nd5:(["_law_script","_law_at","_law_kinds","_law_calm","_law_hands","_law_box_here","_law_words_here","_law_names","_law_things","_law_shelves","_law_k","_law_manner_here","_law_many","_law_uses","_law_plan","_law_others_here","_law_turn","_law_number_here"]:List Str).Nodup:=by decide+kernel
theorem znz {f:Addr}{fd:FuncData}(M:Mo K mg)(F:yP K "_law_program" "_law_program" mB f fd):yG P w K mg base yH 22 f fd ["_law_script","_law_at","_law_kinds","_law_calm","_law_hands"] (yC K zqp):=by
 obtain⟨_,_,qN,l3,lW⟩:=M._law_box;have mS:= @zci P w K mg base _ _ M qN;obtain⟨_,_,zQ,zX,zY⟩:=M._law_take;have zW:= @vS P w K mg base _ _ M zQ;obtain⟨_,_,zdH,zkg,zmy⟩:=M._law_manner;have zjo:= @znv P w K mg base _ _ M zdH;obtain⟨_,_,zdC,zkb,zmt⟩:=M._law_begin;have zji:= @znp P w K mg base _ _ M zdC;obtain⟨zlq,zlr,jH,l4,lX⟩:=M._law_hand;have zjm:yG P w K mg base yH 21 zlq zlr ["_law_script","_law_at","_law_plan","_law_number_here"] (yC K (fM 8)):=zha M jH l4 lX 8;obtain⟨_,_,zdP,zko,zm6⟩:=M._law_three_words;have zjw:= @zn5 P w K mg base _ _ M zdP;refine xH 0 F tM (λxs st Q h=>by obtain⟨ns,hands,rfl,_⟩:=h;rfl) ⟨_,λcdv A outer s H E hr=>have hr1:zU 1 _:=hr.mono (by decide);have hr3:zU 3 _:=hr.mono (by decide);have hr10:zU 10 _:=hr.mono (by decide);have hr21:zU 21 _:=hr.mono (by decide);(zA (qz 5 tM.nd (qk mS hr1 lW qN l3 (z3 (qv 0) (z3 (qv 1) z4))))
   (zA (tJ (qk zjw hr3 zm6 zdP zko (z3 (qv 5) z4)) (uL (n:=3) rfl (yX (qn 6 tM.nd) (yX (qn 7 tM.nd) (yX (qn 8 tM.nd) u6)))))
   (zhD (nX (i:=9) tM.nd rfl (Or.inr rfl) (u5 z4)) (wO cm rfl (u7 (by rfl) M.range (z3 (zM y9 z7 (qk zW hr1 zY zQ zX (z3 (qv 5) (z3 z7 z4)))) z4)) (qn 10 tM.nd) (zA (qz 11 tM.nd (qk zjo hr10 zmy zdH zkg (z3 (qv 5) (z3 (qv 2) (z3 (qv 3) z4)))))
   (zH (x9 (x8 bm bv bw (by decide) xX (qv 9) (z3 (yJ (z3 (qx hr (qv 6) (qv 10)) (z3 (qv 11) (z3 (qk zji hr3 zmt zdC zkb (z3 (qv 5) (z3 (qv 11) (z3 (qv 8) z4)))) z4)))) z4))))))
   (zA (qz 12 tM.nd (zM y9 z7 (qk zW hr1 zY zQ zX (z3 (qv 5) (z3 (qv 4) z4)))))
   (zA (nY (i0:=13) (own:= ["_law_number_here"]) (uF (fsc:=y4 mB) (N:= ["_law_script","_law_at","_law_kinds","_law_calm","_law_hands","_law_box_here","_law_words_here","_law_names","_law_things","_law_shelves","_law_k","_law_manner_here","_law_many","_law_uses","_law_plan","_law_others_here","_law_turn"]) (N':= ["_law_script","_law_at","_law_kinds","_law_calm","_law_hands","_law_box_here","_law_words_here","_law_names","_law_things","_law_shelves","_law_k","_law_manner_here","_law_many","_law_uses","_law_plan","_law_others_here","_law_turn"]) rfl rfl (by decide+kernel)) tM.nd rfl (Or.inl rfl) rfl (u7 (by rfl) M.range (z3 (qv 12) z4)) (λC s H fp pins=>(qn 17 nd5)) (λC s H fp pins=>sO) (λC s H fp pins=>(yJ (z3 (qv 9) (z3 (qv 9) z4)))))
   (zpq (i:=14) tM.nd rfl (Or.inr rfl) (gI zJ (qv 7) (gI zJ (qv 8) (gI zJ (qv 13) (gI zJ (zph rfl (by rfl) M.list (by rfl) M.range (z3 z7 (z3 (qv 12) z4))) zpn)))) rfl rfl (by simp) (by decide) (zh2 (zhv (zcm zco (zcm zco zhn))) (zhx rfl (zct (zcr (zcq (i:=14) rfl (by first | exact Or.inl rfl | exact Or.inr (Or.inl rfl) | exact Or.inr (Or.inr rfl))) zcp (zhY hr)) (zct (zcr (zcq (i:=14) rfl (by first | exact Or.inl rfl | exact Or.inr (Or.inl rfl) | exact Or.inr (Or.inr rfl))) zcp (zhY hr)) zhy))))
   (zA (x9 (qk zjm hr21 lX jH l4 (z3 (qv 0) (z3 (zM y9 (qv 1) z7) (z3 (qv 14) (z3 z7 z4))))))
   (zA (nY (i0:=15) (own:= ["_law_number_here"]) (uF (fsc:=y4 mB) (N:= ["_law_script","_law_at","_law_kinds","_law_calm","_law_hands","_law_box_here","_law_words_here","_law_names","_law_things","_law_shelves","_law_k","_law_manner_here","_law_many","_law_uses","_law_plan","_law_others_here","_law_turn"]) (N':= ["_law_script","_law_at","_law_kinds","_law_calm","_law_hands","_law_box_here","_law_words_here","_law_names","_law_things","_law_shelves","_law_k","_law_manner_here","_law_many","_law_uses","_law_plan","_law_others_here","_law_turn"]) rfl rfl (by decide+kernel)) tM.nd rfl (Or.inl rfl) rfl (zpm (by rfl) M.range (z3 z7 (z3 (qv 12) z4))) (λC s H fp pins=>(qn 17 nd5)) (λC s H fp pins=>kB (pE (rJ hr) (qv 17) (wN (uJ hr) (qv 14) zJ (λ_ _=>rfl)) (by rfl))) (λC s H fp pins=>(qx hr (wN (uJ hr) (qv 14) zJ (λ_ _=>rfl)) (qv 17))))
   (zA (qz 16 tM.nd (qk zW hr1 zY zQ zX (z3 (qv 5) (z3 (zM y9 (yB yM (by rfl) M.len bu (z3 (qv 15) z4)) z7) z4))))
   (zH (y3 (yJ (z3 (vK (p9 rfl) (by rfl) M.tuple rX (z3 (qv 9) z4)) (z3 (zM y9 (yJ (z3 (qx hr (wN (uJ hr) (qv 14) zJ (λ_ _=>rfl)) z7) z4)) (vK (p9 rfl) (by rfl) M.tuple rX (z3 (zM y9 (wB (qv 15) (xY (qv 16)) wC) (wB (qv 15) wC (xY (qv 16)))) z4))) z4)))))))))))))),λxs st Q h=> ?_⟩
 obtain⟨ns,hands,rfl,rfl,hl,h1,h8,q⟩:=h;symm
 ac_nf
 refine⟨ns,1,rfl,hl,by decide,λa b hb=> ?_⟩
 ac_nf
 symm
 ac_nf
 refine⟨0,a,b,rfl,rfl,hb,λus nms ts a b hul hun hnl hnn hte htl htn hb=> ?_⟩
 ac_nf
 symm;unfold zdy;symm
 ac_nf
 refine⟨0,6,a,b,rfl,rfl,hb,by decide,by decide,λn a b n0 n1 hb=> ?_⟩
 ac_nf
 refine⟨⟨by omega,by omega⟩,wL (λk env s=> ∃(sh:List Sh) (v w:Option PV) (a b:Int),env= [some (.lst (ns.map PV.int)),some (.int 1),some lU,some (.bl false),some (.int hands),some (.obj 0),some (.lst (us.map PV.str)),some (.lst (nms.map PV.str)),some (.lst (ts.map PV.str)),some (.obj 1),v,w,none,none,none,none,none]/\sh.length=k/\(∀s∈sh,i6 s)/\sh.map (·.1)=us.take k/\zZ a b/\s= [z9 a b,.lst (sh.map y6)])
  ⟨[],none,none,a,b,rfl,rfl,by simp,rfl,hb,rfl⟩ ?_ ?_⟩
 ·rintro k x env s hx ⟨sh,v,w,a,b,rfl,hk,hsh,hnm,hb,rfl⟩
  obtain⟨hk2,rfl⟩:=u8 hx;have hku:k < us.length:=by omega
  have eu:atI (us.map PV.str) (0+(k:Int))=some (.str us[k]):=by rw[gt];exact xJ (by rw[aw,am hku];rfl)
  ac_nf
  symm
  ac_nf
  refine⟨0,a,b,rfl,rfl,hb,λkd r a b hmn hb=> ?_⟩;simp? only[eu];refine⟨0,kd,r,ts,a,b,rfl,rfl,hb,hmn,hte,by omega,htn,λh a b hh hb=> ?_⟩;simp? only[zgl,aa];refine⟨bc (m:=1000) (by omega) (by decide),sh++ [(us[k],.tup (.str kd::r),h.pv)],_,_,a,b,rfl,by simp[hk],λs hs=> ?_,?_,hb,by simp[y6]⟩
  ·rcases av.mp hs with hs | hs
   ·exact hsh s hs
   ·rw[aq.mp hs];exact⟨kd,r,h,rfl,hmn,rfl,hh⟩
  ·rw[sT (am hku),ao,hnm];rfl
 rintro env s ⟨sh,v,w,a,b,rfl,hk,hsh,hnm,hb,rfl⟩;rw[tL]at hk;have hshn:(sh.map (·.1)).Nodup:=by rw[hnm];exact hun.sublist (jy _ _)
 have hsl:1<=sh.length/\sh.length<=6:=by omega
 refine⟨[z9 a b],sh.map y6,rfl,by simp,?_⟩;change u9 _ _ _ [some (.lst (ns.map PV.int)),some (.int 1),some lU,some (.bl false),some (.int hands),some (.obj 0),some (.lst (us.map PV.str)),some (.lst (nms.map PV.str)),some (.lst (ts.map PV.str)),some (.lst (sh.map y6)),tX 1 (.lst (sh.map y6)) v,tX 1 (.lst (sh.map y6)) w,none,none,none,none,none] [z9 a b];generalize tX 1 (.lst (sh.map y6)) v=v;generalize tX 1 (.lst (sh.map y6)) w=w;symm
 ac_nf
 refine⟨0,hands,a,b,rfl,rfl,hb,by omega,by omega,λm a b m0 m1 hb=> ?_⟩;obtain⟨m,rfl⟩: ∃n:Nat,m=n:=⟨m.toNat,by omega⟩
 ac_nf
 symm
 ac_nf
 refine⟨⟨by omega,by omega⟩,?_⟩;refine r6 (λ_=>some (.tup [.lst (sh.map y6),.lst (sh.map y6)])) (λj x e hx he=> ?_) ?_
 ·obtain⟨y,rfl⟩:=sI he
  ac_nf
  exact CP.yes (e':= [_]) hx rfl rfl
 have huse:(wD 0 (1+(m:Int)).toNat).filterMap (λ_=>some (PV.tup [.lst (sh.map y6),.lst (sh.map y6)]))=List.replicate (m+1) (PV.tup [.lst (sh.map y6),.lst (sh.map y6)]):=by
  rw[show(1+(m:Int)).toNat=m+1 by omega];unfold wD;generalize m+1=q;rw[lj]
  induction q with
  | zero=>rfl
  | succ q ih=>rw[gv,ja,ih,vg];rfl
 simp? only[huse];symm;simp? only[zd3,fZ];have esp:(List.range (1+(m:Int) - 1).toNat).map (λ(i:Nat)=>PV.int (1+(i:Int)))=(vD m).map zE:=by
  rw[show(1+(m:Int) - 1).toNat=m by omega];unfold vD zE;rw[cy];refine im λi _=> ?_;show PV.int (1+(i:Int))=PV.int (((i+1:Nat)):Int)
  congr 1;omega
 rw[esp];obtain⟨U,eU⟩: ∃U,List.replicate (m+1) (PV.tup [.lst (sh.map y6),.lst (sh.map y6)])=U:=⟨_,rfl⟩;rw[vn]at eU;rw[eU];refine⟨⟨by omega,by omega⟩,[(.inr "names",.lst (nms.map PV.str)),(.inr "things",.lst (ts.map PV.str)),(.inr "uses",.lst U),(.inr "spare",.obj 2)],[.lst ((vD m).map zE)],rfl,by simp,rfl,?_,?_,?_,?_⟩
 ·intro x hx kvs ys;constructor <;> (intro z;subst z;simp at hx)
 ·intro q hq z;simp at hq;rcases hq with rfl | rfl | rfl | rfl <;> cases z
 ·show([.inr "names",.inr "things",.inr "uses",.inr "spare",.inr "ends",.inr "rows"]:List z8).Nodup
  decide+kernel
 obtain⟨kv,ekv⟩: ∃kv,nW 1 "ends" "rows" [(.inr "names",.lst (nms.map PV.str)),(.inr "things",.lst (ts.map PV.str)),(.inr "uses",.lst U),(.inr "spare",.obj 2)] 2=kv:=⟨_,rfl⟩;have ekv':kv= [(.inr "names",.lst (nms.map PV.str)),(.inr "things",.lst (ts.map PV.str)),(.inr "uses",.lst U),(.inr "spare",.obj 1),(.inr "ends",.obj 2),(.inr "rows",.obj 3)]:=ekv.symm;have KV:zea kv nms ts sh (m+1):=by
  rw[ekv'];refine⟨?_,?_,?_,?_,?_,?_⟩
  ·exact oT
  ·rw[uB (by decide+kernel)];exact oT
  ·rw[uB (by decide+kernel),uB (by decide+kernel),vn,eU];exact oT
  ·rw[uB (by decide+kernel),uB (by decide+kernel),uB (by decide+kernel)];exact oT
  ·rw[uB (by decide+kernel),uB (by decide+kernel),uB (by decide+kernel),uB (by decide+kernel)];exact oT
  ·rw[uB (by decide+kernel),uB (by decide+kernel),uB (by decide+kernel),uB (by decide+kernel),uB (by decide+kernel)];exact oT
 show u9 _ _ _ _ [z9 a b,.lst ((vD m).map zE),.dct [],.dct [],.rcd (nW 1 "ends" "rows" _ 2)];rw[ekv];have eG: [z9 a b,.lst ((vD m).map zE),.dct [],.dct [],.rcd kv]=G (z9 a b) kv (zC nms) (vD m) [] [] []:=rfl;rw[eG];symm
 ac_nf
 refine⟨ns,_,0,z9 a b,kv,nms,ts,sh,m+1,vD m,[],[],[],rfl,rfl,⟨hl,by decide,by rw[mF];omega,KV,hnn,by omega,hnl,by omega,hsh,λz=>by rw[z]at hsl;simp at hsl,by omega,hte,by omega,zid m,λx hx=>by have:=mG.mp hx;omega,λz=>by have:=mG.mp z;omega,by simp,by simp,by simp,by rw[mF];simp;omega,by rw[mF];simp;omega⟩,by rw[mF];omega,λsp' ks X E1 rs hd I hz hrl=> ?_⟩;obtain rfl:=hz rfl;obtain⟨Y,eY⟩: ∃Y,X++ [((0:Nat),rs)]=Y:=⟨_,rfl⟩;rw[lq,lq,eY];have kr:=KV.rows
 ac_nf
 symm
 ac_nf
 refine⟨⟨by omega,by omega⟩,?_⟩;refine r6 (λx=>match x with | .int k=>zO (vU (zC nms) Y) (.inl k) | _=>none) (λj x e hx he=> ?_) ?_
 ·obtain⟨hj,rfl⟩:=u8 hx
  obtain⟨y,rfl⟩:=sI he;have hin: ∀{Q:K3},wP false (.int (1+(j:Int))) (.obj 3) (G (z9 a b) kv (zC nms) sp' E1 Y []) Q=Q (.bl (zO (vU (zC nms) Y) (.inl (1+(j:Int)))).isSome) (G (z9 a b) kv (zC nms) sp' E1 Y []):=λ{Q} =>by
   unfold wP sQ q5;dsimp only;rw[vE]
   rfl
  simp? only[wV,kr,vE,v0,hin];have ej:(1+(j:Int))=((1+j:Nat):Int):=by omega
  have hval:zO (vU (zC nms) Y) (.inl (1+(j:Int)))=(wQ (zC nms) Y (1+j)).map xR:=by rw[ej,hU]
  cases hlk:wQ (zC nms) Y (1+j)with
  | none=>
   rw[hlk]at hval;rw[hval]
   ac_nf
   exact CP.no (e':= [_]) hx hval rfl
  | some h=>
   rw[hlk]at hval;rw[hval];show if true=true then _ else _
   rw[if_pos rfl];exact⟨rfl,CP.yes (e':= [_]) hx hval rfl⟩
 have eoth:(wD 1 (1+(m:Int) - 1).toNat).filterMap (λx=>match x with | .int k=>zO (vU (zC nms) Y) (.inl k) | _=>none)=((vD m).filterMap (wQ (zC nms) Y)).map xR:=by
  rw[show(1+(m:Int) - 1).toNat=m by omega];unfold wD vD;rw[lj,lj,List.map_filterMap];refine iS λi _=> ?_;show zO (vU (zC nms) Y) (.inl (1+(i:Int)))=(wQ (zC nms) Y (i+1)).map xR;rw[show(1+(i:Int))=((i+1:Nat):Int) by omega,hU]
 rw[eoth];obtain⟨oth,eo⟩: ∃oth,(vD m).filterMap (wQ (zC nms) Y)=oth:=⟨_,rfl⟩;rw[eo];have ks0: ∀k∈X.map (·.1),k∈vD m:=λk hk=>I.sub k (az _ (by rw[<- I.xk];exact hk));have eo2:oth=(vD m).filterMap (wQ (zC nms) X):=by
  rw[<- eo,<- eY];exact iS λk hk=>zms (by have:=mG.mp hk;omega)
 have hperm:oth.Perm (X.map (rQ (zC nms))):=by
  rw[eo2];exact zg_ (by rw[I.xk];exact(bp.mp I.nd).1) (zid m) ks0
 have hXl:X.length<=7:=by
  have:=I.len;rw[mF]at this;have h2:X.length=ks.length:=by rw[<- I.xk,aa]
  omega
 have hol:oth.length<=7:=by rw[hperm.length_eq,aa];exact hXl
 have h0v:zO (vU (zC nms) Y) (.inl 0)=some (xR (zC nms 0,rs)):=by
  rw[show(0:Int)=((0:Nat):Int)from rfl,hU,<- eY];unfold wQ;rw[wx];have hno:(X.find? λp=>p.1==0)=none:=by
   rw[nc];intro p hp hz;have:=mG.mp (ks0 p.1 (br hp));have:p.1=0:=by simpa using hz
   omega
  rw[hno];rfl
 symm;simp? only[aa];refine⟨0,_,a,b,rfl,rfl,hb,by omega,by omega,λt a b t0 t1 hb=> ?_⟩;obtain⟨t,rfl⟩: ∃n:Nat,t=n:=⟨t.toNat,by omega⟩;have eG2: ∀{a' b':Int} {z:List Ee},(G (z9 a' b') kv (zC nms) sp' z Y []).set 0 (z9 a b)=G (z9 a b) kv (zC nms) sp' z Y []:=λ{a' b' z} =>rfl;rw[eG2];simp? only[wV,kr,vE,v0,h0v];rw[lE,o0,<- nz,<- lh,<- ao];have hp2:(oth.drop t++oth.take t).Perm oth:=fq.trans (by rw[gx]);have hrot:(oth.drop t++oth.take t).length<=7:=by rw[hp2.length_eq];exact hol
 refine⟨rfl,by rw[aa,aa,fj,cf,cp];omega,by rw[aa,cp];omega,?_⟩;have hsh2:sh.map y6=(sh.map shN).map wS:=by rw[cy];rfl
 rw[hsh2];have hh7:=mF m;refine q (sh.map shN) (zC nms 0,rs) (oth.drop t++oth.take t) (zo4 (X:=X) hnn (sp:=vD m) (λx hx=>by have:=mG.mp hx;omega) (by omega) (by omega) I.toLI hrl (by rw[cy];exact hshn) (by rw[aa];omega) (λs hs=> ?_) (λs hs=>by obtain⟨s0,hs0,rfl⟩:=ca.mp hs;exact⟨_,_,rfl⟩) ?_) (zo6 (X:=X) hnn (sp:=vD m) (λx hx=>by have:=mG.mp hx;omega) (by omega) (by omega) I (hp2.trans hperm))
 ·obtain⟨s0,hs0,rfl⟩:=ca.mp hs
  exact zpU (hsh s0 hs0)
 ·rw[ao]
  refine(List.Perm.cons _ (hp2.trans hperm)).trans ?_;exact(jv _ _).symm
theorem nd6:(["_law_program_here","_law_found","_law_kh","_law_rows","_law_cuts","_law_first","_law_last","_law_n"]:List Str).Nodup:=by decide+kernel
theorem zn3 {f:Addr}{fd:FuncData}(M:Mo K mg)(F:yP K "_law_stretches" "_law_stretches" kO f fd):yG P w K mg base yH 1 f fd ["_law_program_here"] (yC K zqi):=by
 refine xH 0 F oQ (λxs st Q h=>by obtain⟨sh,hs,rfl,_⟩:=h;rfl) ⟨_,λcdv A outer s H E hr=>(zA (qz 1 oQ.nd (u5 z4))
   (zA (wO cm rfl (uU (qx hr (qv 0) z7)) (uL (n:=2) rfl (yX (qn 2 oQ.nd) (yX (pD (i:=3) oQ.nd rfl (Or.inr rfl)) u6))) (zA (nY (i0:=4) (own:= ["_law_n"]) (uF (fsc:=y4 kO) (N:= ["_law_program_here","_law_found","_law_kh","_law_rows","_law_cuts","_law_first","_law_last"]) (N':= ["_law_program_here","_law_found","_law_kh","_law_rows","_law_cuts","_law_first","_law_last"]) rfl rfl (by decide+kernel)) oQ.nd rfl (Or.inl rfl) rfl (u7 (by rfl) M.range (z3 (yB yM (by rfl) M.len bu (z3 (qv 3) z4)) z4)) (λC s H fp pins=>(qn 7 nd6)) (λC s H fp pins=>kB (pE (rJ hr) (qx hr (qx hr (qv 3) (qv 7)) z7) (yJ (z3 zJ (z3 zJ z4))) (by rfl))) (λC s H fp pins=>(qv 7)))
   (zH (wO cm rfl (zhA (by rfl) M.zip (z3 (zM y9 (u3 (z3 (pC p8 z7) z4)) (qv 4)) (z3 (zM y9 (qv 4) (u3 (z3 (yB yM (by rfl) M.len bu (z3 (qv 3) z4)) z4))) z4))) (uL (n:=2) rfl (yX (qn 5 oQ.nd) (yX (qn 6 oQ.nd) u6))) (zH (x9 (x8 bm bv bw (by decide) xX (qv 1) (z3 (yJ (z3 (qv 2) (z3 (zM y9 (qv 5) z7) (z3 (qv 6) z4)))) z4))))))))
   (zH (y3 (qv 1))))),λxs st Q h=> ?_⟩
 obtain⟨sh,hs,rfl,hl,rl,q⟩:=h;unfold vT;have big:(1000:Nat) < sizeLine:=by rw[cp];decide
 symm
 ac_nf
 symm
 ac_nf
 refine wL (λk env s=> ∃v2 v3 v4 v5 v6,env= [some (.tup [.tup (sh.map wS),.tup (hs.map xR)]),some (.obj st.length),v2,v3,v4,v5,v6]/\s=st++ [.lst (yK (hs.take k))]) ⟨none,none,none,none,none,rfl,by simp[yK,SS]⟩ ?_ ?_
 ·rintro k x env s hx ⟨v2,v3,v4,v5,v6,rfl,rfl⟩
  obtain⟨h,hh,rfl⟩:=vX hx;have hm:h∈hs:=ap.mpr ⟨k,hh⟩;have hrl:=rl h hm;have hsl:=dQ (hs:=hs.take k) λh hh=>rl h (mf hh);have htk:(hs.take k).length<=8:=by rw[cf];omega
  have hbl:(yK (hs.take k)).length<=248:=by unfold yK;rw[aa];omega
  have hsn:=sT hh;have hfl:=zih hrl;unfold xR wS lP
  ac_nf
  symm;simp? only[aa];refine⟨by omega,r6 (lB h.2) (λj y e hy he=> ?_) ?_⟩
  ·obtain⟨hj,rfl⟩:=u8 hy
   obtain⟨y1,rfl⟩:=sI he;have hj':j < h.2.length:=by simpa using hj
   obtain⟨r,hr⟩: ∃r,h.2[j]?=some r:=⟨_,am hj'⟩;obtain⟨k1,more,er,hk1⟩:=kJ r;have hat:atI (h.2.map Rh.pv) (0+(j:Int))=some (.tup (.str k1::more)):=by rw[gt];exact xJ (by rw[aw,hr,<- er];rfl)
   have hin: ∀{Q:K3} {st:z5},wP false (.str k1) (.tup [.str "split",.str "join"]) st Q=Q (.bl r.cut) st:=λ{Q st} =>by rw[<- hk1];exact propext ⟨λz=>z.2,λz=>⟨⟨rfl,rfl⟩,z⟩⟩
   have hf:lB h.2 (.int (0+(j:Int)))=if r.cut then some (.int (0+(j:Int)))else none:=by
    unfold lB;dsimp only;rw[show(0+(j:Int)).toNat=j by omega,hr]
   simp? only[hat,hin];cases hc:r.cut with
   | true=>
    rw[hc]at hf
    ac_nf
    exact CP.yes (e':= [_]) hy hf rfl
   | false=>
    rw[hc]at hf
    ac_nf
    exact CP.no (e':= [_]) hy hf rfl
  have hcl:(y7 0 h.2).length<=30:=by rw[t8];have:=jq Rh.cut h.2;unfold zL;omega
  rw[zeD (ak _),cc (ak _)];have hza:=ziZ (n:=h.2.length) (cs:=y7 0 h.2) (a:=0);refine⟨by rw[aa];omega,by rw[aa];omega,_,_,rfl,.inl ⟨_,rfl,?_⟩⟩;dsimp only;rw[show PV.int (-1)::(y7 0 h.2).map zE=PV.int (((0:Nat):Int) - 1)::(y7 0 h.2).map zE from rfl,show [PV.int ((h.2.length:Nat):Int)]= [zE h.2.length]from rfl,hza];refine wL (λi env s=> ∃v5 v6,env= [some (.tup [.tup (sh.map wS),.tup (hs.map xR)]),some (.obj st.length),some (.str h.1),some (.tup (h.2.map Rh.pv)),some (.lst ((y7 0 h.2).map zE)),v5,v6]/\s=st++ [.lst (yK (hs.take k)++((wU h).take i).map wI)]) ⟨_,_,rfl,by simp⟩ ?_ ?_
  ·rintro i x env s hx ⟨v5,v6,rfl,rfl⟩
   obtain⟨p,hp,rfl⟩:=vX hx;have hst:(wU h)[i]?=some (h.1,p.1,p.2):=by unfold wU;rw[aw,hp];rfl
   have htl:((wU h).take i).length<=31:=by rw[cf];omega
   simp? only[zE,af,aa];refine⟨by omega,_,_,rfl,?_⟩;rw[sT hst,ao,au,show(p.1:Int) - 1+1=(p.1:Int) by omega];rfl
  ·rintro env s ⟨v5,v6,rfl,rfl⟩
   rw[show(((wG 0 (y7 0 h.2)).zip (y7 0 h.2++ [h.2.length])).map λp=>PV.tup [.int ((p.1:Int) - 1),zE p.2]).length=(wU h).length by unfold wU;rw[aa,aa],cc (ak _)]
   ac_nf
   refine⟨_,_,_,_,_,rfl,?_⟩;unfold yK;rw[hsn,zei,ao]
 ·rintro env s ⟨v2,v3,v4,v5,v6,rfl,rfl⟩
  rw[aa,cc (ak _)]
  ac_nf
  exact q
theorem nd7:(["_law_program_here","_law_some","?2","_law_found","_law_kh","_law_rows","_law_n","_law_own","_law_one"]:List Str).Nodup:=by decide+kernel
theorem nd8:(["_law_program_here","_law_some","_law_one","_law_found","_law_kh","_law_rows","_law_n","_law_own","_law_k"]:List Str).Nodup:=by decide+kernel
theorem znw {f:Addr}{fd:FuncData}(M:Mo K mg)(F:yP K "_law_onward" "_law_onward" oM f fd):yG P w K mg base yH 1 f fd ["_law_program_here","_law_some"] (yC K zqn):=by
 refine xH 0 F oP (λxs st Q h=>by obtain⟨sh,hs,rfl,_⟩:=h;rfl) ⟨_,λcdv A outer s H E hr=>(zhE (zhC (i0:=3) (own:= ["_law_one"]) (uF (fsc:=y4 oM) (N:= ["_law_program_here","_law_some","_law_one","_law_found","_law_kh","_law_rows","_law_n","_law_own"]) (N':= ["_law_program_here","_law_some","?2","_law_found","_law_kh","_law_rows","_law_n","_law_own"]) rfl rfl (by decide+kernel)) oP.nd rfl (Or.inl rfl) rfl (uU (qv 1)) (λC s H fp pins=>(qn 8 nd7)) (λC s H fp pins=>sO) (λC s H fp pins=>(u5 z4))) (wO cm rfl (uU (qx hr (qv 0) z7)) (uL (n:=2) rfl (yX (pD (i:=4) oP.nd rfl (Or.inr rfl)) (yX (pD (i:=5) oP.nd rfl (Or.inr rfl)) u6))) (zH (wO cm rfl (u7 (by rfl) M.range (z3 (yB yM (by rfl) M.len bu (z3 (qv 5) z4)) z4)) (pD (i:=6) oP.nd rfl (Or.inr rfl)) (zA (nY (i0:=2) (own:= ["_law_k"]) (uF (fsc:=y4 oM) (N:= ["_law_program_here","_law_some","_law_one","_law_found","_law_kh","_law_rows","_law_n","_law_own"]) (N':= ["_law_program_here","_law_some","_law_one","_law_found","_law_kh","_law_rows","_law_n","_law_own"]) rfl rfl (by decide+kernel)) oP.nd rfl (Or.inl rfl) rfl (u7 (by rfl) M.range (z3 (yB yM (by rfl) M.len bu (z3 (qv 1) z4)) z4)) (λC s H fp pins=>(qn 8 nd8)) (λC s H fp pins=>kB (PW.pt (rN (qc (xG hr) (qx hr (qx hr (qv 1) (qv 8)) z7) (qv 4)) (rO (qc (xG hr) (qx hr (qx hr (qv 1) (qv 8)) z7) (qv 6)))))) (λC s H fp pins=>(qv 8)))
   (zH (yF (PW.pt (rN (pE (rJ hr) (qx hr (qx hr (qv 5) (qv 6)) z7) (yJ (z3 zJ (z3 zJ z4))) (by rfl)) (rO (qc vY (yB yM (by rfl) M.len bu (z3 (qv 2) z4)) z7)))) (zA (x9 (x8 bm bv bw (by decide) xX (wN (nS hr) (qv 3) (qx hr (qv 2) (pC p8 z7)) (λ_ _=>rfl)) (z3 (zM y9 (qx hr (qv 2) (pC p8 z7)) z7) z4)))
   (zA (nY (i0:=7) (own:= ["_law_k"]) (uF (fsc:=y4 oM) (N:= ["_law_program_here","_law_some","_law_one","_law_found","_law_kh","_law_rows","_law_n","_law_own"]) (N':= ["_law_program_here","_law_some","_law_one","_law_found","_law_kh","_law_rows","_law_n","_law_own"]) rfl rfl (by decide+kernel)) oP.nd rfl (Or.inl rfl) rfl (u7 (by rfl) M.range (z3 (yB yM (by rfl) M.len bu (z3 (qv 1) z4)) z4)) (λC s H fp pins=>(qn 8 nd8)) (λC s H fp pins=>kB (qc (xG hr) (qx hr (qx hr (qv 1) (qv 8)) z7) (qx hr (qx hr (qv 5) (qv 6)) z7))) (λC s H fp pins=>(qv 8)))
   (zH (yF (qc (xG hr) (qx hr (qx hr (qv 5) (qv 6)) z7) zJ) (zH (x9 (x8 bm bv bw (by decide) xX (wN (nS hr) (qv 3) (qx hr (qv 2) (pC p8 z7)) (λ_ _=>rfl)) (z3 (qx hr (qv 7) z7) z4)))) (zH (x9 (x8 bm bv bw (by decide) xX (wN (nS hr) (qv 3) (qx hr (qv 7) (pC p8 z7)) (λ_ _=>rfl)) (z3 (zM y9 (qx hr (qv 2) (pC p8 z7)) z7) z4)))))))) yN))))))
   (zH (y3 (qv 3)))),λxs st Q h=> ?_⟩
 obtain⟨sh,hs,rfl,S,q⟩:=h;have hn:=S.hn;have rl:=S.rl;have hl:=S.hl;have hsz:=S.g.sz;have big:(1000:Nat) < sizeLine:=by rw[cp];decide
 obtain⟨N,eN⟩: ∃N,NN (zD hs)=N:=⟨_,rfl⟩;obtain⟨cs,ecs⟩: ∃cs,zD hs=cs:=⟨_,rfl⟩;have hsl:(yK hs).length=N:=by unfold yK;rw[aa,uO,eN]
 unfold vT;symm;unfold zdz;symm;simp? only[zi8];refine zeC (λm=>trivial) ?_;have e0:st++List.replicate (yK hs).length (PO.lst [])++ [PO.ros (xZ st.length (yK hs).length)]=sL st (yQ N (eU cs 0)):=by
  show _=sL st (yQ N []);unfold sL;rw[zel,hsl,wm,dq,au]
 have e1:(st++List.replicate (yK hs).length (PO.lst [])).length=st.length+N:=by rw[af,dq,hsl]
 rw[e0,e1];refine wL (λk env s=> ∃v2 v4 v5 v6 v7,env= [some (.tup [.tup (sh.map wS),.tup (hs.map xR)]),some (.lst (yK hs)),v2,some (.obj (st.length+N)),v4,v5,v6,v7]/\s=sL st (yQ N (eU cs (NN (zD (hs.take k)))))) ⟨_,_,_,_,_,rfl,rfl⟩ ?_ ?_
 ·rintro k x env s hx ⟨v2,v4,v5,v6,v7,rfl,rfl⟩
  obtain⟨h,hh,rfl⟩:=vX hx;have hm:h∈hs:=ap.mpr ⟨k,hh⟩;have hrl:=rl h hm;have hb:=ze0 hn hh;rw[ecs]at hb;rw[<- hb];have hmc:h.1∈cs.map (·.1):=by rw[<- ecs,wZ];exact br hm
  have hlt:=t5 hmc;have hlk:wA cs h.1=zL h.2:=by rw[<- ecs];exact vW hn hm
  rw[hlk,<- ecs,eN,ecs]at hlt;unfold xR wS lP;simp? only[aa];refine⟨by omega,wL (λn env s=> ∃v2 v6 v7,env= [some (.tup [.tup (sh.map wS),.tup (hs.map xR)]),some (.lst (yK hs)),v2,some (.obj (st.length+N)),some (.str h.1),some (.tup (h.2.map Rh.pv)),v6,v7]/\s=sL st (yQ N (eU cs (zN cs h.1+(zL (h.2.take n)).length)))) ⟨_,_,_,rfl,by simp[zL]⟩ ?_ ?_⟩
  ·rintro n x env s hx ⟨v2,v6,v7,rfl,rfl⟩
   obtain⟨hj,rfl⟩:=u8 hx;have hj':n < h.2.length:=by simpa using hj
   obtain⟨r,hr⟩: ∃r,h.2[n]?=some r:=⟨_,am hj'⟩;obtain⟨k1,more,er,hk1⟩:=kJ r;have hsn:zL (h.2.take (n+1))=zL (h.2.take n)++(if r.cut then [r]else []):=by rw[sT hr,zkM]
   have hat:atI (h.2.map Rh.pv) (0+(n:Int))=some (.tup (.str k1::more)):=by rw[gt];exact xJ (by rw[aw,hr,<- er];rfl)
   have hin: ∀{Q:K3} {st:z5},wP false (.str k1) (.tup [.str "split",.str "join"]) st Q=Q (.bl r.cut) st:=λ{Q st} =>by rw[<- hk1];exact propext ⟨λz=>z.2,λz=>⟨⟨rfl,rfl⟩,z⟩⟩
   ac_nf
   symm;simp? only[hsl];refine⟨by omega,r6 (gE hs h.1 n) (λj y e hy he=> ?_) ?_⟩
   ·obtain⟨hj,rfl⟩:=u8 hy
    obtain⟨y1,rfl⟩:=sI he;have hjN:j < N:=by simpa using hj
    obtain⟨s,hs'⟩: ∃s,(SS hs)[j]?=some s:=⟨_,am (by rw[uO,eN];exact hjN)⟩;have hat:atI (yK hs) (0+(j:Int))=some (wI s):=by rw[gt];exact xJ (by unfold yK;rw[aw,hs'];rfl)
    have hf:gE hs h.1 n (.int (0+(j:Int)))=if(s.1==h.1&&s.2.2==n)then some (.int (0+(j:Int)))else none:=by
     unfold gE;dsimp only;rw[show(0+(j:Int)).toNat=j by omega,hs']
    unfold wI at hat;simp? only[hat,zmI];cases h1:(s.1==h.1)with
    | false=>
     rw[h1,xv]at hf
     ac_nf
     exact CP.no (e':= [_]) hy hf rfl
    | true=>
     rw[h1,Bool.true_and]at hf
     ac_nf
     cases h2:(s.2.2==n)with
     | true=>
      rw[h2]at hf
      ac_nf
      exact CP.yes (e':= [_]) hy hf rfl
     | false=>
      rw[h2]at hf
      ac_nf
      exact CP.no (e':= [_]) hy hf rfl
   simp? only[hat,hin];cases hc:r.cut with
   | false=>
    rw[hc,if_neg (by decide),db]at hsn
    ac_nf
    exact⟨_,_,_,rfl,by rw[hsn]⟩
   | true=>
    rw[hc,if_pos rfl]at hsn;obtain⟨hc1,hc2⟩:=zkN hr hc;have hone:=znE hn hm hc1;rw[ecs,<- ecs,eN,ecs]at hone;rw[hone];have hsn2:(zL (h.2.take (n+1))).length=(zL (h.2.take n)).length+1:=by rw[hsn,af];rfl
    rw[hsn2,<- qa];have hjl:=(ad.mp hc2).1;have hek:eK cs (zN cs h.1+(zL (h.2.take n)).length)=tW cs (zN cs h.1+(zL (h.2.take n)).length) r:=by
     rw[lI hmc (by rw[hlk];omega)];unfold eJ;rw[hlk,hc2]
    obtain⟨x,ex⟩: ∃x,zN cs h.1+(zL (h.2.take n)).length=x:=⟨_,rfl⟩;have hxN:x < N:=by omega
    have hEl:=b9 (cs:=cs) (k:=x);rw[ex]at hek⊢
    rw[lJ,hek];have one_m1:atI [PV.int (x:Int)] (-1)=some (.int (x:Int)):=zep (xs:= []);have hx1:((x:Nat):Int)+1=((x+1:Nat):Int):=rfl;have xr:atI (xZ st.length N) (x:Int)=some (.obj (st.length+x)):=m6 hxN;have xa: ∀{E:List (Nat×Nat)},(sL st (yQ N E))[st.length+x]?=some (.lst ((w4 E x).map zE)):=m7 (pX hxN);have hro: ∀{E:List (Nat×Nat)},(sL st (yQ N E))[st.length+N]?=some (.ros (xZ st.length N)):=zhS n9;have hal:=nA (E:=eU cs x) (i:=x);have h1:decide (0 < ((([zE x]:List PV).length:Nat):Int))=true:=rfl
    ac_nf
    cases r with
    | pl r=>cases hc
    | split y=>
     cases er;obtain⟨hy,hym,rfl⟩: ∃hy∈hs,hy.1=y:=by
      have:=S.g.cl (h.1,zL h.2) (br hm) _ (ap.mpr ⟨_,hc2⟩) y (.inl rfl);rw[wZ]at this;exact ca.mp this
     have hyc:hy.1∈cs.map (·.1):=by rw[<- ecs,wZ];exact br hym
     have hyk:wA cs hy.1=zL hy.2:=by rw[<- ecs];exact vW hn hym
     have hyl:=t5 hyc;rw[hyk,<- ecs,eN,ecs]at hyl;obtain⟨z,ez⟩: ∃z,zN cs hy.1+(zL hy.2).length=z:=⟨_,rfl⟩;rw[ez]at hyl;have own1:atI (((List.range ((zL hy.2).length+1)).map (zN cs hy.1+ ·)).map zE) (-1)=some (.int (z:Int)):=by subst ez;exact zhl
     have yr:atI (xZ st.length N) (z:Int)=some (.obj (st.length+z)):=m6 hyl;have ya: ∀{E:List (Nat×Nat)},(sL st (yQ N E))[st.length+z]?=some (.lst ((w4 E z).map zE)):=m7 (pX hyl);have hal2: ∀{i:Nat},(w4 (eU cs x++ [(x,x+1)]) i).length<=100:=λ{i} =>by have:=nA (E:=eU cs x++ [(x,x+1)]) (i:=i);rw[af,bi]at this;omega
     have how:=zhm hn hym;rw[ecs]at how;symm;simp? only[zE,one_m1,hro,xr,xa,aa];refine⟨by omega,?_⟩;rw[hx1,oK hxN];symm;simp? only[hsl,hat];refine⟨by omega,r6 (oB hs hy.1) (λj y e hj2 he=> ?_) ?_⟩
     ·obtain⟨hj,rfl⟩:=u8 hj2
      obtain⟨y1,rfl⟩:=sI he;have hjN:j < N:=by simpa using hj
      obtain⟨s,hs'⟩: ∃s,(SS hs)[j]?=some s:=⟨_,am (by rw[uO,eN];exact hjN)⟩;have hat2:atI (yK hs) (0+(j:Int))=some (wI s):=by rw[gt];exact xJ (by unfold yK;rw[aw,hs'];rfl)
      have hf:oB hs hy.1 (.int (0+(j:Int)))=if s.1==hy.1 then some (.int (0+(j:Int)))else none:=by
       unfold oB;dsimp only;rw[show(0+(j:Int)).toNat=j by omega,hs']
      unfold wI at hat2;simp? only[hat2,hat];cases h1:(s.1==hy.1)with
      | true=>
       rw[h1]at hf
       ac_nf
       exact CP.yes (e':= [_]) hj2 hf rfl
      | false=>
       rw[h1]at hf
       ac_nf
       exact CP.no (e':= [_]) hj2 hf rfl
     rw[<- ecs,eN,ecs]at how;rw[how];simp? only[hat];simp? only[zE,one_m1,zhk,own1,hro,xr,xa,aa];refine⟨by have:=hal2 (i:=x);omega,_,_,_,rfl,?_⟩;rw[oK hxN,au]
     rfl
    | join y=>
     cases er;obtain⟨hy,hym,rfl⟩: ∃hy∈hs,hy.1=y:=by
      have:=S.g.cl (h.1,zL h.2) (br hm) _ (ap.mpr ⟨_,hc2⟩) y (.inr rfl);rw[wZ]at this;exact ca.mp this
     have hyc:hy.1∈cs.map (·.1):=by rw[<- ecs,wZ];exact br hym
     have hyk:wA cs hy.1=zL hy.2:=by rw[<- ecs];exact vW hn hym
     have hyl:=t5 hyc;rw[hyk,<- ecs,eN,ecs]at hyl;obtain⟨z,ez⟩: ∃z,zN cs hy.1+(zL hy.2).length=z:=⟨_,rfl⟩;rw[ez]at hyl;have own1:atI (((List.range ((zL hy.2).length+1)).map (zN cs hy.1+ ·)).map zE) (-1)=some (.int (z:Int)):=by subst ez;exact zhl
     have yr:atI (xZ st.length N) (z:Int)=some (.obj (st.length+z)):=m6 hyl;have ya: ∀{E:List (Nat×Nat)},(sL st (yQ N E))[st.length+z]?=some (.lst ((w4 E z).map zE)):=m7 (pX hyl);have hal2: ∀{i:Nat},(w4 (eU cs x++ [(x,x+1)]) i).length<=100:=λ{i} =>by have:=nA (E:=eU cs x++ [(x,x+1)]) (i:=i);rw[af,bi]at this;omega
     have how:=zhm hn hym;rw[ecs]at how;symm;simp? only[zE,one_m1,hro,xr,xa,aa];refine⟨by omega,?_⟩;rw[hx1,oK hxN];symm;simp? only[hsl,hat];refine⟨by omega,r6 (oB hs hy.1) (λj y e hj2 he=> ?_) ?_⟩
     ·obtain⟨hj,rfl⟩:=u8 hj2
      obtain⟨y1,rfl⟩:=sI he;have hjN:j < N:=by simpa using hj
      obtain⟨s,hs'⟩: ∃s,(SS hs)[j]?=some s:=⟨_,am (by rw[uO,eN];exact hjN)⟩;have hat2:atI (yK hs) (0+(j:Int))=some (wI s):=by rw[gt];exact xJ (by unfold yK;rw[aw,hs'];rfl)
      have hf:oB hs hy.1 (.int (0+(j:Int)))=if s.1==hy.1 then some (.int (0+(j:Int)))else none:=by
       unfold oB;dsimp only;rw[show(0+(j:Int)).toNat=j by omega,hs']
      unfold wI at hat2;simp? only[hat2,hat];cases h1:(s.1==hy.1)with
      | true=>
       rw[h1]at hf
       ac_nf
       exact CP.yes (e':= [_]) hj2 hf rfl
      | false=>
       rw[h1]at hf
       ac_nf
       exact CP.no (e':= [_]) hj2 hf rfl
     rw[<- ecs,eN,ecs]at how;rw[how];simp? only[hat];simp? only[zE,one_m1,zhk,own1,hro,yr,ya,aa];refine⟨by have:=hal2 (i:=z);omega,_,_,_,rfl,?_⟩;rw[hx1,oK hyl,au,<- ez,<- hyk]
     rfl
  ·rintro env s ⟨v2,v6,v7,rfl,rfl⟩
   rw[tL,cc (ak _)]
   ac_nf
   refine⟨_,_,_,_,_,rfl,?_⟩;have hlast:eK cs (zN cs h.1+(zL h.2).length)= []:=by
    rw[lI hmc (by rw[hlk];exact ak _)];unfold eJ;rw[hlk,jp (ak _)]
   rw[zjB hh,<- hb,lJ,hlast,db]
 ·rintro env s ⟨v2,v4,v5,v6,v7,rfl,rfl⟩
  rw[aa,cc (ak _)]
  ac_nf
  refine⟨st,yQ N (eU cs N),by rw[eN];rfl,ak _,?_⟩;have hfr:nK st.length (st.length+(yQ N (eU cs N)).length) (.lst ((yQ N (eU cs N)).map PV.lst)) (some (.obj (st.length+N)))=some (.lst ((yQ N (eU cs N)).map PV.lst)):=by rw[n9];exact if_pos rfl
  rw[hfr]
  ac_nf
  have hq:oA hs= .lst ((yQ N (eU cs N)).map PV.lst):=by unfold oA;rw[ecs,<- ecs,eN,ecs]
  rw[hq]at q;exact q
theorem znq {f:Addr}{fd:FuncData}(M:Mo K mg)(F:yP K "_law_behind" "_law_behind" gW f fd):yG P w K mg base yH 1 f fd ["_law_onward_here","_law_one"] (yC K zib):=by
 refine xH 0 F fJ (λxs st Q h=>by obtain⟨lk,g,n,one,rfl,_⟩:=h;rfl) ⟨_,λcdv A outer s H E hr=>(zA (qz 2 fJ.nd gH)
   (zA (qz 3 fJ.nd (vK (zgV rfl) (by rfl) M.list cF (z3 (qx hr (qv 0) (qv 1)) z4)))
   (zA (gJ cm (qc vY (yB yM (by rfl) M.len bu (z3 (qv 3) z4)) z7) (zA (qz 4 fJ.nd (zh8 bm ly lz (by decide) zgW (qv 3)))
   (zH (yF (pE (zch hr) (qv 4) (qv 2) (by rfl)) (zA (tJ vB (rM hr (qv 2) (qv 4)))
   (zH (x9 (x8 bm sa sf (by decide) zgT (qv 3) (z3 (qx hr (qv 0) (qv 4)) z4))))) yN))))
   (zH (y3 (qv 2)))))),λxs st Q h=> ?_⟩
 obtain⟨lk,g,n0,one,rfl,H,ho,q⟩:=h;have hsz:=H.sz;have g1: ∀{x y:PO},(st++ [x]++ [y])[st.length]?=some x:=λ{x y} =>by rw[au,aj (ak _),cv];rfl
 have g2: ∀{x y:PO},(st++ [x]++ [y])[st.length+1]?=some y:=λ{x y} =>by rw[au,aj (by omega),show st.length+1 - st.length=1 by omega];rfl
 have s1: ∀{x y z:PO},(st++ [x]++ [y]).set st.length z=st++ [z]++ [y]:=λ{x y z} =>by rw[au,cq _ _ (ak _),cv];simp
 have s2: ∀{x y z:PO},(st++ [x]++ [y]).set (st.length+1) z=st++ [x]++ [z]:=λ{x y z} =>by rw[au,cq _ _ (by omega),show st.length+1 - st.length=1 by omega];simp
 have t1: ∀{x y:PO},(st++ [x]++ [y]).take st.length=st:=λ{x y} =>by rw[au,cr (ak _),fk]
 have len1': ∀{x:PO},(st++ [x]).length=st.length+1:=by simp
 have big:(100000:Nat) < sizeLine:=by rw[cp];decide
 have hix:=H.ix ho;symm
 ac_nf
 symm;simp? only[zE,hix];rw[len1'];symm;refine⟨λm env s=> ∃(lf ms:List Nat) (v:Option PV),env= [some (.lst lk),some (.int (one:Int)),some (.obj st.length),some (.obj (st.length+1)),v]/\s=st++ [.dct (xS ms)]++ [.lst (lf.map zE)]/\ms.Nodup/\(∀x∈ms,Rn g one x)/\(∀x∈lf,Rn g one x)/\(∀x∈g one,x∈ms∨x∈lf)/\(∀x∈ms,∀y∈g x,y∈ms∨y∈lf)/\m=(n0 - ms.length) * 101+lf.length/\lf.length<=100 * (ms.length+1),⟨_,g one,[],none,rfl,rfl,uu,by simp,λx hx=> .one hx,λx hx=> .inr hx,by simp,rfl,by have:=H.gl one;simpa using this⟩,?_⟩;rintro m env s ⟨lf,ms,v,rfl,rfl,hmn,hmr,hlr,hc1,hc2,rfl,hll⟩;have hmi: ∀x∈ms,x < n0:=λx hx=>(hmr x hx).in_ H.cl ho;have nsl: ∀{l:List Nat},l.Nodup->(∀x∈l,x < n0)->l.length<=n0:=λ{l} h1 h2=>by have:=p7 (m:=List.range n0) h1 λx hx=>dk.mpr (h2 x hx);rwa [dz]at this
 have hml:ms.length<=n0:=nsl hmn hmi;simp? only[g2,aa];rcases uv lf with rfl | ⟨lf',n,rfl⟩
 ·have hd:decide (0 < (([]:List Nat).length:Int))=false:=rfl
  simp? only[hd];unfold xA;dsimp only;rw[if_neg (ck _),g1];dsimp only;rw[t1];refine q ms λx=>⟨hmr x,λh=> ?_⟩
  induction h with
  | one h=>exact(hc1 _ h).resolve_right (by simp)
  | more _ h ih=>exact(hc2 _ ih _ h).resolve_right (by simp)
 ·rw[uw]at *
  have hnr:Rn g one n:=hlr n (by simp);have nm:n < n0:=hnr.in_ H.cl ho;have hgl:((lf'++ [n]).map zE).getLast?=some (.int (n:Int)):=by simp
  have hdl:((lf'++ [n]).map zE).dropLast=lf'.map zE:=by simp
  have gvn:atI lk (n:Int)=some (.lst ((g n).map zE)):=H.ix nm;have gn:=H.gl n;have hd:decide (0 < ((lf'++ [n]).length:Int))=true:=decide_eq_true (by rw[af,bi];omega);rw[af,bi]at hll;have hin: ∀{Q:K3},wP true (.int (n:Int)) (.obj st.length) (st++ [.dct (xS ms)]++ [.lst (lf'.map zE)]) Q=Q (.bl (!decide (n∈ms))) (st++ [.dct (xS ms)]++ [.lst (lf'.map zE)]):=λ{Q} =>by
   unfold wP sQ q5;dsimp only;rw[g1];show Q (.bl (!(zO (xS ms) (.inl (n:Int))).isSome)) _=_;rw[fU]
  simp? only[hd];refine⟨λe s=> ∃(lf2 ms2:List Nat) (v:Option PV),e= [some (.lst lk),some (.int (one:Int)),some (.obj st.length),some (.obj (st.length+1)),v]/\s=st++ [.dct (xS ms2)]++ [.lst (lf2.map zE)]/\ms2.Nodup/\(∀x∈ms2,Rn g one x)/\(∀x∈lf2,Rn g one x)/\(∀x∈g one,x∈ms2∨x∈lf2)/\(∀x∈ms2,∀y∈g x,y∈ms2∨y∈lf2)/\(n0 - ms2.length) * 101+lf2.length < (n0 - ms.length) * 101+(lf'++ [n]).length/\lf2.length<=100 * (ms2.length+1),?_,?_⟩
  ·rintro e s ⟨lf2,ms2,v,h1,h2,h3,h4,h5,h6,h7,h8,h9⟩
   exact⟨_,h8,lf2,ms2,v,h1,h2,h3,h4,h5,h6,h7,rfl,h9⟩
  ·symm
   simp? only[g2,hgl,hdl,s2];simp? only[hin];have key: ∀{x:Nat},x∈lf'++ [n]->x∈lf'∨x=n:=λ{x} h=>(av.mp h).imp id aq.mp;by_cases hm:n∈ms
   ·have hdm:decide (n∈ms)=true:=decide_eq_true hm
    simp? only[hdm];refine⟨lf',ms,_,rfl,rfl,hmn,hmr,λx hx=>hlr x (az _ hx),λx hx=> ?_,λx hx y hy=> ?_,by rw[af,bi];omega,by omega⟩
    ·rcases hc1 x hx with z | z
     ·exact .inl z
     ·rcases key z with z | rfl
      ·exact .inr z
      ·exact .inl hm
    ·rcases hc2 x hx y hy with z | z
     ·exact .inl z
     ·rcases key z with z | rfl
      ·exact .inr z
      ·exact .inl hm
   ·have hdm:decide (n∈ms)=false:=decide_eq_false hm
    have tn:=zi2 hm;have hm2:(ms++ [n]).Nodup:=bp.mpr ⟨hmn,by simp,λa ha b hb=>by rw[aq.mp hb];exact λz=>hm (z▸ha)⟩;have hl2:=nsl hm2 λx hx=>by
     rcases av.mp hx with hx | hx
     ·exact hmi x hx
     ·rw[aq.mp hx];exact nm
    rw[af,bi]at hl2;simp? only[hdm];symm;simp? only[g1,s1,zqW,tn];refine⟨by omega,?_⟩;simp? only[gvn];simp? only[g2,s2,aa];refine⟨by omega,lf'++g n,ms++ [n],_,rfl,by rw[ao],hm2,λx hx=> ?_,λx hx=> ?_,λx hx=> ?_,λx hx y hy=> ?_,?_,?_⟩
    ·rcases av.mp hx with hx | hx
     ·exact hmr x hx
     ·rw[aq.mp hx];exact hnr
    ·rcases av.mp hx with hx | hx
     ·exact hlr x (az _ hx)
     ·exact .more hnr hx
    ·rcases hc1 x hx with z | z
     ·exact .inl (az _ z)
     ·rcases key z with z | rfl
      ·exact .inr (az _ z)
      ·exact .inl (al _ (aq.mpr rfl))
    ·rcases av.mp hx with hx | hx
     ·rcases hc2 x hx y hy with z | z
      ·exact .inl (az _ z)
      ·rcases key z with z | rfl
       ·exact .inr (az _ z)
       ·exact .inl (al _ (aq.mpr rfl))
     ·rw[aq.mp hx]at hy
      exact .inr (al _ hy)
    ·rw[af,af,af,bi];omega
    ·rw[af,af,bi];omega
theorem nd9:(["_law_box_here","_law_behind_here","_law_left","_law_found","?4","_law_free","_law_one"]:List Str).Nodup:=by decide+kernel
theorem zmK:(["_law_box_here","_law_behind_here","_law_left","_law_found","?4","_law_free","_law_one","_law_other"]:List Str).Nodup:=by decide+kernel
theorem znx {f:Addr}{fd:FuncData}(M:Mo K mg)(F:yP K "_law_order" "_law_order" m9 f fd):yG P w K mg base yH 2 f fd ["_law_box_here","_law_behind_here"] (yC K zqm):=by
 obtain⟨_,_,zQ,zX,zY⟩:=M._law_take;have zW:= @vS P w K mg base _ _ M zQ;refine xH 0 F kW (λxs st Q h=>by obtain⟨i,a,b,bh,ms,g,n,rho,rfl,_⟩:=h;rfl) ⟨_,λcdv A outer s H E hr=>have hr1:zU 1 _:=hr.mono (by decide);(zA (nX (i:=2) kW.nd rfl (Or.inr rfl) (zcz true rfl (by rfl) M.list (by rfl) M.range (z3 (yB yM (by rfl) M.len bu (z3 (qv 1) z4)) z4)))
   (zA (qz 3 kW.nd (u5 z4))
   (zA (gJ cm (qc vY (yB yM (by rfl) M.len bu (z3 (qv 2) z4)) z7) (zA (zpp (i0:=5) (z:= "_law_one") (own:= ["_law_one"]) (zkI (fsc:=y4 m9) (N:= ["_law_box_here","_law_behind_here","_law_left","_law_found","_law_one","_law_free"]) (N':= ["_law_box_here","_law_behind_here","_law_left","_law_found","?4","_law_free"]) rfl rfl (by decide+kernel)) kW.nd rfl (Or.inl rfl) rfl (uU (qv 2)) (λc C s H fp pins=>(pD (i:=6) nd9 rfl (Or.inr rfl))) (λc C s H fp pins=>kB (qH (tK (yB (zcf rfl) (by rfl) M.any boot_any (z3 (oF (own:= ["_law_other"]) (uF (fsc:=rlb ⟨.function,[(".0",.local),("_law_one",.cell),("any",.globalImplicit),("_law_behind_here",.free),("_law_left",.free)],false,false,[]⟩ (y4 m9)) (N:= ["_law_box_here","_law_behind_here","_law_left","_law_found","?4","_law_free","_law_one"]) (N':= ["_law_box_here","_law_behind_here","_law_left","_law_found","?4","_law_free","_law_one"]) rfl rfl (by decide+kernel)) rfl (uU (qv 2)) (λC s H fp pins=>(qn 7 zmK)) (λC s H fp pins=>sO) (λC s H fp pins=>(vZ (rJ hr) (qv 6) (qx hr (qv 1) (qv 7)) (by rfl)))) z4))))) (λc C s H fp pins=>(qv 6)))
   (zA (qz 4 kW.nd (qx hr (qv 5) (qk zW hr1 zY zQ zX (z3 (qv 0) (z3 (yB yM (by rfl) M.len bu (z3 (qv 5) z4)) z4)))))
   (zA (x9 (x8 bm rh PySem.F.type_list_remove (by decide) znk (qv 2) (z3 (qv 4) z4)))
   (zH (x9 (x8 bm bv bw (by decide) xX (qv 3) (z3 (qv 4) z4))))))))
   (zH (y3 (vK (p9 rfl) (by rfl) M.tuple rX (z3 (qv 3) z4))))))),λxs st Q h=> ?_⟩
 obtain⟨i,a,b,bh,ms,g,n,rho,rfl,hi,hb,H,hrho,q⟩:=h;have hlen:=H.len;have hsz:=H.sz;have big:(1000:Nat) < sizeLine:=by rw[cp];decide
 have hil:i < st.length:=(ad.mp hi).1;symm
 ac_nf
 refine⟨n,by rw[hlen],by omega,?_⟩;symm
 ac_nf
 have len1': ∀{s:z5} {x:PO},(s++ [x]).length=s.length+1:=λ{s x} =>by simp
 rw[len1',zcP];have hst:st.set i (z9 a b)=st:=by
  obtain⟨h1,h2⟩:=ad.mp hi;rw[<- h2];exact jt h1
 symm;refine⟨λm env s=> ∃(lf fd:List Nat) (a b:Int) (v4 v5:Option PV),env= [some (.obj i),some (.lst bh),some (.obj st.length),some (.obj (st.length+1)),v4,v5]/\s=st.set i (z9 a b)++ [.lst ((yL lf).map PV.int)]++ [.lst ((yL fd).map PV.int)]/\zZ a b/\(fd++lf).Perm (List.range n)/\fd.Pairwise (λx y=> ¬ Rn g y x)/\(∀x∈fd,∀y∈lf,¬ Rn g y x)/\m=lf.length,⟨_,List.range n,[],a,b,none,none,rfl,by rw[hst];rfl,hb,by simp,List.Pairwise.nil,by simp,rfl⟩,?_⟩;rintro m env s ⟨lf,fd,a,b,v4,v5,rfl,rfl,hb,hp,hpw,hfl,rfl⟩;obtain⟨U,eU⟩: ∃U,st.set i (z9 a b)=U:=⟨_,rfl⟩;have hUl:U.length=st.length:=by rw[<- eU,ci]
 have hUs: ∀{o:PO},U.set i o=st.set i o:=λ{o} =>by rw[<- eU,my]
 have hUi:U[i]?=some (z9 a b):=by rw[<- eU,dh hil]
 have g1: ∀{x y:PO},(U++ [x]++ [y])[st.length]?=some x:=λ{x y} =>by rw[<- hUl,au,aj (ak _),cv];rfl
 have g2: ∀{x y:PO},(U++ [x]++ [y])[st.length+1]?=some y:=λ{x y} =>by rw[<- hUl,au,aj (by omega),show U.length+1 - U.length=1 by omega];rfl
 have gi: ∀{x y:PO},(U++ [x]++ [y])[i]?=some (z9 a b):=λ{x y} =>by rw[au,ax (by omega)];exact hUi
 have si: ∀{x y o:PO},(U++ [x]++ [y]).set i o=st.set i o++ [x]++ [y]:=λ{x y o} =>by rw[au,ie _ _ (by omega),hUs,<- au]
 have t1: ∀{x y:PO},(U++ [x]++ [y]).take st.length=U:=λ{x y} =>by rw[au,<- hUl,cr (ak _),fk]
 have hlen2:=hp.length_eq;rw[af,dz]at hlen2;have hnd:(fd++lf).Nodup:=hp.nodup_iff.mpr rq;have hndl:=(bp.mp hnd).2.1;have hltn: ∀x∈lf,x < n:=λx hx=>dk.mp (hp.mem_iff.mp (al _ hx));rw[eU];simp? only[g1,aa,pP];by_cases hl0:lf= []
 ·subst hl0
  have hd:decide (0 < (([]:List Nat).length:Int))=false:=rfl;simp? only[hd,g2,t1];rw[<- eU];exact q fd a b (by rw[db]at hp;exact hp) (zl3.mpr hpw) hb
 have hd:decide (0 < (lf.length:Int))=true:=decide_eq_true (by have:=fg.mpr hl0;omega);simp? only[hd];refine⟨λe s=> ∃(lf2 fd2:List Nat) (a b:Int) (v4 v5:Option PV),e= [some (.obj i),some (.lst bh),some (.obj st.length),some (.obj (st.length+1)),v4,v5]/\s=st.set i (z9 a b)++ [.lst ((yL lf2).map PV.int)]++ [.lst ((yL fd2).map PV.int)]/\zZ a b/\(fd2++lf2).Perm (List.range n)/\fd2.Pairwise (λx y=> ¬ Rn g y x)/\(∀x∈fd2,∀y∈lf2,¬ Rn g y x)/\lf2.length < lf.length,?_,?_⟩
 ·rintro e s ⟨lf2,fd2,a,b,v4,v5,h1,h2,h3,h4,h5,h6,h7⟩
  exact⟨_,h7,lf2,fd2,a,b,v4,v5,h1,h2,h3,h4,h5,h6,rfl⟩
 symm;simp? only[g1];refine zeB g1 (lM ms lf) (λj x e hx he=> ?_) ?_
 ·obtain⟨x,hx',rfl⟩:=zi0 hx
  obtain⟨e0,rfl⟩:=sI he;simp? only[g1];refine zeB g1 (i9 ms x) (λj2 y e2 hy he2=> ?_) ?_
  ·obtain⟨y,hy',rfl⟩:=zi0 hy
   obtain⟨e1,rfl⟩:=sI he2;have hyn:=hltn y (ap.mpr ⟨j2,hy'⟩);have by_:=H.ix hyn;have hf:i9 ms x (.int (y:Int))=some (.bl (decide (x∈ms y))):=by
    show some (PV.bl (decide (x∈ms ((y:Nat):Int).toNat)))=_;rw[dj]
   simp? only[by_,zbE];exact CP.yes (e':= [_]) hy hf rfl
  rw[zem];simp? only[kC];refine⟨_,rfl,?_⟩;have hf:lM ms lf (.int (x:Int))=if !(lf.any λz=>decide (x∈ms z))then some (.int (x:Int))else none:=by
   show(if !(lf.any λz=>decide (((x:Nat):Int).toNat∈ms z))then some (PV.int (x:Int))else none)=_;rw[dj]
  have hae:(lf.map λz=>decide (x∈ms z)).any id=lf.any λz=>decide (x∈ms z):=by rw[List.any_map];rfl
  rw[hae];cases ha:(lf.any λz=>decide (x∈ms z))with
  | true=>
   rw[ha]at hf
   ac_nf
   exact CP.no (e':= [_]) hx hf rfl
  | false=>
   rw[ha]at hf
   ac_nf
   exact CP.yes (e':= [_]) hx hf rfl
 rw[zgc];obtain⟨fr,efr⟩: ∃fr,lf.filter (λx=> !(lf.any λz=>decide (x∈ms z)))=fr:=⟨_,rfl⟩;have hfr: ∀x∈fr,x∈lf/\∀y∈lf,¬ Rn g y x:=λx hx=>by
  rw[<- efr]at hx;obtain⟨h1,h2⟩:=ij.mp hx;refine⟨h1,λy hy hr=> ?_⟩;have:lf.any (λz=>decide (x∈ms z))=true:=fz.mpr ⟨y,hy,decide_eq_true ((H.rn y (hltn y hy) x).mpr hr)⟩;rw[this]at h2;cases h2
 have hfne:0 < fr.length:=by
  obtain⟨x,hx,hm⟩:=zgJ (rho:=rho) hl0;refine uf (a:=x) ?_;rw[<- efr];refine ij.mpr ⟨hx,?_⟩;cases ha:(lf.any λz=>decide (x∈ms z))with
  | false=>rfl
  | true=>
   obtain⟨y,hy,hd2⟩:=fz.mp ha;have hr:=(H.rn y (hltn y hy) x).mp (of_decide_eq_true hd2);have h1:=hr.up hrho;have h2:=hm y hy;omega
 have hfl2:fr.length<=40:=by rw[<- efr];have:=jq (λx=> !(lf.any λz=>decide (x∈ms z))) lf;omega
 rw[efr];symm;simp? only[aa,pP];refine⟨i,_,a,b,rfl,gi,hb,by omega,by omega,λd a2 b2 hd0 hd1 hb2=> ?_⟩;rw[si];obtain⟨dn,rfl⟩: ∃dn:Nat,d=(dn:Int):=⟨d.toNat,by omega⟩;obtain⟨one,hone⟩: ∃one,fr[dn]?=some one:=⟨_,am (by omega)⟩;have hix:atI ((yL fr).map PV.int) (dn:Int)=some (.int (one:Int)):=xJ (by rw[aw,fT,hone];rfl);obtain⟨hol,hof⟩:=hfr one (ap.mpr ⟨dn,hone⟩);have hjl:=ik hol;have hj1:lf[lf.idxOf one]?=some one:=by rw[am hjl,wk hjl]
 obtain⟨V,eV⟩: ∃V,st.set i (z9 a2 b2)=V:=⟨_,rfl⟩;have hVl:V.length=st.length:=by rw[<- eV,ci]
 have v1: ∀{x y:PO},(V++ [x]++ [y])[st.length]?=some x:=λ{x y} =>by rw[<- hVl,au,aj (ak _),cv];rfl
 have v2: ∀{x y:PO},(V++ [x]++ [y])[st.length+1]?=some y:=λ{x y} =>by rw[<- hVl,au,aj (by omega),show V.length+1 - V.length=1 by omega];rfl
 have w1: ∀{x y z:PO},(V++ [x]++ [y]).set st.length z=V++ [z]++ [y]:=λ{x y z} =>by rw[<- hVl,au,cq _ _ (ak _),cv];simp
 have w2: ∀{x y z:PO},(V++ [x]++ [y]).set (st.length+1) z=V++ [x]++ [z]:=λ{x y z} =>by rw[<- hVl,au,cq _ _ (by omega),show V.length+1 - V.length=1 by omega];simp
 rw[eV];simp? only[hix];symm;simp? only[zhH,v1];refine⟨_,yL lf,(one:Int),lf.idxOf one,rfl,rfl,v1,by rw[fT,hj1];rfl,λm2 hm2 z=> ?_,?_⟩
 ·rw[fT]at z
  cases hz:lf[m2]? with
  | none=>rw[hz]at z;cases z
  | some y=>
   rw[hz]at z;have:y=one:=ny.mp (bx z);subst this;have:=(da (by omega) hndl).mp (hz.trans hj1.symm);omega
 rw[w1,zi1];simp? only[v2,w2,aa,pP];have hmem: ∀y∈lf.eraseIdx (lf.idxOf one),y∈lf:=λy hy=>kj hy;have hper:(one::lf.eraseIdx (lf.idxOf one)).Perm lf:=by
  have:=zb3 (f:=λx=> [x]) hj1;simp only[List.flatMap_singleton']at this;exact this.symm
 refine⟨by omega,lf.eraseIdx (lf.idxOf one),fd++ [one],a2,b2,_,_,rfl,?_,hb2,?_,?_,λx hx y hy=> ?_,?_⟩
 ·rw[eV,zqV,ao];rfl
 ·refine List.Perm.trans ?_ hp
  rw[au];exact gd _ hper
 ·refine List.pairwise_append.mpr ⟨hpw,by simp,λx hx y hy=> ?_⟩
  rw[aq.mp hy];exact hfl x hx one hol
 ·rcases av.mp hx with hx | hx
  ·exact hfl x hx y (hmem y hy)
  ·rw[aq.mp hx];exact hof y (hmem y hy)
 ·rw[List.length_eraseIdx_of_lt hjl];omega
theorem zmL:(["_law_order_here","_law_behind_here","_law_k","_law_j"]:List Str).Nodup:=by decide+kernel
theorem zns {f:Addr}{fd:FuncData}(M:Mo K mg)(F:yP K "_law_good" "_law_good" kL f fd):yG P w K mg base yH 1 f fd ["_law_order_here","_law_behind_here"] (yC K zqg):=by
 refine xH 0 F zhU (λxs st Q h=>by obtain⟨os,bh,ms,g,n,rfl,_⟩:=h;rfl) ⟨_,λcdv A outer s H E hr=>(zA (yF (qc (o8 hr) (yB zgY (by rfl) M.sorted xf (z3 (qv 0) z4)) (zcz false rfl (by rfl) M.list (by rfl) M.range (z3 (yB yM (by rfl) M.len bu (z3 (qv 1) z4)) z4))) (zH (y3 vB)) yN)
   (zA (wO cm rfl (u7 (by rfl) M.range (z3 (yB yM (by rfl) M.len bu (z3 (qv 0) z4)) z4)) (pD (i:=2) zhU.nd rfl (Or.inr rfl)) (zH (yF (tK (yB (zcf rfl) (by rfl) M.any boot_any (z3 (oF (own:= ["_law_j"]) (uF (fsc:=y4 kL) (N:= ["_law_order_here","_law_behind_here","_law_k"]) (N':= ["_law_order_here","_law_behind_here","_law_k"]) rfl rfl (by decide+kernel)) rfl (u7 (by rfl) M.range (z3 (qv 2) z4)) (λC s H fp pins=>(qn 3 zmL)) (λC s H fp pins=>sO) (λC s H fp pins=>(vZ (rJ hr) (qx hr (qv 0) (qv 3)) (qx hr (qv 1) (qx hr (qv 0) (qv 2))) (by rfl)))) z4))) (zH (y3 vB)) yN)))
   (zH (y3 vB)))),λxs st Q h=> ?_⟩
 obtain⟨os,bh,ms,g,n,rfl,H,h64,q⟩:=h;have hlen:=H.len;have hsz:=H.sz;symm;simp? only[gR];refine⟨os,rfl,h64,λns hp hsrt=> ?_⟩
 ac_nf
 refine⟨n,by rw[hlen],by omega,?_⟩
 ac_nf
 rw[zcP,bB,iK,iK];refine⟨⟨by decide,by decide⟩,?_⟩;by_cases hu:ns=uW n
 ·have hd:decide (ns=uW n)=true:=decide_eq_true hu
  obtain⟨l,rfl,hl⟩:=zhw hp hu;have hll:l.length=n:=by rw[hl.length_eq,dz]
  have hix: ∀j x:Nat,l[j]?=some x->atI ((yL l).map PV.int) (0+(j:Int))=some (.int (x:Int)):=λj x h=>by rw[gt];exact xJ (by rw[aw,fT,h];rfl)
  have hlt: ∀j x:Nat,l[j]?=some x->x < n:=λj x h=>dk.mp (hl.mem_iff.mp (ap.mpr ⟨j,h⟩));simp? only[hd];symm;simp? only[aa,pP,hll];refine⟨by omega,wL (λk env s=> ∃v,env= [some (.tup ((yL l).map PV.int)),some (.lst bh),v]/\s=st/\∀j k' x y:Nat,j < k'->k' < k->l[j]?=some x->l[k']?=some y->¬ Rn g y x) ⟨_,rfl,rfl,λj k' x y _ h=>absurd h (mo _)⟩ ?_ ?_⟩
  ·rintro k x env s hx ⟨v,rfl,rfl,hk⟩
   obtain⟨hkn,rfl⟩:=u8 hx;have hkn':k < l.length:=by rw[hll];simpa using hkn
   obtain⟨y,hy⟩: ∃y,l[k]?=some y:=⟨_,am hkn'⟩;have hyn:=hlt k y hy;have iy:=hix k y hy;have by_:=H.ix hyn
   ac_nf
   refine⟨by omega,?_⟩;rw[show(0+(k:Int)).toNat=k by omega];refine r6 (iU l (ms y)) (λi z e hz he=> ?_) ?_
   ·obtain⟨hi,rfl⟩:=u8 hz
    obtain⟨a,rfl⟩:=sI he;obtain⟨x,hx'⟩: ∃x,l[i]?=some x:=⟨_,am (by omega)⟩;have ix:=hix i x hx';have hf:iU l (ms y) (.int (0+(i:Int)))=some (.bl (decide (x∈ms y))):=by
     unfold iU;dsimp only;rw[show(0+(i:Int)).toNat=i by omega,hx'];rfl
    simp? only[ix,iy,by_,zbE];exact CP.yes (e':= [_]) hz hf rfl
   rw[zgf];simp? only[kC];refine⟨_,rfl,?_⟩;cases ha:((List.range k).map λj=>decide ((l[j]?).getD 0∈ms y)).any id with
   | true=>
    ac_nf
    refine q false ⟨nofun,λ⟨l2,e2,_,o2⟩=> ?_⟩;obtain rfl:=zds e2;obtain⟨b,hb,eb⟩:=fz.mp ha;obtain⟨j,hj,rfl⟩:=ca.mp hb;have hjk:=dk.mp hj;obtain⟨x,hx'⟩: ∃x,l[j]?=some x:=⟨_,am (by omega)⟩;have h1:=of_decide_eq_true eb;rw[hx']at h1;exact(o2 j k x y hjk hx' hy ((H.rn y hyn x).mp h1)).elim
   | false=>
    ac_nf
    refine⟨_,rfl,λj k' x y' hjk hk' hx' hy' hr=> ?_⟩;rcases lx k' k with z | z
    ·exact hk j k' x y' hjk z hx' hy' hr
    ·have:k'=k:=by omega
     subst this;rw[hy]at hy';cases hy';have:((List.range k').map λj=>decide ((l[j]?).getD 0∈ms y)).any id=true:=fz.mpr ⟨true,ca.mpr ⟨j,dk.mpr hjk,decide_eq_true (by rw[hx'];exact(H.rn y hyn x).mpr hr)⟩,rfl⟩;rw[this]at ha;cases ha
  ·rintro env s ⟨v,rfl,rfl,hk⟩
   rw[tL]at hk
   ac_nf
   refine q true ⟨λ_=>⟨l,rfl,hl,λj k x y hjk hx hy=>hk j k x y hjk ?_ hx hy⟩,λ_=>rfl⟩;have:=(ad.mp hy).1;omega
 ·have hd:decide (ns=uW n)=false:=decide_eq_false hu
  simp? only[hd];exact q false ⟨nofun,λ⟨l,e,hl,_⟩=>absurd (zi9 hp hsrt e hl) hu⟩
theorem zny {f:Addr}{fd:FuncData}(M:Mo K mg)(F:yP K "_law_others" "_law_others" fA f fd):yG P w K mg base yH 2 f fd ["_law_box_here","_law_order_here"] (yC K zqo):=by
 obtain⟨_,_,zQ,zX,zY⟩:=M._law_take;have zW:= @vS P w K mg base _ _ M zQ;refine xH 0 F kX (λxs st Q h=>by obtain⟨i,a,b,os,rfl,_⟩:=h;rfl) ⟨_,λcdv A outer s H E hr=>have hr1:zU 1 _:=hr.mono (by decide);(zA (qz 2 kX.nd (qk zW hr1 zY zQ zX (z3 (qv 0) (z3 (yB yM (by rfl) M.len bu (z3 (qv 1) z4)) z4))))
   (zA (qz 3 kX.nd (qk zW hr1 zY zQ zX (z3 (qv 0) (z3 (yB yM (by rfl) M.len bu (z3 (qv 1) z4)) z4))))
   (zA (qz 4 kX.nd (vK (zgV rfl) (by rfl) M.list cF (z3 (qv 1) z4)))
   (zA (tJ (yJ (z3 (qx hr (qv 4) (qv 3)) (z3 (qx hr (qv 4) (qv 2)) z4))) (uL (n:=2) rfl (yX (rM hr (qv 4) (qv 2)) (yX (rM hr (qv 4) (qv 3)) u6))))
   (zA (qz 5 kX.nd (u5 (z3 (vK (p9 rfl) (by rfl) M.tuple rX (z3 (qv 4) z4)) (z3 (zM y9 (wB (qv 1) wC (xY (qv 2))) (wB (qv 1) (xY (zM y9 (qv 2) z7)) wC)) (z3 (zM y9 (zM y9 (wB (qv 1) wC (xY (qv 2))) (yJ (z3 (qx hr (qv 1) (qv 3)) z4))) (wB (qv 1) (xY (zM y9 (qv 2) z7)) wC)) z4)))))
   (zA (x9 (x8 bm bv bw (by decide) xX (qv 5) (z3 (zM y9 (zM y9 (wB (qv 1) wC (xY (qv 2))) (yJ (z3 (zM y9 (yB yM (by rfl) M.len bu (z3 (qv 1) z4)) (qk zW hr1 zY zQ zX (z3 (qv 0) (z3 z7 z4)))) z4))) (wB (qv 1) (xY (zM y9 (qv 2) z7)) wC)) z4)))
   (zA (x9 (x8 bm bv bw (by decide) xX (qv 5) (z3 (zM y9 (zM y9 (wB (qv 1) wC (xY (qv 2))) (yJ (z3 (zM sN (qx hr (qv 1) (qv 2)) (yB yM (by rfl) M.len bu (z3 (qv 1) z4))) z4))) (wB (qv 1) (xY (zM y9 (qv 2) z7)) wC)) z4)))
   (zH (y3 (zM zmZ (qv 5) (u3 (z3 (zM y9 (qv 1) (yJ (z3 (qx hr (qv 1) (qv 2)) z4))) (z3 (zM y9 (wB (qv 1) wC (xY (qv 3))) (zpk (wB (qv 1) (xY (qv 3)) wC) (xY (pC p8 z7)))) z4))))))))))))),λxs st Q h=> ?_⟩
 obtain⟨i,a,b,os,rfl,hi,hb,h0,h40,q⟩:=h;have hil:i < st.length:=(ad.mp hi).1;have big:(1000:Nat) < sizeLine:=by rw[cp];decide
 unfold j8;symm;simp? only[aa];refine⟨i,_,a,b,rfl,hi,hb,by omega,by omega,λd a b hd0 hd1 hb=> ?_⟩;obtain⟨an,rfl⟩: ∃n:Nat,d=(n:Int):=⟨d.toNat,by omega⟩;have han:an < os.length:=by omega
 symm;simp? only[aa];refine⟨i,_,a,b,rfl,by rw[dh hil],hb,by omega,by omega,λd a b hd0 hd1 hb=> ?_⟩;obtain⟨tn,rfl⟩: ∃n:Nat,d=(n:Int):=⟨d.toNat,by omega⟩;have htn:tn < os.length:=by omega
 rw[my];obtain⟨U,eU⟩: ∃U,st.set i (z9 a b)=U:=⟨_,rfl⟩;have hUl:U.length=st.length:=by rw[<- eU,ci]
 have hUi:U[i]?=some (z9 a b):=by rw[<- eU,dh hil]
 rw[eU];have ia:atI (os.map PV.int) (an:Int)=some (.int os[an]):=xJ (by rw[aw,am han];rfl);have it:atI (os.map PV.int) (tn:Int)=some (.int os[tn]):=xJ (by rw[aw,am htn];rfl);symm
 ac_nf
 symm;simp? only[ia,it];rw[aa,zg2 han]
 ac_nf
 rw[ci,aa,zg2 htn];have m1:((os.map PV.int).set an (.int os[tn])).set tn (.int os[an])=((os.set an os[tn]).set tn os[an]).map PV.int:=by rw[oo,oo]
 have c1:w5 (os.map PV.int) none (some (an:Int))=(os.take an).map PV.int:=by rw[o0,lh]
 have c2:w5 (os.map PV.int) (some ((an:Int)+1)) none=(os.drop (an+1)).map PV.int:=by rw[show(an:Int)+1=((an+1:Nat):Int)from rfl,lE,nz]
 have c3:w5 (os.map PV.int) none (some (tn:Int))=(os.take tn).map PV.int:=by rw[o0,lh]
 have c4:w5 (os.map PV.int) (some (tn:Int)) none=(os.drop tn).map PV.int:=by rw[lE,nz]
 ac_nf
 rw[m1];symm;simp? only[c1,c2,ia,it,aa,cf,fj];refine⟨by omega,by omega,by rw[af,aa,cf,bi];omega,?_⟩;obtain⟨V,eV⟩: ∃V,U++ [PO.lst (((os.set an os[tn]).set tn os[an]).map PV.int)]=V:=⟨_,rfl⟩;have hVi:V[i]?=some (z9 a b):=by rw[<- eV,ax (by omega)];exact hUi
 have hVl:i < V.length:=(ad.mp hVi).1;have hVt: ∀{o:PO},(V.set i o).take st.length=st.set i o:=λ{o} =>by rw[<- eV,ie _ _ (by omega),<- hUl,cr (by rw[ci];exact ak _),cc (by rw[ci];exact ak _),<- eU,my]
 have hsl:st.length<=V.length:=by rw[<- eV,af];omega
 rw[eV];symm;simp? only[c1,c2,aa,cf,fj];refine⟨i,_,a,b,rfl,by rw[ax hVl];exact hVi,hb,by omega,by omega,λd a b hd0 hd1 hb=> ?_⟩;rw[ie _ _ hVl];obtain⟨W,eW⟩: ∃W,V.set i (z9 a b)=W:=⟨_,rfl⟩;have hWl:V.length=W.length:=by rw[<- eW,ci]
 rw[eW,hWl];simp? only[c1,c2,aa,cf,fj,af];refine⟨by omega,by omega,by omega,?_⟩;symm;simp? only[c1,c2,ia,aa,cf,fj,af];refine⟨by omega,by omega,by omega,?_⟩;simp? only[c3,c4,ia,aa,cf,fj,af,ziM];refine⟨by omega,by rw[io,aa,fj];omega,?_⟩;have hlo: ∀{x:List PV},sJ (.obj W.length) (W++ [.lst x])=some x:=λ{x} =>by unfold sJ;dsimp only;rw[qE]
 refine⟨_,_,hlo,rfl,by show 5+2<=sizeLine;omega,?_⟩;have hWt:W.take st.length=st.set i (z9 a b):=by rw[<- eW];exact hVt
 have htk: ∀{x y:PO},(W++ [x]++ [y]).take st.length=st.set i (z9 a b):=λ{x y} =>by rw[au,cr (by omega),hWt]
 unfold xA;dsimp only;rw[if_neg (by rw[af];omega),qE];dsimp only;rw[htk];have hq:=q [(os.set an os[tn]).set tn os[an],os.take an++os.drop (an+1),os.take an++ [os[tn]]++os.drop (an+1),os.take an++ [(os.length:Int)+d]++os.drop (an+1),os.take an++ [os[an] - (os.length:Int)]++os.drop (an+1),os++ [os[an]],os.take tn++(os.drop tn).reverse] a b (λo ho=> ?_) hb
 ·unfold j8 at hq
  simp only[bb,ir,ao,og]at hq;exact hq
 ·simp only[bd,fh,or_false]at ho
  rcases ho with rfl | rfl | rfl | rfl | rfl | rfl | rfl <;> simp <;> omega
theorem zmM:(["_law_found","_law_due","_law_one","_law_other","_law_n"]:List Str).Nodup:=by decide+kernel
theorem zn4 {f:Addr}{fd:FuncData}(M:Mo K mg)(F:yP K "_law_stretches_right" "_law_stretches_right" kP f fd):yG P w K mg base yH 1 f fd ["_law_found","_law_due"] (yC K zqs):=by
 refine xH 0 F zcW (λxs st Q h=>by obtain⟨i,hs,rfl,_⟩:=h;rfl) ⟨_,λcdv A outer s H E hr=>(zA (yF (PW.pt (oG (qH (tK (yB znf (by rfl) M.isinstance mq (z3 (qv 0) (z3 (kA (by rfl) M.list cF) z4))))) (nZ (qc (o8 hr) (yB yM (by rfl) M.len bu (z3 (qv 0) z4)) (yB yM (by rfl) M.len bu (z3 (qv 1) z4)))))) (zH (y3 vB)) yN)
   (zA (wO cm rfl (zhA (by rfl) M.zip (z3 (qv 0) (z3 (qv 1) z4))) (uL (n:=2) rfl (yX (qn 2 zcW.nd) (yX (qn 3 zcW.nd) u6))) (zA (yF (PW.pt (oG (qH (tK (yB k8 (by rfl) M.isinstance mq (z3 (qv 2) (z3 (kA (by rfl) M.tuple rX) z4))))) (nZ (qc (o8 hr) (qv 2) (qv 3))))) (zH (y3 vB)) yN)
   (zH (yF (qH (tK (yB (zna rfl) (by rfl) M.all PyProof.Rows.boot_all (z3 (oF (own:= ["_law_n"]) (uF (fsc:=y4 kP) (N:= ["_law_found","_law_due","_law_one","_law_other"]) (N':= ["_law_found","_law_due","_law_one","_law_other"]) rfl rfl (by decide+kernel)) rfl (uU (wB (qv 2) (xY z7) wC)) (λC s H fp pins=>(qn 4 zmM)) (λC s H fp pins=>sO) (λC s H fp pins=>(zcy (yB k8 (by rfl) M.isinstance mq (z3 (qv 4) (z3 (kA (by rfl) M.int pY) z4))) (zc0 (zpi (yB k8 (by rfl) M.isinstance mq (z3 (qv 4) (z3 (kA (by rfl) M.bool zey) z4)))))))) z4)))) (zH (y3 vB)) yN))))
   (zH (y3 vB)))),λxs st Q h=> ?_⟩
 obtain⟨i,hs,rfl,hi,q⟩:=h;symm;simp? only[zc9,qJ,hi];have hb:(((yK hs).length:Int)==((yK hs).length:Int))=true:=beq_self_eq_true _;simp? only[hb];symm
 ac_nf
 refine⟨_,_,rfl,.inr ⟨_,_,rfl,hi,?_⟩⟩;dsimp only;refine wL (λk env s=> ∃v2 v3,env= [some (.obj i),some (.lst (yK hs)),v2,v3]/\s=st) ⟨_,_,rfl,rfl⟩ ?_ ?_
 ·rintro k x env s hx ⟨v2,v3,rfl,rfl⟩
  refine⟨hi,?_⟩;obtain⟨x1,y1,e1,e2,rfl⟩:=ziY hx;rw[e1]at e2;cases e2;obtain⟨s1,hs1,rfl⟩:=vX e1;obtain⟨v,ev⟩: ∃v,wI s1=v:=⟨_,rfl⟩;have hty: ∀{Q:K3} {st:z5},gM [wI s1,.ty "tuple"] st Q=Q (.bl true) st:=rfl;have heq:=zlj (s:=s1);have hdp:=zkZ (s:=s1);have hity:w6 (wI s1) "tuple" =some true:=rfl;simp? only[hity,heq,hdp];symm;simp? only[hity,heq,hdp];have hsl: ∀{Q:K3} {st:z5},pH (wI s1) (some 1) none st Q=Q (.tup [.int (s1.2.1:Int),.int (s1.2.2:Int)]) st:=rfl;rw[hsl]
  ac_nf
  refine r6 (λ_=>some (.bl true)) (λj y e hy he=> ?_) ?_
  ·obtain⟨e0,rfl⟩:=sI he
   have: ∃n:Int,y= .int n:=by
    rcases bd.mp (cj hy)with rfl | h
    ·exact⟨_,rfl⟩
    ·exact⟨_,aq.mp h⟩
   obtain⟨n,rfl⟩:=this
   ac_nf
   exact CP.yes (e':= [_]) hy rfl rfl
  simp? only[zc2];refine⟨[true,true],rfl,?_⟩
  ac_nf
  exact⟨_,_,rfl⟩
 ·rintro env s ⟨v2,v3,rfl,rfl⟩
  refine⟨hi,?_⟩
  ac_nf
  exact q
theorem zn6 {f:Addr}{fd:FuncData}(M:Mo K mg)(F:yP K "_law_truth" "_law_truth" fG f fd):yG P w K mg base yH 1 f fd ["_law_found","_law_due"] (yC K zqw):=by
 refine xH 0 F zpN (λxs st Q h=>by obtain⟨a,b,rfl,_⟩:=h;rfl) ⟨_,λcdv A outer s H E hr=>(zH (y3 (zcy (yB k8 (by rfl) M.isinstance mq (z3 (qv 0) (z3 (kA (by rfl) M.bool zey) z4))) (zc0 (vZ (xG hr) (qv 0) (qv 1) (sM _)))))),λxs st Q h=> ?_⟩;obtain⟨a,b,rfl,q⟩:=h
 ac_nf
 exact q
theorem zn2 {f:Addr}{fd:FuncData}(M:Mo K mg)(F:yP K "_law_shifted" "_law_shifted" fC f fd):yG P w K mg base yH 2 f fd ["_law_box_here","_law_program_here"] (yC K zqt):=by
 obtain⟨_,_,zQ,zX,zY⟩:=M._law_take;have zW:= @vS P w K mg base _ _ M zQ;refine xH 0 F pK (λxs st Q h=>by obtain⟨i,a,b,sh,hs,rfl,_⟩:=h;rfl) ⟨_,λcdv A outer s H E hr=>have hr1:zU 1 _:=hr.mono (by decide);(zA (qz 2 pK.nd (u5 z4))
   (zA (wO cm rfl (uU (qx hr (qv 1) z7)) (uL (n:=2) rfl (yX (qn 3 pK.nd) (yX (qn 4 pK.nd) u6))) (zhD (qz 5 pK.nd (u5 z4)) (wO cm rfl (u7 (by rfl) M.range (z3 (zM sN (yB yM (by rfl) M.len bu (z3 (qv 4) z4)) z7) z4)) (qn 6 pK.nd) (zH (yF (qc (o8 hr) (vZ (rJ hr) (qx hr (qx hr (qv 4) (qv 6)) z7) (yJ (z3 zJ (z3 zJ z4))) (by rfl)) (vZ (rJ hr) (qx hr (qx hr (qv 4) (zM y9 (qv 6) z7)) z7) (yJ (z3 zJ (z3 zJ z4))) (by rfl))) (zH (x9 (x8 bm bv bw (by decide) xX (qv 5) (z3 (qv 6) z4)))) yN)))
   (zA (yF (qc vY (yB yM (by rfl) M.len bu (z3 (qv 5) z4)) z7) (zA (qz 6 pK.nd (qx hr (qv 5) (qk zW hr1 zY zQ zX (z3 (qv 0) (z3 (yB yM (by rfl) M.len bu (z3 (qv 5) z4)) z4)))))
   (zH (qz 4 pK.nd (zM y9 (zM y9 (wB (qv 4) wC (xY (qv 6))) (yJ (z3 (qx hr (qv 4) (zM y9 (qv 6) z7)) (z3 (qx hr (qv 4) (qv 6)) z4)))) (wB (qv 4) (xY (zM y9 (qv 6) z7)) wC))))) yN)
   (zH (x9 (x8 bm bv bw (by decide) xX (qv 2) (z3 (yJ (z3 (qv 3) (z3 (qv 4) z4))) z4)))))))
   (zH (y3 (yJ (z3 (qx hr (qv 1) z7) (z3 (vK (p9 rfl) (by rfl) M.tuple rX (z3 (qv 2) z4)) z4))))))),λxs st Q h=> ?_⟩
 obtain⟨i,a,b,sh,hs,rfl,hi,hb,hl,rl,q⟩:=h;have hil:i < st.length:=(ad.mp hi).1;have big:(1000:Nat) < sizeLine:=by rw[cp];decide
 have hst:st.set i (z9 a b)=st:=by
  obtain⟨h1,h2⟩:=ad.mp hi;rw[<- h2];exact jt h1
 unfold vT;symm
 ac_nf
 symm
 ac_nf
 refine wL (λk env s=> ∃(hs2:List Hd) (a b:Int) (v3 v4 v5 v6:Option PV),env= [some (.obj i),some (.tup [.tup (sh.map wS),.tup (hs.map xR)]),some (.obj st.length),v3,v4,v5,v6]/\s=st.set i (z9 a b)++ [.lst (hs2.map xR)]/\zZ a b/\zD hs2=zD (hs.take k)/\(∀h∈hs2,h.2.length<=30)/\hs2.length=k) ⟨[],a,b,none,none,none,none,rfl,by rw[hst];rfl,hb,rfl,by simp,rfl⟩ ?_ ?_
 ·rintro k x env s hx ⟨hs2,a,b,v3,v4,v5,v6,rfl,rfl,hb,hcs,hr2,hk2⟩
  obtain⟨h,hh,rfl⟩:=vX hx;have hm:h∈hs:=ap.mpr ⟨k,hh⟩;have hkl:k < hs.length:=(ad.mp hh).1;have hrl:=rl h hm;obtain⟨U,eU⟩: ∃U,st.set i (z9 a b)=U:=⟨_,rfl⟩;have hUl:U.length=st.length:=by rw[<- eU,ci]
  have hUi:U[i]?=some (z9 a b):=by rw[<- eU,dh hil]
  rw[eU];obtain⟨HL,eHL⟩: ∃HL,hs2.map xR=HL:=⟨_,rfl⟩;have hHL:HL.length=k:=by rw[<- eHL,aa];exact hk2
  rw[eHL];unfold xR wS lP
  ac_nf
  symm;unfold zdy;symm
  ac_nf
  have l1:(U++ [PO.lst HL]).length=st.length+1:=by rw[af,hUl];rfl
  rw[l1];simp? only[aa];refine⟨by omega,?_⟩;obtain⟨c,ec⟩: ∃c,((h.2.length:Int) - 1).toNat=c:=⟨_,rfl⟩;rw[ec];have g2: ∀{y:PO},(U++ [PO.lst HL]++ [y])[st.length+1]?=some y:=λ{y} =>by rw[<- l1,aj (ak _),cv];rfl
  have s2: ∀{y z:PO},(U++ [PO.lst HL]++ [y]).set (st.length+1) z=U++ [PO.lst HL]++ [z]:=λ{y z} =>by rw[<- l1,cq _ _ (ak _),cv];rfl
  refine wL (λn env s=> ∃(sm:List Nat) (v6:Option PV),env= [some (.obj i),some (.tup [.tup (sh.map wS),.tup (hs.map xR)]),some (.obj st.length),some (.str h.1),some (.tup (h.2.map Rh.pv)),some (.obj (st.length+1)),v6]/\s=U++ [.lst HL]++ [.lst (sm.map zE)]/\(∀x∈sm,Sw h.2 x)/\sm.length<=n) ⟨[],_,rfl,rfl,by simp,ak _⟩ ?_ ?_
  ·rintro n x env s hx ⟨sm,v6,rfl,rfl,hsw,hsl⟩
   obtain⟨hnc,rfl⟩:=u8 hx;have hn2:n+1 < h.2.length:=by omega
   obtain⟨r,hr⟩: ∃r,h.2[n]?=some r:=⟨_,am (by omega)⟩;obtain⟨r',hr'⟩: ∃r,h.2[n+1]?=some r:=⟨_,am hn2⟩;obtain⟨k1,more,er,hk1⟩:=kJ r;obtain⟨k2,more2,er2,hk2'⟩:=kJ r';have hat:atI (h.2.map Rh.pv) (0+(n:Int))=some (.tup (.str k1::more)):=by rw[gt];exact xJ (by rw[aw,hr,<- er];rfl)
   have hat2:atI (h.2.map Rh.pv) (0+(n:Int)+1)=some (.tup (.str k2::more2)):=by rw[show 0+(n:Int)+1=((n+1:Nat):Int) by omega];exact xJ (by rw[aw,hr',<- er2];rfl)
   have hin: ∀{Q:K3} {st:z5},wP false (.str k1) (.tup [.str "split",.str "join"]) st Q=Q (.bl r.cut) st:=λ{Q st} =>by rw[<- hk1];exact propext ⟨λz=>z.2,λz=>⟨⟨rfl,rfl⟩,z⟩⟩
   have hin2: ∀{Q:K3} {st:z5},wP false (.str k2) (.tup [.str "split",.str "join"]) st Q=Q (.bl r'.cut) st:=λ{Q st} =>by rw[<- hk2'];exact propext ⟨λz=>z.2,λz=>⟨⟨rfl,rfl⟩,z⟩⟩
   simp? only[hat,hat2,hin,hin2];cases hc:(r.cut==r'.cut)with
   | true=>
    ac_nf
    exact⟨sm,_,rfl,rfl,hsw,by omega⟩
   | false=>
    simp? only[g2,s2,aa];refine⟨by omega,sm++ [n],_,rfl,?_,λx hx=> ?_,by rw[af];exact oq hsl 1⟩
    ·rw[ao,gt];rfl
    ·rcases av.mp hx with hx | hx
     ·exact hsw x hx
     ·rw[aq.mp hx]
      exact⟨r,r',hr,hr',λz=>by rw[z,beq_self_eq_true]at hc;cases hc⟩
  rintro env s ⟨sm,v6,rfl,rfl,hsw,hsl⟩;dsimp only;refine⟨U++ [.lst HL],sm.map zE,rfl,by rw[l1];exact ak _,?_⟩;rw[l1];have f1: ∀{y:PV},tX (st.length+1) y (some (.obj i))=some (.obj i):=λ{y} =>if_neg (by omega);have f2: ∀{y:PV},tX (st.length+1) y (some (.obj st.length))=some (.obj st.length):=λ{y} =>if_neg (by omega);have f3: ∀{y:PV},tX (st.length+1) y (some (.obj (st.length+1)))=some y:=λ{y} =>if_pos rfl;have f4: ∀{y:PV} {x:Str},tX (st.length+1) y (some (.str x))=some (.str x):=rfl;have f5: ∀{y:PV} {x:List PV},tX (st.length+1) y (some (.tup x))=some (.tup x):=rfl;unfold lN;simp? only[f1,f2,f3,f4,f5];have hsml:sm.length<=30:=by rw[tL]at hsl;omega
  refine pL (λenv s=> ∃(rs2:List Rh) (a b:Int) (v5 v6:Option PV),env= [some (.obj i),some (.tup [.tup (sh.map wS),.tup (hs.map xR)]),some (.obj st.length),some (.str h.1),some (.tup (rs2.map Rh.pv)),v5,v6]/\s=st.set i (z9 a b)++ [.lst HL]/\zZ a b/\zL rs2=zL h.2/\rs2.length<=30) (λN hN=> ?_) ?_
  ·simp? only[aa]
   by_cases hs0:sm= []
   ·subst hs0
    have hd:decide (0 < (([]:List Nat).length:Int))=false:=rfl;simp? only[hd];exact hN _ _ ⟨h.2,a,b,_,_,rfl,by rw[eU],hb,rfl,hrl⟩
   ·have hd:decide (0 < (sm.length:Int))=true:=decide_eq_true (by have:=fg.mpr hs0;omega)
    simp? only[hd];symm;simp? only[aa];refine⟨i,_,a,b,rfl,by rw[ax (by omega)];exact hUi,hb,by have:=fg.mpr hs0;omega,by omega,λd a2 b2 hd0 hd1 hb2=> ?_⟩;obtain⟨dn,rfl⟩: ∃dn:Nat,d=(dn:Int):=⟨d.toNat,by omega⟩;obtain⟨x,hx⟩: ∃x,sm[dn]?=some x:=⟨_,am (by omega)⟩;have hix:atI (sm.map zE) (dn:Int)=some (.int (x:Int)):=xJ (by rw[aw,hx];rfl);obtain⟨r,r',hpt,hr,hr',hne⟩:=(hsw x (ap.mpr ⟨dn,hx⟩)).parts;have hxl:x+1 < h.2.length:=(ad.mp hr').1;have ix0:atI (h.2.map Rh.pv) (x:Int)=some r.pv:=xJ (by rw[aw,hr];rfl);have ix1:atI (h.2.map Rh.pv) ((x:Int)+1)=some r'.pv:=by rw[show(x:Int)+1=((x+1:Nat):Int)from rfl];exact xJ (by rw[aw,hr'];rfl)
    have c1:w5 (h.2.map Rh.pv) none (some (x:Int))=(h.2.take x).map Rh.pv:=by rw[o0,lh]
    have c2:w5 (h.2.map Rh.pv) (some ((x:Int)+2)) none=(h.2.drop (x+2)).map Rh.pv:=by rw[show(x:Int)+2=((x+2:Nat):Int)from rfl,lE,nz]
    have no1:=zhM r;have no2:=zhM r';have hsi:(U++ [PO.lst HL]).set i (z9 a2 b2)=st.set i (z9 a2 b2)++ [PO.lst HL]:=by rw[ie _ _ (by omega),<- eU,my]
    rw[hsi];simp? only[hix];simp? only[c1,c2,ix0,ix1,no1,no2,aa,cf,fj,af];refine⟨by omega,by omega,hN _ _ ⟨h.2.take x++ [r',r]++h.2.drop (x+2),a2,b2,some (.lst (sm.map zE)),some (.int (x:Int)),?_,rfl,hb2,?_,?_⟩⟩
    ·rw[ao,ao];rfl
    ·rw[zkO hne,<- hpt]
    ·have:=congrArg List.length hpt
     simp only[af,cg,jm]at this⊢
     omega
  ·rintro env s ⟨rs2,a,b,v5,v6,rfl,rfl,hb,hc2,hl2⟩
   have wl:(st.set i (z9 a b)).length=st.length:=ci ..;have g3:(st.set i (z9 a b)++ [PO.lst HL])[st.length]?=some (.lst HL):=by rw[<- wl];exact qE
   have s3: ∀{z:PO},(st.set i (z9 a b)++ [PO.lst HL]).set st.length z=st.set i (z9 a b)++ [z]:=λ{z} =>by rw[<- wl];exact j0
   simp? only[g3,s3];refine⟨by omega,hs2++ [(h.1,rs2)],a,b,_,_,_,_,rfl,?_,hb,zkJ hcs hh hc2,λh' hh'=> ?_,by rw[af,hk2];rfl⟩
   ·rw[ao,<- eHL];rfl
   ·rcases av.mp hh' with z | z
    ·exact hr2 h' z
    ·rw[aq.mp z];exact hl2
 ·rintro env s ⟨hs2,a,b,v3,v4,v5,v6,rfl,rfl,hb,hcs,hr2,hk2⟩
  rw[aa,cc (ak _)]at hcs;have wl:(st.set i (z9 a b)).length=st.length:=ci ..;have g3: ∀{x:PO},(st.set i (z9 a b)++ [x])[st.length]?=some x:=λ{x} =>by rw[<- wl];exact qE
  have t3: ∀{x:PO},(st.set i (z9 a b)++ [x]).take st.length=st.set i (z9 a b):=λ{x} =>by rw[<- wl,cr (ak _),fk]
  simp? only[g3,t3];exact q hs2 a b hcs hr2 hb
theorem zmN:(["_law_box_here","_law_program_here","_law_due","_law_turn","_law_found","_law_onward_here","?6","_law_behind_here","_law_k","_law_other","_law_order_here","_law_one"]:List Str).Nodup:=by decide+kernel
theorem zn0 {f:Addr}{fd:FuncData}(M:Mo K mg)(F:yP K "_law_right" "_law_right" kN f fd):yG P w K mg base yH 5 f fd ["_law_box_here","_law_program_here"] (yC K zqq):=by
 obtain⟨_,_,mR,cK,zcc⟩:=M.stretches;have dA:= @zhd P w K mg base _ _ M mR;obtain⟨_,_,zdQ,zkq,zm7⟩:=M.ahead;have zj0:= @zn8 P w K mg base _ _ M zdQ;obtain⟨_,_,jM,cC,zca⟩:=M.is_order;have eS:= @znB P w K mg base _ _ M jM;obtain⟨_,_,zQ,zX,zY⟩:=M._law_take;have zW:= @vS P w K mg base _ _ M zQ;obtain⟨_,_,zdN,zkm,zm4⟩:=M._law_stretches;have zju:= @zn3 P w K mg base _ _ M zdN;obtain⟨_,_,zdI,zkh,zmz⟩:=M._law_onward;have zjp:= @znw P w K mg base _ _ M zdI;obtain⟨_,_,zdD,zkc,zmu⟩:=M._law_behind;have zjj:= @znq P w K mg base _ _ M zdD;obtain⟨_,_,zdJ,zki,zm0⟩:=M._law_order;have zjq:= @znx P w K mg base _ _ M zdJ;obtain⟨_,_,zdF,zke,zmw⟩:=M._law_good;have zjl:= @zns P w K mg base _ _ M zdF;obtain⟨_,_,zdK,zkj,zm1⟩:=M._law_others;have zjr:= @zny P w K mg base _ _ M zdK;obtain⟨_,_,zdO,zkn,zm5⟩:=M._law_stretches_right;have zjv:= @zn4 P w K mg base _ _ M zdO;obtain⟨_,_,eM,zes,zgD⟩:=M._law_truth;have zdW:= @zn6 P w K mg base _ _ M eM;refine xH 0 F rP (λxs st Q h=>by obtain⟨i,a,b,sh,hs,rfl,_⟩:=h;rfl) ⟨_,λcdv A outer s H E hr=>have hr1:zU 1 _:=hr.mono (by decide);have hr2:zU 2 _:=hr.mono (by decide);have hr4:zU 4 _:=hr.mono (by decide);(zA (qz 2 rP.nd (qk zju hr1 zm4 zdN zkm (z3 (qv 1) z4)))
   (zA (wO cm rfl (u7 (by rfl) M.range (z3 z7 z4)) (qn 3 rP.nd) (zA (qz 4 rP.nd (qk dA hr2 zcc mR cK (z3 (qv 1) z4)))
   (zA (yF (qH (tK (qk zjv hr1 zm5 zdO zkn (z3 (qv 4) (z3 (qv 2) z4))))) (zH (y3 vB)) yN)
   (zH (x9 (x8 bm bv bw (by decide) xX (qv 4) (z3 (yJ (z3 zJ (z3 z7 (z3 z7 z4)))) z4)))))))
   (zA (nX (i:=5) rP.nd rfl (Or.inr rfl) (qk zjp hr1 zmz zdI zkh (z3 (qv 1) (z3 (qv 2) z4))))
   (zA (nY (i0:=7) (own:= ["_law_one"]) (uF (fsc:=y4 kN) (N:= ["_law_box_here","_law_program_here","_law_due","_law_turn","_law_found","_law_onward_here","_law_one","_law_behind_here","_law_k","_law_other","_law_order_here"]) (N':= ["_law_box_here","_law_program_here","_law_due","_law_turn","_law_found","_law_onward_here","?6","_law_behind_here","_law_k","_law_other","_law_order_here"]) rfl rfl (by decide+kernel)) rP.nd rfl (Or.inl rfl) rfl (u7 (by rfl) M.range (z3 (yB yM (by rfl) M.len bu (z3 (qv 2) z4)) z4)) (λC s H fp pins=>(qn 11 zmN)) (λC s H fp pins=>sO) (λC s H fp pins=>(qk zjj hr1 zmu zdD zkc (z3 (qv 5) (z3 (qv 11) z4)))))
   (zA (wO cm rfl (u7 (by rfl) M.range (z3 z7 z4)) (qn 8 rP.nd) (zA (zhB (i:=6) (j:=9) rfl rP.nd rfl rfl (by decide) rfl rfl (z3 (qk zW hr1 zY zQ zX (z3 (qv 0) (z3 (yB yM (by rfl) M.len bu (z3 (qv 2) z4)) z4))) (z3 (qk zW hr1 zY zQ zX (z3 (qv 0) (z3 (yB yM (by rfl) M.len bu (z3 (qv 2) z4)) z4))) z4)) (by rfl))
   (zH (yF (qH (tK (qk zdW hr1 zgD eM zes (z3 (qk zj0 hr4 zm7 zdQ zkq (z3 (qv 1) (z3 (qv 6) (z3 (qv 9) z4)))) (z3 (vZ (rJ hr) (qv 9) (qx hr (qv 7) (qv 6)) (by rfl)) z4))))) (zH (y3 vB)) yN))))
   (zA (qz 10 rP.nd (qk zjq hr2 zm0 zdJ zki (z3 (qv 0) (z3 (qv 7) z4))))
   (zA (yF (qc zni (qk eS hr4 zca jM cC (z3 (qv 1) (z3 (qv 10) z4))) vB) (zH (y3 vB)) yN)
   (zA (wO cm rfl (uU (qk zjr hr2 zm1 zdK zkj (z3 (qv 0) (z3 (qv 10) z4)))) (qn 9 rP.nd) (zH (yF (qH (tK (qk zdW hr1 zgD eM zes (z3 (qk eS hr4 zca jM cC (z3 (qv 1) (z3 (qv 9) z4))) (z3 (qk zjl hr1 zmw zdF zke (z3 (qv 9) (z3 (qv 7) z4))) z4))))) (zH (y3 vB)) yN)))
   (zH (y3 (vZ znd (qk eS hr4 zca jM cC (z3 (qv 1) (z3 (qv 10) z4))) vB (sM _)))))))))))),λxs st Q h=> ?_⟩
 obtain⟨i,a,b,sh,hs,rfl,hi,hb,S,hN0,q⟩:=h;have hil:i < st.length:=(ad.mp hi).1;have big:(1000:Nat) < sizeLine:=by rw[cp];decide
 have hsz:=S.g.sz;have hst:st.set i (z9 a b)=st:=by
  obtain⟨h1,h2⟩:=ad.mp hi;rw[<- h2];exact jt h1
 obtain⟨lk,elk,H⟩:=zck S;obtain⟨rho,hrho⟩:=S.g.ac;have hrho': ∀u,∀v∈gr (zD hs) u,rho u < rho v:=λu v hv=>hrho u v (dY.mp hv);have hog: ∀{os:List Int},oY hs os↔jP (gr (zD hs)) (NN (zD hs)) os:=znX S;obtain⟨g,eg⟩: ∃g,gr (zD hs)=g:=⟨_,rfl⟩;rw[eg]at H hrho';obtain⟨PG,ePG⟩: ∃PG,vT sh hs=PG:=⟨_,rfl⟩;have hsl:(yK hs).length=NN (zD hs):=by unfold yK;rw[aa,uO]
 obtain⟨N,eN⟩: ∃N,NN (zD hs)=N:=⟨_,rfl⟩;rw[eN]at H hsz hN0 hsl;rw[ePG];have hci: ∀{b1 b2:Bool},(b1=true↔b2=true)->(b1==b2)=true:=λ{b1 b2} h=>by cases b1 <;> cases b2 <;> simp_all
 have gi: ∀{a b:Int} {G:z5},(st.set i (z9 a b)++G)[i]?=some (z9 a b):=λ{a b G} =>by rw[ax (by rw[ci];exact hil),dh hil]
 have si: ∀{a b a2 b2:Int} {G:z5},(st.set i (z9 a b)++G).set i (z9 a2 b2)=st.set i (z9 a2 b2)++G:=λ{a b a2 b2 G} =>by rw[ie _ _ (by rw[ci];exact hil),my]
 have ti: ∀{a b:Int} {G:z5},(st.set i (z9 a b)++G).take st.length=st.set i (z9 a b):=λ{a b G} =>by rw[cr (by rw[ci];exact ak _),cc (by rw[ci];exact ak _)]
 symm
 ac_nf
 refine⟨sh,hs,by rw[ePG],S.hl,S.rl,?_⟩;symm
 ac_nf
 refine wL (λk env s=> ∃(G:z5) (v3 v4:Option PV),env= [some (.obj i),some PG,some (.lst (yK hs)),v3,v4,none,none,none,none,none,none]/\s=st++G) ⟨[],none,none,rfl,by simp⟩ ?_ ?_
 ·rintro k x env s hx ⟨G,v3,v4,rfl,rfl⟩
  ac_nf
  symm
  ac_nf
  refine⟨sh,hs,by rw[ePG],S.hl,S.rl,?_⟩;symm
  ac_nf
  refine⟨_,hs,rfl,qE,?_⟩
  ac_nf
  refine⟨by omega,G++ [.lst (yK hs++ [.tup [.str "a",.int 0,.int 0]])],_,_,rfl,by rw[au]⟩
 rintro env s ⟨G,v3,v4,rfl,rfl⟩;have e0:st++G=st.set i (z9 a b)++G:=by rw[hst]
 rw[e0]
 ac_nf
 refine⟨sh,hs,by rw[ePG],S,?_⟩;rw[elk];symm;simp? only[hsl];refine⟨by omega,λk ys env s=> ∃(ms:Nat->List Nat) (v:Option PV),env= [some (.obj i),some PG,some (.lst (yK hs)),v3,v4,some (.lst lk),none,none,none,none,none,v]/\s=st.set i (z9 a b)++G/\ys=(List.range k).map (λj=> .dct (xS (ms j)))/\∀j,j < k->∀x,x∈ms j↔Rn g j x,⟨λ_=> [],none,rfl,rfl,rfl,λj h=>absurd h (mo _)⟩,?_,?_⟩
 ·rintro k x ys env s hx ⟨ms,v,rfl,rfl,rfl,hms⟩
  obtain⟨hk,rfl⟩:=u8 hx
  ac_nf
  refine⟨lk,g,N,k,by rw[gt,zE],H,by omega,λm hm=> ?_⟩
  ac_nf
  refine⟨λj=>if j=k then m else ms j,_,rfl,?_,λj hj x=> ?_⟩
  ·rw[gv,ao,pk]
   dsimp only;rw[if_pos rfl]
   congr 1
   refine im λj hj=> ?_;rw[if_neg (by have:=dk.mp hj;omega)]
  ·dsimp only
   by_cases e:j=k
   ·rw[if_pos e,e];exact hm x
   ·rw[if_neg e];exact hms j (by omega) x
 rintro ys env s ⟨ms,v,rfl,rfl,rfl,hms⟩;rw[tL,dj,hsl]at hms⊢
 obtain⟨bh,ebh⟩: ∃bh,(List.range N).map (λj=>PV.dct (xS (ms j)))=bh:=⟨_,rfl⟩;have HB:Bh bh ms g N:=⟨by rw[<- ebh,aa,dz],λj hj=>by rw[<- ebh,aw,il hj];rfl,hms,hsz⟩;rw[ebh]
 ac_nf
 symm
 ac_nf
 refine wL (λk env s=> ∃(a b:Int) (v6 v8 v9:Option PV),env= [some (.obj i),some PG,some (.lst (yK hs)),v3,v4,some (.lst lk),v6,some (.lst bh),v8,v9,none]/\s=st.set i (z9 a b)++G/\zZ a b) ⟨a,b,_,_,_,rfl,rfl,hb⟩ ?_ ?_
 ·rintro k x env s hx ⟨a,b,v6,v8,v9,rfl,rfl,hb⟩
  ac_nf
  symm;simp? only[hsl];refine⟨i,_,a,b,rfl,gi,hb,by omega,by omega,λd a b h0 h1 hb=> ?_⟩;rw[si];simp? only[hsl];refine⟨i,_,a,b,rfl,gi,hb,by omega,by omega,λd2 a b h02 h12 hb=> ?_⟩;rw[si];obtain⟨n1,rfl⟩: ∃n:Nat,d=(n:Int):=⟨d.toNat,by omega⟩;obtain⟨n2,rfl⟩: ∃n:Nat,d2=(n:Int):=⟨d2.toNat,by omega⟩;have hbx:=HB.ix (i:=n1) (by omega)
  ac_nf
  refine⟨sh,hs,n1,n2,by rw[ePG],S,by rw[eN];omega,λb1 hb1=> ?_⟩;rw[eg]at hb1;simp? only[hbx,zbE];refine⟨b1,decide (n2∈ms n1),rfl,?_⟩;rw[hci (hb1.trans ((HB.rn n1 (by omega) n2).symm.trans decide_eq_true_iff.symm))]
  ac_nf
  exact⟨_,_,_,_,_,rfl,rfl,hb⟩
 rintro env s ⟨a,b,v6,v8,v9,rfl,rfl,hb⟩
 ac_nf
 refine⟨i,a,b,bh,ms,g,N,rho,rfl,gi,hb,HB,hrho',λl a b hp hgd hb=> ?_⟩;rw[si];have hll:l.length=N:=by rw[hp.length_eq,dz]
 have hord:oY hs (yL l):=hog.mpr ⟨l,rfl,by rw[eN];exact hp,by rw[eg];exact hgd⟩;symm
 ac_nf
 refine⟨sh,hs,yL l,by rw[ePG],S,by rw[pP];omega,λb1 hb1=> ?_⟩;rw[hb1.mpr hord];simp? only[zeP];symm
 ac_nf
 refine⟨i,a,b,yL l,rfl,gi,hb,by rw[pP];omega,by rw[pP];omega,λoss a b ho hb=> ?_⟩;rw[si]
 ac_nf
 refine wL (λk env s=> ∃(v9:Option PV),env= [some (.obj i),some PG,some (.lst (yK hs)),v3,v4,some (.lst lk),v6,some (.lst bh),v8,v9,some (.tup ((yL l).map PV.int))]/\s=st.set i (z9 a b)++G) ⟨_,rfl,rfl⟩ ?_ ?_
 ·rintro k x env s hx ⟨v9,rfl,rfl⟩
  obtain⟨os,hos,rfl⟩:=vX hx;have h64:=ho os (ap.mpr ⟨k,hos⟩);unfold j8
  ac_nf
  refine⟨sh,hs,os,by rw[ePG],S,h64,λb1 hb1=> ?_⟩
  ac_nf
  refine⟨os,bh,ms,g,N,rfl,HB,h64,λb2 hb2=> ?_⟩
  ac_nf
  refine⟨b1,b2,rfl,?_⟩;rw[hog,eg,eN]at hb1;rw[hci (hb1.trans hb2.symm)]
  ac_nf
  exact⟨_,rfl⟩
 rintro env s ⟨v9,rfl,rfl⟩
 ac_nf
 refine⟨sh,hs,yL l,by rw[ePG],S,by rw[pP];omega,λb1 hb1=> ?_⟩;rw[hb1.mpr hord];simp? only[zeP,ti];exact q a b hb
theorem znC {f:Addr}{fd:FuncData}(M:Mo K mg)(F:yP K "law" "law" zdd f fd):yG P w K mg base yH 23 f fd ["_law_script"] (yC K j3):=by
 obtain⟨_,_,qN,l3,lW⟩:=M._law_box;have mS:= @zci P w K mg base _ _ M qN;obtain⟨_,_,zdL,zkk,zm2⟩:=M._law_program;have zjs:= @znz P w K mg base _ _ M zdL;obtain⟨_,_,zdM,zkl,zm3⟩:=M._law_shifted;have zjt:= @zn2 P w K mg base _ _ M zdM;obtain⟨_,_,jI,c8,zbX⟩:=M._law_right;have eQ:= @zn0 P w K mg base _ _ M jI;refine xH 0 F zcY (λxs st Q h=>by obtain⟨ns,rfl,_⟩:=h;rfl) ⟨_,λcdv A outer s H E hr=>have hr1:zU 1 _:=hr.mono (by decide);have hr2:zU 2 _:=hr.mono (by decide);have hr5:zU 5 _:=hr.mono (by decide);have hr22:zU 22 _:=hr.mono (by decide);(zA (qz 1 zcY.nd (qk zjs hr22 zm2 zdL zkk (z3 (qv 0) (z3 z7 (z3 (u3 (z3 zJ (z3 zJ z4))) (z3 vB (z3 z7 z4)))))))
   (zA (qz 2 zcY.nd (qk mS hr1 lW qN l3 (z3 (qv 0) (z3 z7 z4))))
   (zA (yF (PW.pt (oG (qH (tK (qk eQ hr5 zbX jI c8 (z3 (qv 2) (z3 (qv 1) z4))))) (nZ (qH (tK (qk eQ hr5 zbX jI c8 (z3 (qv 2) (z3 (qk zjt hr2 zm3 zdM zkl (z3 (qv 2) (z3 (qv 1) z4))) z4)))))))) (zH (y3 vB)) yN)
   (zH (y3 (qk eQ hr5 zbX jI c8 (z3 (qv 2) (z3 (qv 1) z4)))))))),λxs st Q h=> ?_⟩
 obtain⟨ns,rfl,rfl,hl,q⟩:=h;symm
 ac_nf
 refine⟨ns,8,rfl,rfl,hl,by decide,by decide,λsh h0 hs O HK=> ?_⟩;obtain⟨en,rk,G,sr⟩:=HK;have S:=zo7 G sr O.hn O.rl O.hl;have hN0:0 < NN (zD (h0::hs)):=bc (Nat.succ_pos _) (rg _ _);symm
 ac_nf
 refine⟨ns,0,rfl,hl,by decide,λa b hb=> ?_⟩;symm
 ac_nf
 refine⟨0,a,b,sh,h0::hs,rfl,rfl,hb,S,hN0,λa b hb=> ?_⟩
 ac_nf
 refine⟨0,a,b,sh,h0::hs,rfl,rfl,hb,S.hl,S.rl,λhs' a b hcs hrl hb=> ?_⟩
 ac_nf
 refine⟨0,a,b,sh,hs',rfl,rfl,hb,zo8 S hcs hrl,by rw[hcs];exact hN0,λa b hb=> ?_⟩
 ac_nf
 refine⟨0,a,b,sh,h0::hs,rfl,rfl,hb,S,hN0,λa b hb=> ?_⟩
 ac_nf
 exact q _
end
theorem nE {us:List Value}(h:us.length=1): ∃x0,us= [x0]:=by
 rcases us with _ | ⟨x0,_ | ⟨y,us⟩⟩ <;> first | exact⟨x0,rfl⟩ | (simp at h;done)
theorem uE {us:List Value}(h:us.length=2): ∃x0 x1,us= [x0,x1]:=by
 rcases us with _ | ⟨x0,_ | ⟨x1,_ | ⟨y,us⟩⟩⟩ <;> first | exact⟨x0,x1,rfl⟩ | (simp at h;done)
theorem l5 {us:List Value}(h:us.length=3): ∃x0 x1 x2,us= [x0,x1,x2]:=by
 rcases us with _ | ⟨x0,_ | ⟨x1,_ | ⟨x2,_ | ⟨y,us⟩⟩⟩⟩ <;> first | exact⟨x0,x1,x2,rfl⟩ | (simp at h;done)
theorem iB {us:List Value}(h:us.length=4): ∃x0 x1 x2 x3,us= [x0,x1,x2,x3]:=by
 rcases us with _ | ⟨x0,_ | ⟨x1,_ | ⟨x2,_ | ⟨x3,_ | ⟨y,us⟩⟩⟩⟩⟩ <;> first | exact⟨x0,x1,x2,x3,rfl⟩ | (simp at h;done)
theorem zkt {us:List Value}(h:us.length=5): ∃x0 x1 x2 x3 x4,us= [x0,x1,x2,x3,x4]:=by
 rcases us with _ | ⟨x0,_ | ⟨x1,_ | ⟨x2,_ | ⟨x3,_ | ⟨x4,_ | ⟨y,us⟩⟩⟩⟩⟩⟩ <;> first | exact⟨x0,x1,x2,x3,x4,rfl⟩ | (simp at h;done)
def Dg (K:Frag)(x:Str)(st:Stmt):Prop:= ∃(f:Addr) (od an:Option Addr) (sl:Array (Option Value)) (oc kV dc pm cd ct:Value),nsIn K mainGlobals x=some (some (.ref f))/\K.lookup f=some ⟨oc,od,.func (fnOf x x (nG st) (qU st) (y4 st) .none kV dc pm an cd ct),sl⟩/\codeIn K cd x=true/\keepIn K (.ref f)=true
theorem Dg.go {K:Frag}{h:Heap}{mg:Str->Option Value}{x:Str}{st:Stmt}{ps:List Str}(d:Dg K x st)(X:K.In h)(G:h.Ns mainGlobals mg)(hb: ∀f fd,yP K x x st f fd->tP K fd ps []): ∃f fd,yP K x x st f fd/\tP K fd ps []/\mg x=some (.ref f):=by
 obtain⟨f,_,_,_,_,_,_,_,_,_,a,l,c,k⟩:=d;exact⟨f,_,zb8 l c k,hb _ _ (zb8 l c k),mg_of X G a⟩
theorem all_mk {l:PySem.W.OpenLaw}{w:World}{K:Frag}{h:Heap}{mg:Str->Option Value}{fa:Addr}(X:K.In h)(G:h.Ns mainGlobals mg)(hfa:mg "law" =some (.ref fa))
  (d1:Dg K "deed_of" fL)
  (d2:Dg K "come_to" fK)
  (d3:Dg K "stretches" fO)
  (d4:Dg K "straight_behind" j5)
  (d5:Dg K "ahead" fH)
  (d6:Dg K "is_order" mE)
  (d7:Dg K "_law_box" gX)
  (d8:Dg K "_law_take" fD)
  (d9:Dg K "_law_words" kQ)
  (d10:Dg K "_law_number" f9)
  (d11:Dg K "_law_term" fE)
  (d12:Dg K "_law_any_term" gV)
  (d13:Dg K "_law_manner" f8)
  (d14:Dg K "_law_begin" kK)
  (d15:Dg K "_law_leaves" f7)
  (d16:Dg K "_law_deed" gY)
  (d17:Dg K "_law_row" fB)
  (d18:Dg K "_law_join" f6)
  (d19:Dg K "_law_hand" gZ)
  (d20:Dg K "_law_three_words" fF)
  (d21:Dg K "_law_program" mB)
  (d22:Dg K "_law_stretches" kO)
  (d23:Dg K "_law_onward" oM)
  (d24:Dg K "_law_behind" gW)
  (d25:Dg K "_law_order" m9)
  (d26:Dg K "_law_good" kL)
  (d27:Dg K "_law_others" fA)
  (d28:Dg K "_law_stretches_right" kP)
  (d29:Dg K "_law_truth" fG)
  (d30:Dg K "_law_shifted" fC)
  (d31:Dg K "_law_right" kN)
  (dl:Dg K "law" zdd) (zn: ∀x∈(["len","int","range","tuple","isinstance","bool","str","dict","list","sorted","min","max","all","set","enumerate","reversed","any","zip"]:List Str),nsIn K mainGlobals x=some none):
  ∃fd:FuncData,(∀(s:Shared) (v:Value),BindsTo s fd ⟨[v],[]⟩ [("_law_script",v)])/\∀base:Heap,K.In base->base.Ns mainGlobals mg->yG l.prog w K mg base yH 23 fa fd ["_law_script"] (yC K j3):=by
 have z: ∀x∈(["len","int","range","tuple","isinstance","bool","str","dict","list","sorted","min","max","all","set","enumerate","reversed","any","zip"]:List Str),mg x=none:=λx m=>PySem.W.mg_none_of X G (zn x m);have M:Mo K mg:=⟨z _ (by simp),z _ (by simp),z _ (by simp),z _ (by simp),z _ (by simp),z _ (by simp),z _ (by simp),z _ (by simp),z _ (by simp),z _ (by simp),z _ (by simp),z _ (by simp),z _ (by simp),z _ (by simp),z _ (by simp),z _ (by simp),z _ (by simp),z _ (by simp),d1.go X G λ_ _ F=>F.binds λ_ _ _ _ _ _ us hl=>by obtain⟨x0,rfl⟩:=nE hl;rfl,d2.go X G λ_ _ F=>F.binds λ_ _ _ _ _ _ us hl=>by obtain⟨x0,x1,rfl⟩:=uE hl;rfl,d3.go X G λ_ _ F=>F.binds λ_ _ _ _ _ _ us hl=>by obtain⟨x0,rfl⟩:=nE hl;rfl,d4.go X G λ_ _ F=>F.binds λ_ _ _ _ _ _ us hl=>by obtain⟨x0,rfl⟩:=nE hl;rfl,d5.go X G λ_ _ F=>F.binds λ_ _ _ _ _ _ us hl=>by obtain⟨x0,x1,x2,rfl⟩:=l5 hl;rfl,d6.go X G λ_ _ F=>F.binds λ_ _ _ _ _ _ us hl=>by obtain⟨x0,x1,rfl⟩:=uE hl;rfl,d7.go X G λ_ _ F=>F.binds λ_ _ _ _ _ _ us hl=>by obtain⟨x0,x1,rfl⟩:=uE hl;rfl,d8.go X G λ_ _ F=>F.binds λ_ _ _ _ _ _ us hl=>by obtain⟨x0,x1,rfl⟩:=uE hl;rfl,d9.go X G λ_ _ F=>F.binds λ_ _ _ _ _ _ us hl=>by obtain⟨x0,x1,rfl⟩:=uE hl;rfl,d10.go X G λ_ _ F=>F.binds λ_ _ _ _ _ _ us hl=>by obtain⟨x0,rfl⟩:=nE hl;rfl,d11.go X G λ_ _ F=>F.binds λ_ _ _ _ _ _ us hl=>by obtain⟨x0,x1,x2,x3,rfl⟩:=iB hl;rfl,d12.go X G λ_ _ F=>F.binds λ_ _ _ _ _ _ us hl=>by obtain⟨x0,x1,rfl⟩:=uE hl;rfl,d13.go X G λ_ _ F=>F.binds λ_ _ _ _ _ _ us hl=>by obtain⟨x0,x1,x2,rfl⟩:=l5 hl;rfl,d14.go X G λ_ _ F=>F.binds λ_ _ _ _ _ _ us hl=>by obtain⟨x0,x1,x2,rfl⟩:=l5 hl;rfl,d15.go X G λ_ _ F=>F.binds λ_ _ _ _ _ _ us hl=>by obtain⟨x0,x1,x2,rfl⟩:=l5 hl;rfl,d16.go X G λ_ _ F=>F.binds λ_ _ _ _ _ _ us hl=>by obtain⟨x0,x1,x2,x3,rfl⟩:=iB hl;rfl,d17.go X G λ_ _ F=>F.binds λ_ _ _ _ _ _ us hl=>by obtain⟨x0,x1,x2,rfl⟩:=l5 hl;rfl,d18.go X G λ_ _ F=>F.binds λ_ _ _ _ _ _ us hl=>by obtain⟨x0,x1,x2,x3,rfl⟩:=iB hl;rfl,d19.go X G λ_ _ F=>F.binds λ_ _ _ _ _ _ us hl=>by obtain⟨x0,x1,x2,x3,rfl⟩:=iB hl;rfl,d20.go X G λ_ _ F=>F.binds λ_ _ _ _ _ _ us hl=>by obtain⟨x0,rfl⟩:=nE hl;rfl,d21.go X G λ_ _ F=>F.binds λ_ _ _ _ _ _ us hl=>by obtain⟨x0,x1,x2,x3,x4,rfl⟩:=zkt hl;rfl,d22.go X G λ_ _ F=>F.binds λ_ _ _ _ _ _ us hl=>by obtain⟨x0,rfl⟩:=nE hl;rfl,d23.go X G λ_ _ F=>F.binds λ_ _ _ _ _ _ us hl=>by obtain⟨x0,x1,rfl⟩:=uE hl;rfl,d24.go X G λ_ _ F=>F.binds λ_ _ _ _ _ _ us hl=>by obtain⟨x0,x1,rfl⟩:=uE hl;rfl,d25.go X G λ_ _ F=>F.binds λ_ _ _ _ _ _ us hl=>by obtain⟨x0,x1,rfl⟩:=uE hl;rfl,d26.go X G λ_ _ F=>F.binds λ_ _ _ _ _ _ us hl=>by obtain⟨x0,x1,rfl⟩:=uE hl;rfl,d27.go X G λ_ _ F=>F.binds λ_ _ _ _ _ _ us hl=>by obtain⟨x0,x1,rfl⟩:=uE hl;rfl,d28.go X G λ_ _ F=>F.binds λ_ _ _ _ _ _ us hl=>by obtain⟨x0,x1,rfl⟩:=uE hl;rfl,d29.go X G λ_ _ F=>F.binds λ_ _ _ _ _ _ us hl=>by obtain⟨x0,x1,rfl⟩:=uE hl;rfl,d30.go X G λ_ _ F=>F.binds λ_ _ _ _ _ _ us hl=>by obtain⟨x0,x1,rfl⟩:=uE hl;rfl,d31.go X G λ_ _ F=>F.binds λ_ _ _ _ _ _ us hl=>by obtain⟨x0,x1,rfl⟩:=uE hl;rfl⟩;obtain⟨f,_,_,_,_,_,_,_,_,_,e,l,c,k⟩:=dl;cases hfa.symm.trans (mg_of X G e);exact⟨_,λs v=> .of_eq rfl,λbase _ _=>znC M (zb8 l c k)⟩
theorem zmj {K:Frag}{H:Hp}{a:Addr}{ns:List Int}(hl:ns.length<=63)(hS:yE K H a (ns.map V.int)){E:XK} :yC K j3 [.ref a] H (λv _=>v= .bl true) E:=by
 refine⟨[],[],[.lst (ns.map PV.int)],λr _=>r= .bl true,⟨by simp,rfl,λi a o h=>by cases h⟩,.cons (.val (.lst (hS.imp (λh=>⟨h,by simp⟩) id) ?_ (iX ns))) .nil,⟨ns,rfl,rfl,hl,λ_=>rfl⟩,λA' H' st' r v g s e q=> ?_⟩
 ·rw[aa];exact bq hl (by decide)
 ·subst q;exact zex e
theorem walk {l:PySem.W.OpenLaw}{q:Program}{loose:List Str}{XP:(Str->Option Value)->Heap->Prop}{YP:World->Heap->Prop}{d:DefRec}{K:Params->Frag}(hn:l.most=some 63)(hdf:d.params.defaults= [])
  (hY: ∀(w:World) (h:Heap),YP w h->(K w.params).In h)
  (F: ∀(w:World) (mg:Str->Option Value) (fa:Addr) (h:Heap),(K w.params).In h->h.Ns mainGlobals mg->mg d.name=some (.ref fa)->
   ∃fd:FuncData,(∀(s:Shared) (u:Value),BindsTo s fd ⟨[u],[]⟩ [("_law_script",u)])/\∀base:Heap,(K w.params).In base->base.Ns mainGlobals mg->yG l.prog w (K w.params) mg base yH 23 fa fd ["_law_script"] (yC (K w.params) j3)):
  PySem.W.WalkO q loose XP YP l.row.toRowW d [] (λf vs=>PySem.call f vs):=
 L2.walk_of (n:=63) (k:=23) (x:= "_law_script") (CX:=λ_=>yH) (sp:=λw=>yC (K w.params) j3) hn (by decide) hdf ⟨rfl,by decide,by decide⟩ hY F (λ_ _ a ns hl _ hS=>zmj hl hS) λ_ _ _ _ _ z=>z
end N61
set_option maxHeartbeats 0
namespace Hd
noncomputable section
open PySem PySem.W L2
abbrev pg:Program:=PySem.Challenge.pw_copiedhouse_k61_stretches
def tp (i:Nat):Stmt:=pg.main.body.getD i (.Pass ⟨0,0,0,0⟩)
def en (P:Params)(x:Str)(t:Nat)(v:Value):DictEntry:=⟨PyData.keyHash P x,.str x t,v⟩
def tu (l:List Value):Obj:=⟨.type "tuple",none,.seq l.toArray 0,#[]⟩
def fl (l:List Value):Obj:=⟨.none,none,.fields l.toArray,#[]⟩
def co (l:List Value):Obj:=⟨.type "code",none,.fields l.toArray,#[]⟩
def fn (n q:Str)(s:Stmt)(g:Nat)(cl:List (Str×Addr))(d k dc pm:Value)(an:Option Addr)(cd ct:Value)(b:Nat):FuncData:= {name:=n,qualname:=q,params:=nG s,body:= .stmts (qU s),scope:=y4 s,globals:=g,closure:=cl,defaults:=d,kwdefaults:=k,doc:=dc,pyModule:=pm,annotations:=an,code:=cd,closureTuple:=ct,builtins:=b}
def fu (f:FuncData):Obj:=⟨.type "function",none,.func f,#[]⟩
def fp (f:FuncData):Obj:=⟨.none,none,.func f,#[]⟩
def li:Life:= {}
abbrev an:Option Value:=some (.ref 6)
def ev:Env:= {scope:=pg.main.scope,locals:=mainNs,globals:=mainNs,cells:= [],code:= .ref 13,frame:=some 14}
abbrev cE:Code:= .body (behindTheImports pg) ev
abbrev B:List Frame:= [topFrame ⟨0,0,0,0⟩]
abbrev gs:Array GenState:=Array.mk []
def xC (n q:Str)(t l a b r r2:Nat)(x y z:Value)(f k:Nat):Obj:=co [.str n t,.str q (t+1),.str "/claim/cut.py" (t+2),.int l 0,.int a 0,.int 0 0,.int 0 0,.int 3 0,.ref r,.bool true,.int b 0,.ref r2,x,y,z,.ref f,.int k 0,.int l 0,.str "/claim/cut.py" (k+1)]
def xD (n q:Str)(s:Stmt):Obj:=fp (fn n q s 0 [] .none .none .none .none none .none .none 0)
def xE (n q:Str)(s:Stmt)(m:Str)(t c:Nat):Obj:=fu (fn n q s 3 [] .none .none .none (.str m t) none (.ref c) .none 0)
def dc (l:List DictEntry)(n:Nat):Obj:=⟨.type "dict",none,.dict l.toArray n,#[]⟩
abbrev lf (o:Obj):BT:= .node o .nil .nil
def f3 (P:Params):Obj:=dc [en P "__name__" 165 (.str "law_copiedhouse_k61_stretches" 245),en P "__doc__" 166 (.none),en P "__package__" 167 (.none),en P "__loader__" 168 (.builtin "__main__.__loader__#opaque"),en P "__spec__" 169 (.none),en P "__annotations__" 170 (.ref 6),en P "__builtins__" 171 (.ref 4),en P "__file__" 173 (.str "/claim/cut.py" 172),en P "__cached__" 174 (.none),en P "deed_of" 195 (.ref 21),en P "come_to" 209 (.ref 28),en P "stretches" 223 (.ref 35),en P "straight_behind" 229 (.ref 40),en P "ahead" 238 (.ref 47),en P "is_order" 244 (.ref 52),en P "_law_box" 256 (.ref 59),en P "_law_take" 266 (.ref 66),en P "_law_words" 272 (.ref 71),en P "_law_number" 280 (.ref 78),en P "_law_term" 295 (.ref 85),en P "_law_any_term" 304 (.ref 92),en P "_law_manner" 316 (.ref 99),en P "_law_begin" 322 (.ref 104),en P "_law_leaves" 335 (.ref 111),en P "_law_deed" 350 (.ref 118),en P "_law_row" 363 (.ref 125),en P "_law_join" 374 (.ref 132),en P "_law_hand" 391 (.ref 139),en P "_law_three_words" 404 (.ref 146),en P "_law_program" 410 (.ref 151),en P "_law_stretches" 416 (.ref 156),en P "_law_onward" 422 (.ref 161),en P "_law_behind" 433 (.ref 168),en P "_law_order" 439 (.ref 173),en P "_law_good" 445 (.ref 178),en P "_law_others" 457 (.ref 185),en P "_law_stretches_right" 463 (.ref 190),en P "_law_truth" 471 (.ref 197),en P "_law_shifted" 484 (.ref 204),en P "_law_right" 490 (.ref 209),en P "law" 499 (.ref 216)] 41
def iP:Obj:=tu []
def f12:Obj:=fl [.int 2 0,.int 0 0,.ref 20,.int 9 0,.int 0 0,.ref 27,.int 20 0,.int 0 0,.ref 34,.int 30 0,.int 0 0,.ref 39,.int 49 0,.int 0 0,.ref 46,.int 51 0,.int 0 0,.ref 51,.int 61 0,.int 0 0,.ref 58,.int 69 0,.int 0 0,.ref 65,.int 77 0,.int 0 0,.ref 70,.int 94 0,.int 0 0,.ref 77,.int 101 0,.int 0 0,.ref 84,.int 115 0,.int 0 0,.ref 91,.int 118 0,.int 0 0,.ref 98,.int 127 0,.int 0 0,.ref 103,.int 141 0,.int 0 0,.ref 110,.int 149 0,.int 0 0,.ref 117,.int 164 0,.int 0 0,.ref 124,.int 173 0,.int 0 0,.ref 131,.int 177 0,.int 0 0,.ref 138,.int 198 0,.int 0 0,.ref 145,.int 209 0,.int 0 0,.ref 150,.int 224 0,.int 0 0,.ref 155,.int 231 0,.int 0 0,.ref 160,.int 244 0,.int 0 0,.ref 167,.int 253 0,.int 0 0,.ref 172,.int 262 0,.int 0 0,.ref 177,.int 269 0,.int 0 0,.ref 184,.int 278 0,.int 0 0,.ref 189,.int 287 0,.int 0 0,.ref 196,.int 289 0,.int 0 0,.ref 203,.int 301 0,.int 0 0,.ref 208,.int 321 0,.int 0 0,.ref 215]
def iQ:Obj:=co [.str "<module>" 182,.str "<module>" 183,.str "/claim/cut.py" 184,.int 1 0,.int 0 0,.int 0 0,.int 0 0,.int 0 0,.ref 11,.bool false,.int 181 0,.ref 12,.none,.none,.none,.none,.int 185 0,.int 1 0,.str "/claim/cut.py" 186]
def iR:Obj:=⟨.type "frame",none,.plain,#[some (.ref 13),some (.ref 3),some (.ref 3),none,some (.str "__main__" 164),none,some (.ref 0)]⟩
def aI:Obj:=tu []
def f16:Obj:=fl []
def aX:Obj:=tu [.str "row" 192]
def f18:Obj:=tu []
def f19:Obj:=xD "deed_of" "deed_of" (tp 1)
def f20:Obj:=xC "deed_of" "deed_of" 189 2 1 181 15 16 .none (.ref 17) (.ref 18) 19 193
def f21:Obj:=xE "deed_of" "deed_of" (tp 1) "copiedhouse.forms" 187 20
def f22:Obj:=tu []
def f23:Obj:=fl []
def f24:Obj:=tu [.str "links" 201,.str "one" 202,.str "met" 203,.str "waiting" 204,.str "last" 205,.str "other" 206]
def f25:Obj:=tu []
def f26:Obj:=xD "come_to" "come_to" (tp 3)
def f27:Obj:=xC "come_to" "come_to" 198 9 2 181 22 23 .none (.ref 24) (.ref 25) 26 207
def f28:Obj:=xE "come_to" "come_to" (tp 3) "copiedhouse.lists" 196 27
def f29:Obj:=tu []
def f30:Obj:=fl []
def f31:Obj:=tu [.str "program" 215,.str "told" 216,.str "hand" 217,.str "first" 218,.str "number" 219,.str "row" 220]
def f32:Obj:=tu []
def f33:Obj:=xD "stretches" "stretches" (tp 5)
def f34:Obj:=xC "stretches" "stretches" 212 20 1 181 29 30 .none (.ref 31) (.ref 32) 33 221
def f35:Obj:=xE "stretches" "stretches" (tp 5) "copiedhouse.stretches" 210 34
def f36:Obj:=tu []
def f37:Obj:=fl []
def f38:Obj:=xD "straight_behind" "straight_behind" (tp 6)
def f39:Obj:=xC "straight_behind" "straight_behind" 224 30 1 181 36 37 .none .none .none 38 227
def f40:Obj:=xE "straight_behind" "straight_behind" (tp 6) "copiedhouse.stretches" 210 39
def f41:Obj:=tu []
def f42:Obj:=fl []
def f43:Obj:=tu [.str "program" 233,.str "one" 234,.str "other" 235]
def f44:Obj:=tu []
def f45:Obj:=xD "ahead" "ahead" (tp 7)
def f46:Obj:=xC "ahead" "ahead" 230 49 3 181 41 42 .none (.ref 43) (.ref 44) 45 236
def f47:Obj:=xE "ahead" "ahead" (tp 7) "copiedhouse.stretches" 210 46
def f48:Obj:=tu []
def f49:Obj:=fl []
def f50:Obj:=xD "is_order" "is_order" (tp 8)
def f51:Obj:=xC "is_order" "is_order" 239 51 2 181 48 49 .none .none .none 50 242
def f52:Obj:=xE "is_order" "is_order" (tp 8) "copiedhouse.stretches" 210 51
def f53:Obj:=tu []
def f54:Obj:=fl []
def f55:Obj:=tu [.str "_law_script" 250,.str "_law_k" 251,.str "_law_cell" 252,.str "_law_seed" 253]
def f56:Obj:=tu []
def f57:Obj:=xD "_law_box" "_law_box" (tp 10)
def f58:Obj:=xC "_law_box" "_law_box" 247 61 2 181 53 54 .none (.ref 55) (.ref 56) 57 254
def f59:Obj:=xE "_law_box" "_law_box" (tp 10) "law_copiedhouse_k61_stretches" 245 58
def f60:Obj:=tu []
def f61:Obj:=fl []
def f62:Obj:=tu [.str "_law_box_here" 260,.str "_law_many" 261,.str "_law_digit" 262,.str "_law_one" 263]
def f63:Obj:=tu []
def f64:Obj:=xD "_law_take" "_law_take" (tp 11)
def f65:Obj:=xC "_law_take" "_law_take" 257 69 2 181 60 61 .none (.ref 62) (.ref 63) 64 264
def f66:Obj:=xE "_law_take" "_law_take" (tp 11) "law_copiedhouse_k61_stretches" 245 65
def f67:Obj:=tu []
def f68:Obj:=fl []
def f69:Obj:=xD "_law_words" "_law_words" (tp 12)
def f70:Obj:=xC "_law_words" "_law_words" 267 77 2 181 67 68 .none .none .none 69 270
def f71:Obj:=xE "_law_words" "_law_words" (tp 12) "law_copiedhouse_k61_stretches" 245 70
def f72:Obj:=tu []
def f73:Obj:=fl []
def f74:Obj:=tu [.str "_law_box_here" 276,.str "_law_form" 277]
def f75:Obj:=tu []
def f76:Obj:=xD "_law_number" "_law_number" (tp 13)
def f77:Obj:=xC "_law_number" "_law_number" 273 94 1 181 72 73 .none (.ref 74) (.ref 75) 76 278
def f78:Obj:=xE "_law_number" "_law_number" (tp 13) "law_copiedhouse_k61_stretches" 245 77
def f79:Obj:=tu []
def f80:Obj:=fl []
def f81:Obj:=tu [.str "_law_box_here" 284,.str "_law_leaves_here" 285,.str "_law_room" 286,.str "_law_deep" 287,.str "_law_form" 288,.str "_law_third" 289,.str "_law_one" 290,.str "_law_other" 291,.str "_law_half" 292]
def f82:Obj:=tu []
def f83:Obj:=xD "_law_term" "_law_term" (tp 14)
def f84:Obj:=xC "_law_term" "_law_term" 281 101 4 181 79 80 .none (.ref 81) (.ref 82) 83 293
def f85:Obj:=xE "_law_term" "_law_term" (tp 14) "law_copiedhouse_k61_stretches" 245 84
def f86:Obj:=tu []
def f87:Obj:=fl []
def f88:Obj:=tu [.str "_law_box_here" 299,.str "_law_leaves_here" 300,.str "_law_room" 301]
def f89:Obj:=tu []
def f90:Obj:=xD "_law_any_term" "_law_any_term" (tp 15)
def f91:Obj:=xC "_law_any_term" "_law_any_term" 296 115 2 181 86 87 .none (.ref 88) (.ref 89) 90 302
def f92:Obj:=xE "_law_any_term" "_law_any_term" (tp 15) "law_copiedhouse_k61_stretches" 245 91
def f93:Obj:=tu []
def f94:Obj:=fl []
def f95:Obj:=tu [.str "_law_box_here" 308,.str "_law_kinds" 309,.str "_law_calm" 310,.str "_law_word" 311,.str "_law_three" 312,.str "_law_term_here" 313]
def f96:Obj:=tu []
def f97:Obj:=xD "_law_manner" "_law_manner" (tp 16)
def f98:Obj:=xC "_law_manner" "_law_manner" 305 118 3 181 93 94 .none (.ref 95) (.ref 96) 97 314
def f99:Obj:=xE "_law_manner" "_law_manner" (tp 16) "law_copiedhouse_k61_stretches" 245 98
def bE:Obj:=tu []
def zeX:Obj:=fl []
def zeY:Obj:=xD "_law_begin" "_law_begin" (tp 17)
def bF:Obj:=xC "_law_begin" "_law_begin" 317 127 3 181 100 101 .none .none .none 102 320
def bG:Obj:=xE "_law_begin" "_law_begin" (tp 17) "law_copiedhouse_k61_stretches" 245 103
def bH:Obj:=tu []
def zeZ:Obj:=fl []
def bI:Obj:=tu [.str "_law_box_here" 326,.str "_law_shelves" 327,.str "_law_things" 328,.str "_law_found" 329,.str "_law_ks" 330,.str "_law_manner_here" 331,.str "_law_begin_here" 332]
def bJ:Obj:=tu []
def zfa:Obj:=xD "_law_leaves" "_law_leaves" (tp 18)
def bK:Obj:=xC "_law_leaves" "_law_leaves" 323 141 3 181 105 106 .none (.ref 107) (.ref 108) 109 333
def bL:Obj:=xE "_law_leaves" "_law_leaves" (tp 18) "law_copiedhouse_k61_stretches" 245 110
def bM:Obj:=tu []
def zfb:Obj:=fl []
def bN:Obj:=tu [.str "_law_box_here" 339,.str "_law_shelf" 340,.str "_law_leaves_here" 341,.str "_law_things" 342,.str "_law_ks" 343,.str "_law_manner_here" 344,.str "_law_begin_here" 345,.str "_law_word" 346,.str "_law_term_here" 347]
def bO:Obj:=tu []
def zfc:Obj:=xD "_law_deed" "_law_deed" (tp 19)
def bP:Obj:=xC "_law_deed" "_law_deed" 336 149 4 181 112 113 .none (.ref 114) (.ref 115) 116 348
def bQ:Obj:=xE "_law_deed" "_law_deed" (tp 19) "law_copiedhouse_k61_stretches" 245 117
def bR:Obj:=tu []
def zfe:Obj:=fl []
def bS:Obj:=tu [.str "_law_box_here" 354,.str "_law_uses" 355,.str "_law_things" 356,.str "_law_own" 357,.str "_law_asked" 358,.str "_law_leaves_here" 359,.str "_law_row_here" 360]
def bT:Obj:=tu []
def zff:Obj:=xD "_law_row" "_law_row" (tp 20)
def bU:Obj:=xC "_law_row" "_law_row" 351 164 3 181 119 120 .none (.ref 121) (.ref 122) 123 361
def bV:Obj:=xE "_law_row" "_law_row" (tp 20) "law_copiedhouse_k61_stretches" 245 124
def bW:Obj:=tu []
def zfg:Obj:=fl []
def bX:Obj:=tu [.str "_law_box_here" 367,.str "_law_plan" 368,.str "_law_rows" 369,.str "_law_held" 370,.str "_law_other" 371]
def bY:Obj:=tu []
def zfh:Obj:=xD "_law_join" "_law_join" (tp 21)
def bZ:Obj:=xC "_law_join" "_law_join" 364 173 4 181 126 127 .none (.ref 128) (.ref 129) 130 372
def a6:Obj:=xE "_law_join" "_law_join" (tp 21) "law_copiedhouse_k61_stretches" 245 131
def a7:Obj:=tu []
def zfi:Obj:=fl []
def a8:Obj:=tu [.str "_law_script" 378,.str "_law_at" 379,.str "_law_plan" 380,.str "_law_number_here" 381,.str "_law_box_here" 382,.str "_law_uses" 383,.str "_law_rows" 384,.str "_law_held" 385,.str "_law_k" 386,.str "_law_kind" 387,.str "_law_other" 388]
def a9:Obj:=tu []
def zfj:Obj:=xD "_law_hand" "_law_hand" (tp 22)
def aA:Obj:=xC "_law_hand" "_law_hand" 375 177 4 181 133 134 .none (.ref 135) (.ref 136) 137 389
def aB:Obj:=xE "_law_hand" "_law_hand" (tp 22) "law_copiedhouse_k61_stretches" 245 138
def aC:Obj:=tu []
def zfk:Obj:=fl []
def aD:Obj:=tu [.str "_law_box_here" 395,.str "_law_form" 396,.str "_law_some" 397,.str "_law_x" 398,.str "_law_y" 399,.str "_law_z" 400,.str "_law_at" 401]
def aE:Obj:=tu []
def zfl:Obj:=xD "_law_three_words" "_law_three_words" (tp 23)
def aF:Obj:=xC "_law_three_words" "_law_three_words" 392 198 1 181 140 141 .none (.ref 142) (.ref 143) 144 402
def aG:Obj:=xE "_law_three_words" "_law_three_words" (tp 23) "law_copiedhouse_k61_stretches" 245 145
def aH:Obj:=tu []
def zfm:Obj:=fl []
def zfn:Obj:=xD "_law_program" "_law_program" (tp 24)
def aJ:Obj:=xC "_law_program" "_law_program" 405 209 5 181 147 148 .none .none .none 149 408
def aK:Obj:=xE "_law_program" "_law_program" (tp 24) "law_copiedhouse_k61_stretches" 245 150
def aL:Obj:=tu []
def zfo:Obj:=fl []
def zfp:Obj:=xD "_law_stretches" "_law_stretches" (tp 25)
def aM:Obj:=xC "_law_stretches" "_law_stretches" 411 224 1 181 152 153 .none .none .none 154 414
def aN:Obj:=xE "_law_stretches" "_law_stretches" (tp 25) "law_copiedhouse_k61_stretches" 245 155
def aO:Obj:=tu []
def zfq:Obj:=fl []
def zfr:Obj:=xD "_law_onward" "_law_onward" (tp 26)
def aP:Obj:=xC "_law_onward" "_law_onward" 417 231 2 181 157 158 .none .none .none 159 420
def aQ:Obj:=xE "_law_onward" "_law_onward" (tp 26) "law_copiedhouse_k61_stretches" 245 160
def aR:Obj:=tu []
def zft:Obj:=fl []
def aS:Obj:=tu [.str "_law_onward_here" 426,.str "_law_one" 427,.str "_law_met" 428,.str "_law_left" 429,.str "_law_other" 430]
def aT:Obj:=tu []
def zfu:Obj:=xD "_law_behind" "_law_behind" (tp 27)
def aU:Obj:=xC "_law_behind" "_law_behind" 423 244 2 181 162 163 .none (.ref 164) (.ref 165) 166 431
def aV:Obj:=xE "_law_behind" "_law_behind" (tp 27) "law_copiedhouse_k61_stretches" 245 167
def aW:Obj:=tu []
def zfv:Obj:=fl []
def zfw:Obj:=xD "_law_order" "_law_order" (tp 28)
def aY:Obj:=xC "_law_order" "_law_order" 434 253 2 181 169 170 .none .none .none 171 437
def aZ:Obj:=xE "_law_order" "_law_order" (tp 28) "law_copiedhouse_k61_stretches" 245 172
def zaa:Obj:=tu []
def zfx:Obj:=fl []
def zfy:Obj:=xD "_law_good" "_law_good" (tp 29)
def zab:Obj:=xC "_law_good" "_law_good" 440 262 2 181 174 175 .none .none .none 176 443
def zac:Obj:=xE "_law_good" "_law_good" (tp 29) "law_copiedhouse_k61_stretches" 245 177
def zad:Obj:=tu []
def zfz:Obj:=fl []
def zaf:Obj:=tu [.str "_law_box_here" 449,.str "_law_order_here" 450,.str "_law_at" 451,.str "_law_to" 452,.str "_law_some" 453,.str "_law_found" 454]
def zag:Obj:=tu []
def zf0:Obj:=xD "_law_others" "_law_others" (tp 30)
def zah:Obj:=xC "_law_others" "_law_others" 446 269 2 181 179 180 .none (.ref 181) (.ref 182) 183 455
def zai:Obj:=xE "_law_others" "_law_others" (tp 30) "law_copiedhouse_k61_stretches" 245 184
def zaj:Obj:=tu []
def zf1:Obj:=fl []
def zf2:Obj:=xD "_law_stretches_right" "_law_stretches_right" (tp 31)
def zak:Obj:=xC "_law_stretches_right" "_law_stretches_right" 458 278 2 181 186 187 .none .none .none 188 461
def zal:Obj:=xE "_law_stretches_right" "_law_stretches_right" (tp 31) "law_copiedhouse_k61_stretches" 245 189
def zam:Obj:=tu []
def zf4:Obj:=fl []
def zan:Obj:=tu [.str "_law_found" 467,.str "_law_due" 468]
def zao:Obj:=tu []
def zf5:Obj:=xD "_law_truth" "_law_truth" (tp 32)
def zap:Obj:=xC "_law_truth" "_law_truth" 464 287 2 181 191 192 .none (.ref 193) (.ref 194) 195 469
def zaq:Obj:=xE "_law_truth" "_law_truth" (tp 32) "law_copiedhouse_k61_stretches" 245 196
def zar:Obj:=tu []
def zf6:Obj:=fl []
def zat:Obj:=tu [.str "_law_box_here" 475,.str "_law_program_here" 476,.str "_law_hands" 477,.str "_law_kh" 478,.str "_law_rows" 479,.str "_law_some" 480,.str "_law_n" 481]
def zau:Obj:=tu []
def zf7:Obj:=xD "_law_shifted" "_law_shifted" (tp 33)
def zav:Obj:=xC "_law_shifted" "_law_shifted" 472 289 2 181 198 199 .none (.ref 200) (.ref 201) 202 482
def zaw:Obj:=xE "_law_shifted" "_law_shifted" (tp 33) "law_copiedhouse_k61_stretches" 245 203
def zax:Obj:=tu []
def zf8:Obj:=fl []
def zf9:Obj:=xD "_law_right" "_law_right" (tp 34)
def zay:Obj:=xC "_law_right" "_law_right" 485 301 2 181 205 206 .none .none .none 207 488
def zaz:Obj:=xE "_law_right" "_law_right" (tp 34) "law_copiedhouse_k61_stretches" 245 208
def za1:Obj:=tu []
def zf_:Obj:=fl []
def za2:Obj:=tu [.str "_law_script" 494,.str "_law_program_here" 495,.str "_law_box_here" 496]
def za3:Obj:=tu []
def zfA:Obj:=xD "law" "law" (tp 35)
def za4:Obj:=xC "law" "law" 491 321 1 181 210 211 .none (.ref 212) (.ref 213) 214 497
def za5:Obj:=xE "law" "law" (tp 35) "law_copiedhouse_k61_stretches" 245 215
def a12:Obj:=fl []
def Ta (P:Params):BT:=(.node (boot_o_0 P) (.node (boot_o_1 P) (.node (boot_o_3 P) (.node (boot_o_7 P) .nil .nil) (.node iP .nil .nil)) (.node (boot_o_5 P) (.node (boot_o_9 P) .nil .nil) (.node iQ .nil .nil))) (.node (boot_o_2 P) (.node (boot_o_4 P) (.node (boot_o_8 P) .nil .nil) (.node a12 .nil .nil)) (.node (boot_o_6 P) (.node (boot_o_10 P) .nil .nil) (.node iR .nil .nil))))
def Tz (P:Params):BT:=(.node (boot_o_0 P) (.node (boot_o_1 P) (.node (f3 P) (.node (boot_o_7 P) (.node aI (.node f31 (.node f63 (lf zfg) (lf zam)) (.node f95 (lf zfr) .nil)) (.node f47 (.node f79 (lf aE) (lf zf9)) (.node bL (lf zfx) .nil))) (.node f23 (.node f39 (.node f71 (lf a8) (lf zf6)) (.node bF (lf aU) .nil)) (.node f55 (.node f87 (lf aK) (lf za4)) (.node bR (lf zf0) .nil)))) (.node iP (.node f19 (.node f35 (.node f67 (lf bZ) (lf zf5)) (.node f99 (lf zft) .nil)) (.node f51 (.node f83 (lf aH) (lf zf_)) (.node bO (lf zad) .nil))) (.node f27 (.node f43 (.node f75 (lf aB) (lf zav)) (.node bI (lf zfw) .nil)) (.node f59 (.node f91 (lf aM) .nil) (.node zff (lf zf1) .nil))))) (.node (boot_o_5 P) (.node (boot_o_9 P) (.node aX (.node f33 (.node f65 (lf bY) (lf zan)) (.node f97 (lf aQ) .nil)) (.node f49 (.node f81 (lf aF) (lf zaz)) (.node zfb (lf zab) .nil))) (.node f25 (.node f41 (.node f73 (lf zfj) (lf zau)) (.node bH (lf aW) .nil)) (.node f57 (.node f89 (lf zfo) .nil) (.node bS (lf zai) .nil)))) (.node iQ (.node f21 (.node f37 (.node f69 (lf a7) (lf zaq)) (.node zeX (lf aT) .nil)) (.node f53 (.node f85 (lf zfn) (lf za3)) (.node bP (lf zaf) .nil))) (.node f29 (.node f45 (.node f77 (lf zfk) (lf zax)) (.node zfa (lf aZ) .nil)) (.node f61 (.node f93 (lf aO) .nil) (.node bV (lf zak) .nil)))))) (.node (boot_o_2 P) (.node (boot_o_4 P) (.node (boot_o_8 P) (.node f16 (.node f32 (.node f64 (lf bX) (lf zf4)) (.node f96 (lf aP) .nil)) (.node f48 (.node f80 (lf zfl) (lf zay)) (.node bM (lf zfy) .nil))) (.node f24 (.node f40 (.node f72 (lf a9) (lf zat)) (.node bG (lf aV) .nil)) (.node f56 (.node f88 (lf aL) (lf za5)) (.node zfe (lf zah) .nil)))) (.node f12 (.node f20 (.node f36 (.node f68 (lf a6) (lf zap)) (.node bE (lf aS) .nil)) (.node f52 (.node f84 (lf zfm) (lf za2)) (.node zfc (lf zfz) .nil))) (.node f28 (.node f44 (.node f76 (lf aC) (lf zaw)) (.node bJ (lf aY) .nil)) (.node f60 (.node f92 (lf aN) .nil) (.node bU (lf zf2) .nil))))) (.node (boot_o_6 P) (.node (boot_o_10 P) (.node f18 (.node f34 (.node f66 (lf zfh) (lf zao)) (.node f98 (lf aR) .nil)) (.node f50 (.node f82 (lf aG) (lf za1)) (.node bN (lf zac) .nil))) (.node f26 (.node f42 (.node f74 (lf aA) (lf zf7)) (.node zeZ (lf zfv) .nil)) (.node f58 (.node f90 (lf zfp) .nil) (.node bT (lf zaj) .nil)))) (.node iR (.node f22 (.node f38 (.node f70 (lf zfi) (lf zar)) (.node zeY (lf zfu) .nil)) (.node f54 (.node f86 (lf aJ) (lf zfA)) (.node bQ (lf zag) .nil))) (.node f30 (.node f46 (.node f78 (lf aD) (lf zf8)) (.node bK (lf zaa) .nil)) (.node f62 (.node f94 (lf zfq) .nil) (.node bW (lf zal) .nil)))))))
def Ha (P:Params):Heap:=⟨⟨[boot_o_0 P,boot_o_1 P,boot_o_2 P,boot_o_3 P,boot_o_4 P,boot_o_5 P,boot_o_6 P,boot_o_7 P,boot_o_8 P,boot_o_9 P,boot_o_10 P,iP,a12,iQ,iR]⟩,li⟩
def Hl (P:Params):List Obj:= [boot_o_0 P,boot_o_1 P,boot_o_2 P,f3 P,boot_o_4 P,boot_o_5 P,boot_o_6 P,boot_o_7 P,boot_o_8 P,boot_o_9 P,boot_o_10 P,iP,f12,iQ,iR,aI,f16,aX,f18,f19,f20,f21,f22,f23,f24,f25,f26,f27,f28,f29,f30,f31,f32,f33,f34,f35,f36,f37,f38,f39,f40,f41,f42,f43,f44,f45,f46,f47,f48,f49,f50,f51,f52,f53,f54,f55,f56,f57,f58,f59,f60,f61,f62,f63,f64,f65,f66,f67,f68,f69,f70,f71,f72,f73,f74,f75,f76,f77,f78,f79,f80,f81,f82,f83,f84,f85,f86,f87,f88,f89,f90,f91,f92,f93,f94,f95,f96,f97,f98,f99,bE,zeX,zeY,bF,bG,bH,zeZ,bI,bJ,zfa,bK,bL,bM,zfb,bN,bO,zfc,bP,bQ,bR,zfe,bS,bT,zff,bU,bV,bW,zfg,bX,bY,zfh,bZ,a6,a7,zfi,a8,a9,zfj,aA,aB,aC,zfk,aD,aE,zfl,aF,aG,aH,zfm,zfn,aJ,aK,aL,zfo,zfp,aM,aN,aO,zfq,zfr,aP,aQ,aR,zft,aS,aT,zfu,aU,aV,aW,zfv,zfw,aY,aZ,zaa,zfx,zfy,zab,zac,zad,zfz,zaf,zag,zf0,zah,zai,zaj,zf1,zf2,zak,zal,zam,zf4,zan,zao,zf5,zap,zaq,zar,zf6,zat,zau,zf7,zav,zaw,zax,zf8,zf9,zay,zaz,za1,zf_,za2,za3,zfA,za4,za5]
def Hf (P:Params):Heap:=⟨⟨Hl P⟩,li⟩
theorem pre (w:World)(os:OsState):topGo treeTable pg w 11 an 12 ⟨boot_heap w.params,gs,boot_drawn,boot_toks,os⟩ (topStub pg)=some (⟨Ha w.params,gs,boot_drawn,187,os⟩,⟨denote treeTable cE,cE,⟨0,0,0,0⟩,B⟩):=by
 rw[PySem.W.Fast.te15667345088766844465,ig,PySem.W.Fast.te11892475500146522536];kernel_rfl
theorem block (w:World)(os:OsState):segRun treeTable pg w 11 an 1 1 ⟨Ha w.params,gs,boot_drawn,187,os⟩ (blockOf (behindTheImports pg) ev cE ⟨0,0,0,0⟩ B)=some (.next,(SharedT.abs ⟨Ta w.params,15,li,gs,boot_drawn,187,os⟩),cE,⟨0,0,0,0⟩):=by
 rw[PySem.W.Fast.te14374325043358763698,ig];kernel_rfl
def zil:List Stmt:= [tp 0,tp 1,tp 2,tp 3,tp 4,tp 5,tp 6,tp 7,tp 8,tp 9,tp 10,tp 11,tp 12,tp 13,tp 14,tp 15,tp 16,tp 17,tp 18,tp 19,tp 20,tp 21,tp 22,tp 23,tp 24,tp 25,tp 26,tp 27,tp 28,tp 29,tp 30,tp 31,tp 32,tp 33,tp 34,tp 35]
theorem zob (w:World)(os:OsState):segRunT treeTable pg w 11 an 1 1024 ⟨Ta w.params,15,li,gs,boot_drawn,187,os⟩ (piecesOf zil ev cE ⟨0,0,0,0⟩ B)=some (.next,⟨Tz w.params,217,li,gs,boot_drawn,500,os⟩,cE,⟨321,0,326,55⟩):=by
 rw[PySem.W.Fast.te10110043849684766642,ig];kernel_rfl
theorem fin (w:World)(os:OsState):topRun treeTable pg w 11 an 2 (SharedT.abs ⟨Tz w.params,217,li,gs,boot_drawn,500,os⟩) ⟨doneF .next,cE,⟨321,0,326,55⟩,B⟩=some ⟨Hf w.params,gs,boot_drawn,500,os⟩:=by
 rw[PySem.W.Fast.te14082659384304107361,ig];kernel_rfl
theorem run (w:World)(os:OsState):topRun treeTable pg w 11 an (12+(1+(1024+(2)))) ⟨boot_heap w.params,gs,boot_drawn,boot_toks,os⟩ (topStub pg)=some ⟨Hf w.params,gs,boot_drawn,500,os⟩:=
 go_top (pre w os) (piece_block (env:=ev) (b:=behindTheImports pg) (block w os) (piece_app (env:=ev) (l:=zil) (segRun_of (zob w os)) (piece_nil (env:=ev) (fin w os))))
def K (P:Params):Frag:=(nat_lit 2,boot_o_2 P)::(nat_lit 3,f3 P)::(nat_lit 15,aI)::(nat_lit 17,aX)::(nat_lit 18,f18)::(nat_lit 20,f20)::(nat_lit 21,f21)::(nat_lit 22,f22)::(nat_lit 24,f24)::(nat_lit 25,f25)::(nat_lit 27,f27)::(nat_lit 28,f28)::(nat_lit 29,f29)::(nat_lit 31,f31)::(nat_lit 32,f32)::(nat_lit 34,f34)::(nat_lit 35,f35)::(nat_lit 36,f36)::(nat_lit 39,f39)::(nat_lit 40,f40)::(nat_lit 41,f41)::(nat_lit 43,f43)::(nat_lit 44,f44)::(nat_lit 46,f46)::(nat_lit 47,f47)::(nat_lit 48,f48)::(nat_lit 51,f51)::(nat_lit 52,f52)::(nat_lit 53,f53)::(nat_lit 55,f55)::(nat_lit 56,f56)::(nat_lit 58,f58)::(nat_lit 59,f59)::(nat_lit 60,f60)::(nat_lit 62,f62)::(nat_lit 63,f63)::(nat_lit 65,f65)::(nat_lit 66,f66)::(nat_lit 67,f67)::(nat_lit 70,f70)::(nat_lit 71,f71)::(nat_lit 72,f72)::(nat_lit 74,f74)::(nat_lit 75,f75)::(nat_lit 77,f77)::(nat_lit 78,f78)::(nat_lit 79,f79)::(nat_lit 81,f81)::(nat_lit 82,f82)::(nat_lit 84,f84)::(nat_lit 85,f85)::(nat_lit 86,f86)::(nat_lit 88,f88)::(nat_lit 89,f89)::(nat_lit 91,f91)::(nat_lit 92,f92)::(nat_lit 93,f93)::(nat_lit 95,f95)::(nat_lit 96,f96)::(nat_lit 98,f98)::(nat_lit 99,f99)::(nat_lit 100,bE)::(nat_lit 103,bF)::(nat_lit 104,bG)::(nat_lit 105,bH)::(nat_lit 107,bI)::(nat_lit 108,bJ)::(nat_lit 110,bK)::(nat_lit 111,bL)::(nat_lit 112,bM)::(nat_lit 114,bN)::(nat_lit 115,bO)::(nat_lit 117,bP)::(nat_lit 118,bQ)::(nat_lit 119,bR)::(nat_lit 121,bS)::(nat_lit 122,bT)::(nat_lit 124,bU)::(nat_lit 125,bV)::(nat_lit 126,bW)::(nat_lit 128,bX)::(nat_lit 129,bY)::(nat_lit 131,bZ)::(nat_lit 132,a6)::(nat_lit 133,a7)::(nat_lit 135,a8)::(nat_lit 136,a9)::(nat_lit 138,aA)::(nat_lit 139,aB)::(nat_lit 140,aC)::(nat_lit 142,aD)::(nat_lit 143,aE)::(nat_lit 145,aF)::(nat_lit 146,aG)::(nat_lit 147,aH)::(nat_lit 150,aJ)::(nat_lit 151,aK)::(nat_lit 152,aL)::(nat_lit 155,aM)::(nat_lit 156,aN)::(nat_lit 157,aO)::(nat_lit 160,aP)::(nat_lit 161,aQ)::(nat_lit 162,aR)::(nat_lit 164,aS)::(nat_lit 165,aT)::(nat_lit 167,aU)::(nat_lit 168,aV)::(nat_lit 169,aW)::(nat_lit 172,aY)::(nat_lit 173,aZ)::(nat_lit 174,zaa)::(nat_lit 177,zab)::(nat_lit 178,zac)::(nat_lit 179,zad)::(nat_lit 181,zaf)::(nat_lit 182,zag)::(nat_lit 184,zah)::(nat_lit 185,zai)::(nat_lit 186,zaj)::(nat_lit 189,zak)::(nat_lit 190,zal)::(nat_lit 191,zam)::(nat_lit 193,zan)::(nat_lit 194,zao)::(nat_lit 196,zap)::(nat_lit 197,zaq)::(nat_lit 198,zar)::(nat_lit 200,zat)::(nat_lit 201,zau)::(nat_lit 203,zav)::(nat_lit 204,zaw)::(nat_lit 205,zax)::(nat_lit 208,zay)::(nat_lit 209,zaz)::(nat_lit 210,za1)::(nat_lit 212,za2)::(nat_lit 213,za3)::(nat_lit 215,za4)::(nat_lit 216,za5):: []
abbrev hk:Hook:=kmHook K [2,3,15,17,18,20,21,22,24,25,27,28,29,31,32,34,35,36,39,40,41,43,44,46,47,48,51,52,53,55,56,58,59,60,62,63,65,66,67,70,71,72,74,75,77,78,79,81,82,84,85,86,88,89,91,92,93,95,96,98,99,100,103,104,105,107,108,110,111,112,114,115,117,118,119,121,122,124,125,126,128,129,131,132,133,135,136,138,139,140,142,143,145,146,147,150,151,152,155,156,157,160,161,162,164,165,167,168,169,172,173,174,177,178,179,181,182,184,185,186,189,190,191,193,194,196,197,198,200,201,203,204,205,208,209,210,212,213,215,216] (λ_=>by kernel_rfl) []
def q:Program:= {pg with main:= {pg.main with body:= [tp 1,tp 3,tp 5,tp 6,tp 7,tp 8,tp 10,tp 11,tp 12,tp 13,tp 14,tp 15,tp 16,tp 17,tp 18,tp 19,tp 20,tp 21,tp 22,tp 23,tp 24,tp 25,tp 26,tp 27,tp 28,tp 29,tp 30,tp 31,tp 32,tp 33,tp 34,tp 35]}}
abbrev Xt (s:Shared):Bool:=xlAt q [] s&&recOk (RowW.records (OpenRow.toRowW (PySem.Challenge.rw_copiedhouse_k61_stretches).row)) s
theorem sz (w:World):((boot_heap w.params).isNs mainGlobals&&gs.size==0,(boot_heap w.params).objs.size,(boot_heap w.params).nsMap mainGlobals "__annotations__")=(true,11,an):=by
 rw[PySem.W.Fast.te8920871248978507458];kernel_rfl
theorem lk1 (w:World)(os:OsState):(staticsOk (importedModules pg.main.body) (boot_heap w.params) (Hf w.params)&&namesBound pg (Hf w.params)&&gensDone ⟨Hf w.params,gs,boot_drawn,500,os⟩&&laidKept (boot_heap w.params) (Hf w.params))=true:=by
 rw[PySem.W.Fast.te5923862056798008813];kernel_rfl
theorem lk2 (w:World)(os:OsState):openSeen q [] (importedModules pg.main.body) Xt true ⟨Hf w.params,gs,boot_drawn,500,os⟩=openGood q []:=by
 rw[PySem.W.Fast.te4187177175401517315,PySem.W.Fast.te5923862056798008813];kernel_rfl
theorem lk3 (w:World)(os:OsState):Hook.obs hk ⟨Hf w.params,gs,boot_drawn,500,os⟩=Hook.val hk w:=by kernel_rfl
theorem left:LeftO pg q [] Xt (Hook.obs hk) (Hook.val hk) 2172:=LeftO.of_pieces (H₀:=boot_heap) (H₁:=Hf) (M:=12+(1+(1024+(2)))) (boot_open rfl rfl λ_=>rfl) sz run (by decide) λw=>funext λos=>looks_pair (lk1 w os) (looks_pair (lk2 w os) (lk3 w os))
theorem ws:(PySem.Challenge.rw_copiedhouse_k61_stretches).wellSaid=true:=by kernel_rfl
end
end Hd
open PySem PySem.W PyProof.Rows
set_option maxRecDepth 100000 in
set_option maxHeartbeats 0 in
theorem PySem.Challenge.cw_copiedhouse_k61_stretches_holds : PySem.Challenge.rw_copiedhouse_k61_stretches.Holds := by
 w_on
 refine holds_law Hd.ws λsaid=> ?_;refine holds_open (q:=Hd.q) (loose:= []) (Xt:=Hd.Xt) (XP:=XL Hd.q []) (Yf:=Hook.obs Hd.hk) (Ya:=Hook.val Hd.hk) (YP:=Hook.says Hd.hk) (N:=2172) Hd.left (Hook.of Hd.hk) (Hook.keeps Hd.hk) (λs e=>xl_of s (vh.mp e).1) XL.keeps (by rfl) (by rfl) (by rfl) (λs e=>recFacts_of (vh.mp e).2) (by rfl) said (by decide+kernel) ⟨rfl,rfl,rfl,rfl,rfl,by decide+kernel⟩ ?hw ?hc
 (case hw=>w_witness2)
 unfold Hd.hk
 k_fill
 refine N61.walk (l:=PySem.Challenge.rw_copiedhouse_k61_stretches) rfl rfl (λw h Y=>PySem.W.km_in_of Y) ?F
 case F=>
  intro w mg fa h KX G hmg
  refine' N61.all_mk KX G hmg ?_ ?_ ?_ ?_ ?_ ?_ ?_ ?_ ?_ ?_ ?_ ?_ ?_ ?_ ?_ ?_ ?_ ?_ ?_ ?_ ?_ ?_ ?_ ?_ ?_ ?_ ?_ ?_ ?_ ?_ ?_ ?_ ?zn_
  (case zn_=>intro x m;simp only[bd,fh,or_false]at m;rcases m with rfl | rfl | rfl | rfl | rfl | rfl | rfl | rfl | rfl | rfl | rfl | rfl | rfl | rfl | rfl | rfl | rfl | rfl <;> k_is)
  all_goals exact⟨_,_,_,_,_,_,_,_,_,_,by k_is,by k_is,by k_is,by k_is⟩
