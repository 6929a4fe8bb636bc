import PyProof.Rows.All
import Wide.All
import OpenK.AllK
import Wide.FinOn
import Lean
import PyProof.EqAt
import PyProof.EqKinds
import PyProof.TupleCall
import KE.KSortTup
import KE.KItemsList
import KE.KDictList
import PyProof.AttrMissHeap
import KE.KDictOf
import PyProof.NeKinds
import PyProof.IsiHeapPairs
import PyProof.IsiSeqPairs
import PyProof.SetKind
import PyProof.Rows.SetFrom
import PyProof.DictIter
import PyProof.CollectWalk
import PyProof.DictWalks
import PyProof.FactsAll.subtypes_5
import PyProof.IsiTupleOf
import PyProof.IsiPairs
import PyProof.Draws
import PyProof.EnumMake
import PyProof.WalksMore
import KE.KRevIter
import PyProof.ListRange
import PyProof.StrWalks
import PyProof.DictUpdate
import PySem.Challenge.RW_copiedhouse_k17_programs_let_by
open PySem renaming wpAny_bind->aa,wpAny_pure->ah,wpAny->ak,model->ay,wpAny_holding->cq,wpAny_newObj_type->cr,sizeLine_eq->cx,boot_len->df,builtinLookup_eq_fast->di,wpAny_Call_Name_kw->ef,wpAny_field->fe,typeLookup_type->fg,wpAny_specialOf->gd,plainId_quiet->gt,mem_of_lookup->gw,wpAny_typeOf->ib,wpAny_of_eq->ik,isSubtype_type->il,codeAny_builtin->iw,wpAny_updateSeq->ix,wpAny_loadPart_at->ja,wpAny_callSpecial?_slot->jb,wpAny_call_entry->ji,wpAny_isInstance->jk,wpAny_mono->jp,wpAny_passesOwn->jt,wpAny_standAt->ju,wpAny_attempt->jw,wpAny_getItem_str_slice->kf,wpAny_rule->km,callType_codes->lh,call_meets->lm,wpAny_isSubtype_exc->lr,wpAny_ite_split->lw,codeAny_mono->ly,tupleKind_room_in1->ma,sub_AttributeError->md,wpAny_call->ml,wpAny_execs_nil->nv,post_val_or_str->og,codeAny_extend_loopS->oh,wpAny_setField_rec->pd,evalPart_none->po,wpAny_truthy_bool->pw,wpAny_sequenceKey->pz,slot_list_getitem->qa,list_append->qb,wpAny_execs_cons->qi,noFill_tuple_add->ql,wpAny_getItem_list_slice->qm,wpAny_comprehension_free->qr,entryFor_of_tree->qt,codeAny_of_tree->sv,wpAny_pyNext_list_item->sy,codeAny_compStart_list->tz,wpAny_pyNext_list_end->ue,wpAny_seqItems->uh,wpAny_notOrdered_dict->uk,getitemInPython_of_ne->ul,wpAny_setField->uq,wpAny_newFunctionEnv->ux,codeAny_call_builtin->vd,wpAny_letTemporaryGo->ve,seq_tuple_add->vi,signature?_of->vk,wpAny_dictSet_pairs->vo,concat_meets->vy,seqIndex_neg->wa,wpAny_mkText->wb,wpAny_Slice->wy,seqIndex_of->wz
open List renaming length_map->ac,getElem?_eq_some_iff->ad,mem_append_right->af,length_append->ai,mem_singleton->aj,map_cons->am,getElem?_append_right->aq,mem_cons_self->ar,mem_append->au,map_append->av,mem_append_left->ax,mem_cons->az,nodup_append->ba,mem_cons_of_mem->bc,size_toArray->be,append_assoc->bh,mem_iff_getElem?->bi,getElem?_append_left->bo,length_cons->bq,map_map->bt,getElem?_eq_getElem->bu,mem_map->bv,length_singleton->bw,filterMap_cons->bx,take_of_length_le->bz,mem_map_of_mem->cf,getElem?_map->cg,find?_cons->ci,length_take->cj,mem_of_getElem?->ck,length_reverse->cm,append_nil->cn,flatMap_cons->da,mem_filterMap->db,pairwise_iff_getElem->dj,nodup_cons->dq,getElem?_inj->du,getElem?_take_of_lt->dv,length_set->dw,take_append_drop->dy,perm_append_comm->fc,getElem_cons_drop->fi,reverse_append->fo,set_append_right->fw,foldl_cons->gb,append_of_mem->gk,cons_append->gn,mem_flatMap->gq,getElem?_set_self->gu,length_pos_iff->gx,length_replicate->gy,filterMap_append->ia,map_nil->ic,take_length->ig,any_cons->ij,getElem?_replicate->im,getElem_mem->iq,nil_append->iy,take_sublist->iz,eraseIdx_cons_succ->jc,getElem?_cons_zero->jd,filter_cons_of_pos->jf,map_congr_left->jg,flatMap_append->jh,filter_cons->jj,not_mem_nil->jl,map_reverse->jm,getElem_map->jo,perm_append_singleton->jy,getElem?_set_ne->ka,lookup_cons->kc,length_eraseIdx_le->kg,getElem?_cons_succ->kh,all_cons->ki,mem_filter->kj,filterMap_map->ko,length_nil->kq,contains_cons->kx,take_append_of_le_length->kz,reverse_cons->la,idxOf_lt_length_of_mem->lj,length_drop->ll,mem_of_mem_tail->lq,mem_of_mem_eraseIdx->mi,filter_cons_of_neg->mo,length_range->mq,range_succ_eq_map->mx,map_take->mz,all_eq_true->ng,any_eq_true->nh,flatMap_map->ni,length_filter_le->nj,eraseIdxIfInBounds_toArray->nu,getElem_of_mem->or,mem_range->ot,getElem?_take->pf,find?_eq_none->ph,map_singleton->pi,sum_cons->pr,idxOf_append->qe,reverse_perm->qf,getElem?_eq_none_iff->qg,mem_reverse->rb,append_cancel_left->rn,of_mem_zip->sf,drop_of_length_le->ub,getElem?_eraseIdx->uc,filter_eq_nil_iff->ud,dropLast_eq_take->um,singleton_append->uo,set_getElem_self->ut,length_dropLast->uw,drop_eq_nil_iff->vb,mem_of_mem_take->vf,mem_erase_of_ne->vg,reverse_reverse->vh,toList_toArray->vq,replicate_succ->vt,all_map->wj,getElem_range->wm,filter_congr->wv,find?_append->wx,map_id->xb,getElem_set->xi,flatMap_nil->xj,sum_append->xn,filter_map->xo,drop_zero->xr,take_succ->xt,take_zero->xu
open PySem.Heap renaming get?_push_of_some->ae,lt_size->aw,get?_update_other->bp,get?_push_size->br,get?_update_self->cz,size_push->iu
open Nat renaming le_refl->ao,ne_of_lt->bb,le_trans->bf,lt_of_lt_of_le->bj,zero_le->dg,ne_of_gt->dz,lt_irrefl->eh,sub_self->fq,le_succ->fz,lt_trans->ie,lt_of_le_of_lt->ky,le_of_lt->lx,lt_succ_self->nc,le_of_eq->qp,not_lt->uy,zero_add->we,succ_le_succ->xg,min_eq_right->xh,min_eq_left->xm
open PySem.F renaming plainAttrs_list->cb,slot_list_append->cu,type_list_append->cw,plain_extend_loop->kb,slot_tuple_getattribute->lu,args_tuple_add_2->lz,slot_list_getattribute->mf,entry_tuple_add->mm,slot_tuple_add->mt,slot_list_pop->np,type_list_pop->nq,args_list_append_2->ny,entry_list_append->oq,slot_list_append->pc,excBase_ValueError->pq,slot_dict_getitem->qh,args_list_init_2->qw,slot_dict_update->qy,slot_list_extend->rg,type_list_extend->rh,typeCall_list_1->rp,entry_list_init->rq,plainAttrs_dict->rz,slot_dict_pop->uf,called_tuple->ug,args_object_init_2->uz,plain_reversed_new->va,kt_typeCall_dict_1->vc,entry_object_init->vn,called_list->vp,args_dict_init_2->wc,plain_list_iadd->wp,plain_tuple_new->wq,entry_dict_init->wu
open Option.some renaming inj->ce
open PyProof.Rows renaming slot_tuple_getitem->cy,entry_tuple_getitem->oo,assignInOrder_cons->ou,args_tuple_getitem->ow,slot_tuple_getitem->pb,subscriptTail_builtinR->tq,len_tuple->ua,Subscript_->uu,tupleItemsOf_->vj,tail_any->xc
open PySem.PassesOwn renaming never->dh
open Ne renaming symm->dk
open Bool renaming false_ne_true->dm,and_eq_true->fb,false_eq_true->ir,and_eq_true_iff->oj,or_false->pp,or_true->wn,eq_iff_iff->xl,false_and->xp,and_false->xq
open Option renaming some_ne_none->dn,bind_some->ln,isSome_map->qd,isSome_iff_exists->qj,map_some->sw,getD_none->xf
open List.Perm renaming append_right->fh,append_left->fv,of_eq->ol,refl->ur
open PySem.W.Fast renaming te14364793385576792824->fk
open Array renaming length_toList->fm,getElem?_toList->gz,getElem?_eq_some_iff->jv,toArray_toList->oi
open PySem.Around renaming under_plainId->gm
open PySem.Paired renaming length->ii
open Sum.inr renaming inj->io
open PySem.Calls renaming spliced_cons->jq,spliced_nil->jz,callWith_builtin->mw,Name_function_global->pk,evalArgs_plain->uv
open PySem.Str renaming length_append->le
open PySem.Obj renaming data_mapFields->mh,isFreed_of_fields->nk
open Int renaming emod_lt_of_pos->mj,emod_nonneg->om,ediv_one->vz,natCast_nonneg->wl,toNat_natCast->wo
open Sum.inl renaming inj->mr
open Int.ofNat renaming inj->my
open PySem.Txt renaming slice_le->nz
open PySem.Heap.IsSliceOf renaming new->oy
open PySem.IsL renaming update->qo
open PySem.SeqAt.RcAt renaming lists_lengths->qu
open PySem.SeqAt.EqAt renaming same->sk,int_str->vw,str_int->vx,of_refs->wk
open PySem.Heap.DictOf renaming new->su
open PySem.W renaming cellsFrom_some->tj,looks_findIn->wg
open List.cons renaming inj->vm
open PySem.Code renaming quiet_builtin->wf
open PySem.ItemsOf renaming nil->xa
open PySem.Moved renaming eq_with->xv
open PySem.W (Frag callWith_K clsIn codeIn findCls findIn findObj fnOf isFn keepIn kitMeta kitOne looks_findIn methodObj mg_of mroIn nsIn readsIn specialIn subIn takesIn)
open PyProof.Rows (callWith_type1)
set_option Elab.async false
set_option linter.all false
set_option maxRecDepth 100000
namespace L2
open PySem PySem.Spec PyProof.Rows
abbrev z6:=Sum Int Str
def oP:z6->Value->Bool
 | .inl k,v=>Value.isInt k v
 | .inr x,v=>Value.isStrOf x v
def zi_ (w:World):z6->Int
 | .inl k=>hashInt k
 | .inr x=>hashStr w x
theorem sQ: ∀{k:z6} {v:Value},oP k v=true->(∃i t,k=Sum.inl i/\v=Value.int i t)∨(∃x t,k=Sum.inr x/\v=Value.str x t)
 | .inl i,v,h=>by
  obtain⟨t,e⟩:=Value.isInt_shape (k:=i) (v:=v) h;exact .inl ⟨i,t,rfl,e⟩
 | .inr x,v,h=>by
  obtain⟨t,e⟩:=Value.isStrOf_shape (x:=x) (v:=v) h;exact .inr ⟨x,t,rfl,e⟩
theorem zoi (i:Int)(t:Tok):oP (.inl i) (.int i t)=true:=by simp[oP,Value.isInt]
theorem zoj (x:Str)(t:Tok):oP (.inr x) (.str x t)=true:=by simp[oP,Value.isStrOf]
theorem zom (a b:Int):decide ((Sum.inl a:z6)=Sum.inl b)=(a==b):=by
 by_cases e:a=b
 ·subst e;simp
 ·have h: ¬ (Sum.inl a:z6)=Sum.inl b:=λq=>e (mr q)
  rw[decide_eq_false h];exact(beq_eq_false_iff_ne.mpr e).symm
theorem zop (a b:Str):decide ((Sum.inr a:z6)=Sum.inr b)=decide (a=b):=by
 by_cases e:a=b
 ·subst e;simp
 ·have h: ¬ (Sum.inr a:z6)=Sum.inr b:=λq=>e (io q)
  rw[decide_eq_false h,decide_eq_false e]
theorem zon (a:Int)(b:Str):decide ((Sum.inl a:z6)=Sum.inr b)=false:=decide_eq_false (λq=>nomatch q)
theorem zoo (a:Str)(b:Int):decide ((Sum.inr a:z6)=Sum.inl b)=false:=decide_eq_false (λq=>nomatch q)
def xB (prog:Program)(w:World):PySem.KeyKind prog w z6 where
 is:=oP
 hash:=zi_ w
 inj:=λv a b ha hb=>by
  rcases sQ ha with⟨i,t,rfl,rfl⟩ | ⟨x,t,rfl,rfl⟩
  ·rcases sQ hb with⟨j,u,rfl,e⟩ | ⟨y,u,rfl,e⟩
   ·injection e with e1 _;rw[e1]
   ·exact nomatch e
  ·rcases sQ hb with⟨j,u,rfl,e⟩ | ⟨y,u,rfl,e⟩
   ·exact nomatch e
   ·injection e with e1 _;rw[e1]
 byValue:=λk v h=>by
  rcases sQ h with⟨i,t,rfl,rfl⟩ | ⟨x,t,rfl,rfl⟩ <;> rfl
 pyHash:=λhv h=>by
  rcases sQ hv with⟨i,t,rfl,rfl⟩ | ⟨x,t,rfl,rfl⟩
  ·exact wpAny_pyHash_int h
  ·exact wpAny_pyHash_str h
 eqBool:=λhu hv h=>by
  rcases sQ hu with⟨i,t,rfl,rfl⟩ | ⟨x,t,rfl,rfl⟩
  ·rcases sQ hv with⟨j,u,rfl,rfl⟩ | ⟨y,u,rfl,rfl⟩
   ·rw[zom]at h;exact wpAny_eqBool_int h
   ·rw[zon]at h;exact vw i t y u _ _ _ _ h
  ·rcases sQ hv with⟨j,u,rfl,rfl⟩ | ⟨y,u,rfl,rfl⟩
   ·rw[zoo]at h;exact vx x t j u _ _ _ _ h
   ·rw[zop]at h;exact wpAny_eqBool_str h
 «strs»:=λk x t v h=>by
  rcases sQ h with⟨i,u,rfl,e⟩ | ⟨y,u,rfl,e⟩
  ·exact nomatch e
  ·injection e with e1 _
   subst e1;cases v <;> rfl
theorem zoL (prog:Program)(w:World)(i:Int)(t:Tok):(xB prog w).is (.inl i) (.int i t)=true:=zoi i t
theorem zcF (prog:Program)(w:World)(x:Str)(t:Tok):(xB prog w).is (.inr x) (.str x t)=true:=zoj x t
end L2
namespace L2
open PySem PySem.Spec PyProof.Rows
inductive V where
 | non | bl (b:Bool) | int (i:Int) | str (x:Str) | byt (b:Array UInt8) | flt (b:UInt64) | ref (a:Addr) | ty (n:String)
 deriving DecidableEq
def zN:V->Value->Prop
 | .non,u=>u=Value.none
 | .bl b,u=>u=Value.bool b
 | .int i,u=> ∃t,u=Value.int i t
 | .str x,u=> ∃t,u=Value.str x t
 | .byt b,u=> ∃t,u=Value.bytes b t
 | .flt b,u=> ∃t,u=Value.float b t
 | .ref a,u=>u=Value.ref a
 | .ty n,u=>u=Value.type n
abbrev zJ:List V->List Value->Prop:=Paired zN
theorem zJ.length {xs:List V}{us:List Value}(r:zJ xs us):xs.length=us.length:=ii r
theorem zJ.get: ∀{xs:List V} {us:List Value} {i:Nat} {x:V},zJ xs us->xs[i]?=some x->∃u,us[i]?=some u/\zN x u
 | _,_,_,_,.nil,e=>by simp at e
 | _,_,0,_,.cons r _,e=>by simp at e;subst e;exact⟨_,rfl,r⟩
 | _,_,i+1,x,.cons _ t,e=>by
  obtain⟨u,h1,h2⟩:=zJ.get (i:=i) (x:=x) t (by simpa using e);exact⟨u,by simpa using h1,h2⟩
theorem zJ.set {x:V}{u:Value}(r:zN x u): ∀{xs:List V} {us:List Value} (i:Nat),zJ xs us->zJ (xs.set i x) (us.set i u)
 | _,_,_,.nil=> .nil
 | _,_,0,.cons _ t=> .cons r t
 | _,_,i+1,.cons q t=> .cons q (zJ.set r i t)
theorem zJ.append: ∀{xs ys:List V} {us ws:List Value},zJ xs us->zJ ys ws->zJ (xs++ys) (us++ws)
 | _,_,_,_,.nil,s=>s
 | _,_,_,_,.cons r t,s=> .cons r (zJ.append t s)
theorem zJ.take: ∀{xs:List V} {us:List Value} (n:Nat),zJ xs us->zJ (xs.take n) (us.take n)
 | _,_,0,_=> .nil
 | _,_,_+1,.nil=> .nil
 | _,_,n+1,.cons r t=> .cons r (zJ.take n t)
theorem zJ.drop: ∀{xs:List V} {us:List Value} (n:Nat),zJ xs us->zJ (xs.drop n) (us.drop n)
 | _,_,0,r=>r
 | _,_,_+1,.nil=> .nil
 | _,_,n+1,.cons _ t=>zJ.drop n t
def uY:Option V->Option Value->Prop
 | some v,some u=>zN v u
 | none,none=>True
 | _,_=>False
def KV {κ:Type} :List (κ×V)->List (κ×Value)->Prop:=Paired λ(p:κ×V) (q:κ×Value)=>p.1=q.1/\zN p.2 q.2
def kV:z6->V
 | .inl i=> .int i
 | .inr x=> .str x
inductive HO where
 | lst (xs:List V)
 | tup (xs:List V)
 | dK (kvs:List (z6×V)) | dT (kvs:List (List z6×V))
 | set (S:Int->Bool) (n:Nat)
 | ins (C dx:Addr) (fs:List (Str×V))
 | own (x:Addr)
 | xd (fs:List (Str×V))
 | met (f x:Addr)
 | rng (lo hi:Int)
 | frz (o:Obj) (u:HO)
 | tbl (ps:Array Value)
 | ext (φ:Heap->Prop)
abbrev Hp:=Addr->Option HO
def upd (H:Hp)(a:Addr)(o:HO):Hp:=λb=>if b=a then some o else H b
theorem yO {H:Hp}{a:Addr}{o:HO} :upd H a o a=some o:=by unfold upd;rw[if_pos rfl]
theorem yN {H:Hp}{a b:Addr}{o:HO}(h:b≠a):upd H a o b=H b:=by unfold upd;rw[if_neg h]
theorem zph {H:Hp}{a b:Addr}{o u:HO}(h:H a=some o)(h':H b=some u)(d:o≠u):a≠b:=by
 intro e;subst e;rw[h]at h';exact d (ce h')
theorem tW {H:Hp}{a b:Addr}{o:HO}(h:H a=some o)(h':H b=none):a≠b:=by
 intro e;subst e;rw[h]at h';cases h'
def uJ (h:Heap)(a:Addr)(items:Array Value):Prop:= ∃o,h.get? a=some o/\o.cls= .type "tuple" /\∃n,o.data= .seq items n/\o.dict=none
theorem uJ.tup {h:Heap}{a:Addr}{items:Array Value}(x:uJ h a items):IsTup h a items:=let⟨o,e,c,n,d,_⟩:=x;⟨o,e,c,n,d⟩
theorem uJ.lt {h:Heap}{a:Addr}{items:Array Value}(x:uJ h a items):a < h.objs.size:=let⟨_,e,_⟩:=x;aw e
theorem uJ.new (h:Heap)(items:Array Value):uJ (h.push {cls:= .type "tuple",data:= .seq items}) h.objs.size items:=⟨_,br _ rfl,rfl,_,rfl,rfl⟩
section
variable (P:Program) (w:World)
def xR (H:Hp)(h:Heap)(a:Addr):HO->Prop
 | .lst xs=>xs.length<=sizeLine/\∃(its:List Value) (n:Nat),zJ xs its/\h.get? a=some {cls:= .type "list",data:= .seq its.toArray n}
 | .tup xs=>xs.length<=sizeLine/\∃its:List Value,zJ xs its/\uJ h a its.toArray
 | .dK kvs=>kvs.length<=sizeLine/\(a==sysModules)=false/\∃vs,KV kvs vs/\h.DictOf (xB P w) a vs
 | .dT kvs=>kvs.length<=sizeLine/\(a==sysModules)=false/\∃xs:List (List z6×Addr×Value),
   Paired (λ(p:List z6×V) (q:List z6×Addr×Value)=>p.1=q.1/\H q.2.1=some (.tup (p.1.map kV))/\zN p.2 q.2.2) kvs xs/\
   ∃o es ep,h.get? a=some o/\o.ExactDict/\o.data= .dict es ep/\es.toList=xs.map (entryOfKey (tupleKind (xB P w)))/\(xs.map (·.1)).Nodup
 | .set S n=>h.SetOf (intKind P w) a S n
 | .ins C dx fs=>H dx=some (.own a)/\fs.length<=1000/\dx≠a/\h.get? a=some (PySem.W.instObj C dx)/\
   ∃mA,h.Ns1 dx mA/\(∀f,uY (fs.lookup f) (mA f))/\PySem.Within mA (fs.map (·.1))
 | .own _=> ∃o,h.get? a=some o
 | .xd fs=> ∃mA,h.Ns1 a mA/\∀f,uY (fs.lookup f) (mA f)
 | .rng lo hi=> ∃t u v,h.get? a=some {cls:= .type "range",data:= .fields #[.int lo t,.int hi u,.int 1 v]}
 | .frz o u=>h.get? a=some o/\xR H h a u
 | .tbl ps=>h.get? a=some {cls:= .none,data:= .fields ps}
 | .met f x=>h.get? a=some (methodObj (.ref f) (.ref x))
 | .ext φ=>φ h/\(∃o,h.get? a=some o)/\∀h1 h2:Heap,φ h1->(∀o,h1.get? a=some o->h2.get? a=some o)->φ h2
def x6 (H:Hp)(h:Heap):Prop:= ∀a o,H a=some o->xR P w H h a o
end
section
variable {P:Program} {w:World} {H H':Hp} {h h':Heap} {a:Addr} {o:HO}
theorem xR.lt (x:xR P w H h a o):a < h.objs.size:=by
 cases o with
 | lst xs=>obtain⟨_,_,_,_,e⟩:=x;exact aw e
 | tup xs=>obtain⟨_,_,_,p⟩:=x;exact p.lt
 | dK kvs=>obtain⟨_,_,_,_,o,_,_,e,_⟩:=x;exact aw e
 | dT kvs=>obtain⟨_,_,_,_,o,_,_,e,_⟩:=x;exact aw e
 | set S n=>obtain⟨o,_,_,_,e,_⟩:=x;exact aw e
 | ins C dx fs=>obtain⟨_,_,_,e,_⟩:=x;exact aw e
 | own y=>obtain⟨_,e⟩:=x;exact aw e
 | xd fs=>obtain⟨_,⟨_,_,_,e,_⟩,_⟩:=x;exact aw e
 | rng lo hi=>obtain⟨_,_,_,e⟩:=x;exact aw e
 | frz ob u=>obtain⟨e,_⟩:=x;exact aw e
 | tbl ps=>exact aw (show h.get? a=some _ from x)
 | met f y=>exact aw (show h.get? a=some _ from x)
 | ext φ=>obtain⟨_,⟨_,e⟩,_⟩:=x;exact aw e
theorem Paired.mapP {α β:Type}{F G:α->β->Prop} : ∀{l₁:List α} {l₂:List β},Paired F l₁ l₂->(∀a b,F a b->G a b)->Paired G l₁ l₂
 | _,_,.nil,_=> .nil
 | _,_,.cons r t,f=> .cons (f _ _ r) (Paired.mapP t f)
theorem xR.stay (x:xR P w H h a o)(k: ∀b u,(b=a∨H b=some (.own a))->h.get? b=some u->h'.get? b=some u)
  (ho: ∀b,H b=some (.own a)->H' b=some (.own a)) (ht: ∀b xs,H b=some (.tup xs)->H' b=some (.tup xs)):xR P w H' h' a o:=by
 induction o with
 | lst xs=>obtain⟨z,its,n,r,e⟩:=x;exact⟨z,its,n,r,k _ _ (.inl rfl) e⟩
 | tup xs=>obtain⟨z,its,r,ob,e,c⟩:=x;exact⟨z,its,r,ob,k _ _ (.inl rfl) e,c⟩
 | dK kvs=>obtain⟨z,y,vs,r,ob,es,ep,e,c⟩:=x;exact⟨z,y,vs,r,ob,es,ep,k _ _ (.inl rfl) e,c⟩
 | dT kvs=>
  obtain⟨z,y,xs,r,ob,es,ep,e,c⟩:=x;exact⟨z,y,xs,Paired.mapP r λp q z=>⟨z.1,ht _ _ z.2.1,z.2.2⟩,ob,es,ep,k _ _ (.inl rfl) e,c⟩
 | set S n=>obtain⟨ob,es,ep,t,e,c⟩:=x;exact⟨ob,es,ep,t,k _ _ (.inl rfl) e,c⟩
 | ins C dx fs=>
  obtain⟨d,z,ne,e,mA,⟨od,es,ep,e2,c⟩,r⟩:=x;exact⟨ho _ d,z,ne,k _ _ (.inl rfl) e,mA,⟨od,es,ep,k _ _ (.inr d) e2,c⟩,r⟩
 | own y=>obtain⟨ob,e⟩:=x;exact⟨ob,k _ _ (.inl rfl) e⟩
 | xd fs=>obtain⟨mA,⟨od,es,ep,e,c⟩,r⟩:=x;exact⟨mA,⟨od,es,ep,k _ _ (.inl rfl) e,c⟩,r⟩
 | rng lo hi=>obtain⟨t,u,v,e⟩:=x;exact⟨t,u,v,k _ _ (.inl rfl) e⟩
 | frz ob u ih=>obtain⟨e,q⟩:=x;exact⟨k _ _ (.inl rfl) e,ih q⟩
 | tbl ps=>
  have e:h.get? a=some {cls:= .none,data:= .fields ps} :=x;show h'.get? a=some {cls:= .none,data:= .fields ps};exact k a _ (.inl rfl) e
 | met f y=>
  have e:h.get? a=some (methodObj (.ref f) (.ref y)):=x;show h'.get? a=some (methodObj (.ref f) (.ref y));exact k a _ (.inl rfl) e
 | ext φ=>obtain⟨p,⟨o,e⟩,st⟩:=x;exact⟨st _ _ p λo q=>k _ _ (.inl rfl) q,⟨o,k _ _ (.inl rfl) e⟩,st⟩
theorem x6.lt (x:x6 P w H h)(e:H a=some o):a < h.objs.size:=(x a o e).lt
theorem x6.fresh (x:x6 P w H h)(e:h.objs.size<=a):H a=none:=by
 cases q:H a with
 | none=>rfl
 | some u=>exact absurd (bj (x.lt q) e) (eh _)
theorem x6.kept (x:x6 P w H h)(k: ∀b u,h.get? b=some u->h'.get? b=some u):x6 P w H h':=λa o e=>
 (x a o e).stay (λb u _ q=>k b u q) (λ_ q=>q) λ_ _ q=>q
theorem x6.laid (x:x6 P w H h)(k: ∀b u,h.get? b=some u->h'.get? b=some u)(hp:h.objs.size<=a)(new:xR P w (upd H a o) h' a o):x6 P w (upd H a o) h':=λb u e=>by
 have hn:=x.fresh hp;by_cases hb:b=a
 ·subst hb;rw[yO]at e;cases e;exact new
 ·rw[yN hb]at e
  exact(x b u e).stay (λc v _ q=>k c v q) (λc q=>by rw[yN (tW q hn)];exact q) λc xs q=>by rw[yN (tW q hn)];exact q
end
def Rd (H:Hp)(a:Addr)(u:HO):Prop:=H a=some u∨∃o,H a=some (.frz o u)
theorem Rd.ok {P:Program}{w:World}{H:Hp}{h:Heap}{a:Addr}{u:HO}(r:Rd H a u)(x:x6 P w H h):xR P w H h a u:=by
 rcases r with r | ⟨o,r⟩
 ·exact x a u r
 ·obtain⟨_,q⟩:=x a _ r
  exact q
def mB:Option HO->Prop
 | some (.lst _)=>True
 | some (.dK _)=>True
 | some (.dT _)=>True
 | some (.set _ _)=>True
 | some (.ins _ _ _)=>True
 | some (.ext _)=>True
 | _=>False
section
variable {P:Program} {w:World} {H:Hp} {h h':Heap} {x e:Addr} {o':HO}
theorem x6.write (ok:x6 P w H h)(mu:mB (H x))(he:e=x∨H e=some (.own x))(k: ∀b u,b≠e->h.get? b=some u->h'.get? b=some u)(heo: ∃u,h'.get? e=some u)
  (new:xR P w (upd H x o') h' x o'):x6 P w (upd H x o') h':=λb u q=>by
 have nown: ∀c y,H c=some (.own y)->c≠x:=λc y r z=>by subst z;rw[r]at mu;exact mu
 have ntup: ∀c xs,H c=some (.tup xs)->c≠x:=λc xs r z=>by subst z;rw[r]at mu;exact mu
 by_cases hb:b=x
 ·subst hb;rw[yO]at q;cases q;exact new
 ·rw[yN hb]at q
  by_cases hbe:b=e
  ·have q':H b=some (.own x):=by
    rcases he with z | z
    ·exact absurd (hbe.trans z) hb
    ·rw[hbe];exact z
   rw[q]at q';cases q';obtain⟨v,hv⟩:=heo;exact⟨v,by rw[hbe];exact hv⟩
  ·refine(ok b u q).stay (λc v hc r=>k c v ?_ r) (λc r=>by rw[yN (nown c b r)];exact r) λc xs r=>by rw[yN (ntup c xs r)];exact r
   rcases hc with rfl | hc
   ·exact hbe
   ·rintro rfl
    rcases he with z | z
    ·exact nown c b hc z
    ·rw[hc]at z;cases z;exact hb rfl
end
structure Un (fs ex:List Addr)(H H':Hp)(h h':Heap):Prop where
 keep: ∀b o,h.get? b=some o->H b=none->b∉fs->b∉ex->h'.get? b=some o
 slot: ∀b o,h.get? b=some o->H b=none->b∈fs->b∉ex->∃sl,h'.get? b=some {o with slots:=sl}
 free: ∀b o,h.get? b=some o->H b=none->b∉ex->H' b=none
 there: ∀b o,h.get? b=some o->b∉ex->∃o',h'.get? b=some o'
 tups: ∀b xs,H b=some (.tup xs)->H' b=some (.tup xs)
 frzs: ∀b o u,H b=some (.frz o u)->H' b=some (.frz o u)
 tbls: ∀b ps,H b=some (.tbl ps)->∃more,H' b=some (.tbl (ps++more))
section
variable {fs fs' ex ex':List Addr} {H H1 H2:Hp} {h h1 h2 h':Heap} {a x e:Addr} {o:HO}
theorem Un.any (u:Un fs ex H H1 h h1){b:Addr}{ob:Obj}(q:h.get? b=some ob)(n:H b=none)(hx:b∉ex): ∃sl,h1.get? b=some {ob with slots:=sl} :=by
 by_cases hb:b∈fs
 ·exact u.slot b ob q n hb hx
 ·exact⟨ob.slots,u.keep b ob q n hb hx⟩
theorem Un.kept (k: ∀b u,h.get? b=some u->h'.get? b=some u):Un fs ex H H h h':=
 ⟨λb ob q _ _ _=>k b ob q,λb ob q _ _ _=>⟨ob.slots,k b ob q⟩,λ_ _ _ n _=>n,λb ob q _=>⟨ob,k b ob q⟩,λ_ _ q=>q,λ_ _ _ q=>q,λ_ ps q=>⟨#[],by rw[q];simp⟩⟩
theorem Un.refl:Un fs ex H H h h:=Un.kept λ_ _ q=>q
theorem Un.laid (k: ∀b u,h.get? b=some u->h'.get? b=some u)(hp:h.objs.size<=a)(hn:H a=none):Un fs ex H (upd H a o) h h' where
 keep:=λb u q _ _ _=>k b u q
 slot:=λb u q _ _ _=>⟨u.slots,k b u q⟩
 free:=λb u q n _=>by rw[yN (bb (bj (aw q) hp))];exact n
 there:=λb u q _=>⟨u,k b u q⟩
 tups:=λb xs q=>by rw[yN (tW q hn)];exact q
 frzs:=λb u xs q=>by rw[yN (tW q hn)];exact q
 tbls:=λb ps q=>⟨#[],by rw[yN (tW q hn),q];simp⟩
theorem Un.write (mu:mB (H x))(he:e=x∨H e=some (.own x))(k: ∀b u,b≠e->h.get? b=some u->h'.get? b=some u)(heo: ∃u,h'.get? e=some u):Un fs ex H (upd H x o) h h':=by
 have hx: ∀b,H b=none->b≠x:=λb n z=>by subst z;rw[n]at mu;exact mu
 have hb: ∀b,H b=none->b≠e:=λb n z=>by
  subst z;rcases he with r | r
  ·exact hx b n r
  ·rw[n]at r;cases r
 have hm: ∀b u,H b=some u->¬ mB (some u)->b≠x:=λb u q nm z=>by subst z;rw[q]at mu;exact nm mu
 refine⟨λb u q n _ _=>k b u (hb b n) q,λb u q n _ _=>⟨u.slots,k b u (hb b n) q⟩,λb u q n _=>by rw[yN (hx b n)];exact n,λb u q _=> ?_,
  λb xs q=>by rw[yN (hm b _ q λz=>z)];exact q,λb u xs q=>by rw[yN (hm b _ q λz=>z)];exact q,λb ps q=>⟨#[],by rw[yN (hm b _ q λz=>z),q];simp⟩⟩
 by_cases hbe:b=e
 ·subst hbe;exact heo
 ·exact⟨u,k b u hbe q⟩
end
def vX (h:Heap)(H:Hp):List Addr:=(List.range h.objs.size).filter λa=>(H a).isSome
def rL (h:Heap)(H:Hp):Heap:=PySem.W.hideAll h (vX h H)
theorem znJ (h:Heap)(H:Hp):(rL h H).objs.size=h.objs.size:=PySem.W.hideAll_size _ _
theorem znI {h:Heap}{H:Hp}{b:Addr}{o:Obj}(e:h.get? b=some o)(n:H b=none):(rL h H).get? b=some o:=
 PySem.W.hideAll_get _ e λhm=>by
  have q:(H b).isSome=true:=(kj.mp hm).2;rw[n]at q;simp at q
theorem zp2 {h:Heap}{H:Hp}{b:Addr}{o:Obj}(e:(rL h H).get? b=some o):h.get? b=some o/\H b=none:=by
 have e':h.get? b=some o:=PySem.W.of_hideAll (vX h H) e;refine⟨e',?_⟩;cases q:H b with
 | none=>rfl
 | some x=>
  have hm:b∈vX h H:=kj.mpr ⟨ot.mpr (aw e'),by simp[q]⟩;have z:(rL h H).get? b=none:=PySem.W.hideAll_none (vX h H) hm;rw[z]at e;cases e
def zme (g h:Heap)(L:Addr):List (Addr×Obj):=(List.range h.objs.size).filterMap λa=>if a=L∨(g.get? a).isSome=true then none else(h.get? a).map λo=>(a,o)
def zO (g h:Heap)(L d:Addr):List (Addr×Obj):=(zme g h L).filter λp=>decide (p.1≠d)
end L2
namespace L2
open PySem PySem.Spec PyProof.Rows
structure Mod (K:Frag)(mg:Str->Option Value)(base:Heap):Prop where
 kin:K.In base
 glob:base.Ns mainGlobals mg
 blt: ∃mb,base.Ns builtinsNs mb/\∀x:Str,x≠ "__name__" ->mb x=bootBuiltins x
 nolimit:base.NoLimit
structure Cx where
 prog:Program
 w:World
 K:Frag
 mg:Str->Option Value
 base:Heap
 A:Around
 N:List Str
 s₀:Shared
 H₀:Hp
 env:Env
 outer:List Env
 stack:List Env
 ex:List Addr
 fn:Str->Bool
 calm:Bool
 pn:List (Addr×Obj)
 xe:Value->Shared->Prop
def xS (l:List Env):List Addr:=l.filterMap (·.frame)
abbrev Cx.fs (X:Cx):List Addr:=xS X.outer
def kS (sc:Scope)(x:Str):Prop:=sc.names.lookup x=some .local∨sc.names.lookup x=some .cell∨sc.names.lookup x=some .free
def uW (sc:Scope)(x:Str):Prop:=sc.names.lookup x=some .local∨sc.names.lookup x=some .cell
def zlV (env:Env)(h:Heap)(m:Str->Option Value)(x:Str)(u:Value):Prop:=
 (env.kindOf x=some .local/\m x=some u)∨((env.kindOf x=some .cell∨env.kindOf x=some .free)/\∃c,env.cells.lookup x=some c/\h.IsCell c (some u))
structure Cx.Ok (X:Cx):Prop where
 mod:Mod X.K X.mg X.base
 kind:X.env.scope.kind= .function
 glob:X.env.globals=mainGlobals
 blt:X.env.builtins=builtinsNs
 above:X.s₀.heap.objs.size<=X.env.locals
 inj: ∀x y c,X.env.cells.lookup x=some c->X.env.cells.lookup y=some c->x=y
 has: ∀x,(X.env.kindOf x=some .cell∨X.env.kindOf x=some .free)->∃c,X.env.cells.lookup x=some c
 cab: ∀x c,X.fn x=true->X.env.cells.lookup x=some c->X.s₀.heap.objs.size<=c
 hd:X.calm=true->X.A.handled=none
 frames:X.A.frames=some X.stack
 stk:X.stack=X.outer∨(X.stack=X.env::X.outer/\X.env.frame=some X.env.locals)
 exf: ∀b∈X.ex,b≠X.env.locals/\∀x c,X.env.cells.lookup x=some c->c≠b
 bs: ∀b o,X.base.get? b=some o->X.s₀.heap.get? b=some o/\X.H₀ b=none
 bsz:X.base.objs.size<=X.s₀.heap.objs.size
 noex: ∀b o,X.base.get? b=some o->b∉X.ex
 exfs: ∀b∈X.ex,b∉X.fs
 funs:X.s₀.heap.FunFrames X.base X.outer
 frf: ∀b∈X.fs,X.H₀ b=none
structure z5 (X:Cx)(pins:List (Addr×Obj))(σ:List (Option V))(H:Hp)(s:Shared):Prop where
 ok:X.Ok
 os:s.os=X.s₀.os
 bare:AllBare s.gens
 base:Un X.fs X.ex X.H₀ H X.s₀.heap s.heap
 loc: ∃m,s.heap.Ns X.env.locals m/\∀(i:Nat) (x:Str) (v:V),X.N[i]?=some x->σ[i]?=some (some v)->kS X.env.scope x->∃u,zN v u/\zlV X.env s.heap m x u
 cell: ∀x c,X.env.cells.lookup x=some c->∃v,s.heap.IsCell c v
 free:H X.env.locals=none
 freeC: ∀x c,X.env.cells.lookup x=some c->H c=none
 pin: ∀p∈X.pn++pins,s.heap.get? p.1=some p.2/\H p.1=none/\p.1≠X.env.locals/\p.1∉X.fs/\∀v,p.2.data≠ .cell v
 hok:x6 X.prog X.w H s.heap
 len:σ.length=X.N.length
section
variable {X:Cx} {pins:List (Addr×Obj)} {σ:List (Option V)} {H H':Hp} {s:Shared} {h':Heap}
theorem Cx.Ok.nofr (ok:X.Ok){b:Addr}{o:Obj}(e:X.base.get? b=some o):b∉X.fs:=λhb=>by
 have:=(ok.funs.mem hb).1;rw[e]at this;cases this
theorem z5.bs (I:z5 X pins σ H s): ∀b o,X.base.get? b=some o->s.heap.get? b=some o/\H b=none:=λb o e=>
 ⟨I.base.keep b o (I.ok.bs b o e).1 (I.ok.bs b o e).2 (I.ok.nofr e) (I.ok.noex b o e),I.base.free b o (I.ok.bs b o e).1 (I.ok.bs b o e).2 (I.ok.noex b o e)⟩
theorem z5.bk (I:z5 X pins σ H s): ∀b o,X.base.get? b=some o->s.heap.get? b=some o:=λb o e=>(I.bs b o e).1
theorem z5.mod (I:z5 X pins σ H s):Mod X.K X.mg X.base:=I.ok.mod
theorem z5.kIn (I:z5 X pins σ H s):X.K.In s.heap:=I.ok.mod.kin.keeps I.bk
theorem z5.lt (I:z5 X pins σ H s):X.env.locals < s.heap.objs.size:=let⟨_,hn,_⟩:=I.loc;hn.lt
theorem z5.sz (I:z5 X pins σ H s):X.s₀.heap.objs.size<=s.heap.objs.size:=bf I.ok.above (lx I.lt)
theorem z5.nofs (I:z5 X pins σ H s){a:Addr}(h:s.heap.objs.size<=a):a∉X.fs:=λhb=>by
 obtain⟨_,o,ho,_⟩:=I.ok.funs.mem hb;exact absurd (bj (aw ho) (bf I.sz h)) (eh _)
theorem z5.cne (I:z5 X pins σ H s): ∀x c,X.env.cells.lookup x=some c->c≠X.env.locals:=λx c e z=>by
 obtain⟨v,o,ho,hd⟩:=I.cell x c e;obtain⟨m,⟨o',es,ep,ho',hd',_⟩,_⟩:=I.loc;rw[z,ho']at ho;cases ho;rw[hd']at hd;cases hd
theorem z5.funs (I:z5 X pins σ H s):s.heap.FunFrames X.base X.outer:=by
 have all: ∀(l:List Env),(∀b∈xS l,b∈X.fs)->X.s₀.heap.FunFrames X.base l->s.heap.FunFrames X.base l:=by
  intro l
  induction l with
  | nil=>intro _ _;trivial
  | cons env r ih=>
   intro hs hl;obtain⟨hk,⟨L,o,hf,hn,ho,hd⟩,hr⟩:=hl;have hL:L∈X.fs:=hs L (by unfold xS;rw[bx,hf];exact ar);obtain⟨sl,e⟩:=I.base.slot L o ho (I.ok.frf L hL) hL λz=>I.ok.exfs L z hL;exact⟨hk,⟨L,_,hf,hn,e,hd⟩,ih (λb hb=>hs b (by unfold xS;rw[bx,hf];exact bc _ hb)) hr⟩
 exact all X.outer (λ_ hb=>hb) I.ok.funs
theorem z5.stack (I:z5 X pins σ H s):s.heap.FunFrames X.base X.stack:=by
 rcases I.ok.stk with e | ⟨e,hf⟩
 ·rw[e];exact I.funs
 ·rw[e]
  obtain⟨m,hn,_⟩:=I.loc;refine .cons (by rw[I.ok.kind];decide) hf hn ?_ I.funs;exact Heap.get?_none_of_le (bf I.ok.bsz I.ok.above)
theorem z5.stkSub (I:z5 X pins σ H s): ∀b∈xS X.stack,b∈X.env.locals::X.fs:=λb hb=>by
 rcases I.ok.stk with e | ⟨e,hf⟩
 ·rw[e]at hb;exact bc _ hb
 ·rw[e]at hb
  unfold xS at hb;rw[bx,hf]at hb;exact hb
theorem z5.stkFree (I:z5 X pins σ H s): ∀b∈xS X.stack,H b=none:=λb hb=>by
 rcases az.mp (I.stkSub b hb)with e | hb
 ·rw[e];exact I.free
 ·obtain⟨_,o,ho,_⟩:=I.ok.funs.mem hb
  exact I.base.free b o ho (I.ok.frf b hb) λz=>I.ok.exfs b z hb
theorem z5.step {g':Array GenState}{t':Nat}{d':Drawn}{ch:List Addr}(I:z5 X pins σ H s)
  (hch: ∀b∈ch,(b∈X.ex∨X.s₀.heap.objs.size<=b)/\b≠X.env.locals/\(∀x c,X.env.cells.lookup x=some c->c≠b)/\∀p∈X.pn++pins,p.1≠b)
  (keep: ∀b o,b≠X.env.locals->b∉X.fs->b∉ch->s.heap.get? b=some o->H b=none->h'.get? b=some o)
  (slot: ∀b o,b≠X.env.locals->b∈X.fs->b∉ch->s.heap.get? b=some o->H b=none->∃sl,h'.get? b=some {o with slots:=sl}) (free: ∀b o,b∉ch->s.heap.get? b=some o->H b=none->H' b=none)
  (there: ∀b o,b∉ch->s.heap.get? b=some o->∃o',h'.get? b=some o')
  (tups: ∀b xs,H b=some (.tup xs)->H' b=some (.tup xs)) (frzs: ∀b o u,H b=some (.frz o u)->H' b=some (.frz o u)) (tbls: ∀b ps,H b=some (.tbl ps)->∃more,H' b=some (.tbl (ps++more)))
  (ns: ∀m,s.heap.Ns X.env.locals m->h'.Ns X.env.locals m) (hok:x6 X.prog X.w H' h') (hg:AllBare g'):
  z5 X pins σ H' {s with heap:=h',gens:=g',drawn:=d',toks:=t'} :=by
 have neL: ∀b o,X.s₀.heap.get? b=some o->b≠X.env.locals:=λb o e=>bb (bj (aw e) I.ok.above);have neC: ∀b o,X.s₀.heap.get? b=some o->b∉X.ex->b∉ch:=λb o e hx hb=>by
  rcases(hch b hb).1 with z | z
  ·exact hx z
  ·exact absurd (bj (aw e) z) (eh _)
 have cellK: ∀x c,X.env.cells.lookup x=some c->∀v,s.heap.IsCell c v->h'.IsCell c v:=λx c e v ⟨o,ho,hd⟩=>by
  have nch:c∉ch:=λz=>(hch c z).2.2.1 x c e rfl;by_cases hc:c∈X.fs
  ·obtain⟨sl,q⟩:=slot c o (I.cne x c e) hc nch ho (I.freeC x c e)
   exact⟨_,q,hd⟩
  ·exact⟨o,keep c o (I.cne x c e) hc nch ho (I.freeC x c e),hd⟩
 refine⟨I.ok,I.os,hg,⟨λb o e n hb hx=> ?_,λb o e n hb hx=> ?_,λb o e n hx=> ?_,λb o e hx=> ?_,λb xs e=>tups b xs (I.base.tups b xs e),λb o xs e=>frzs b o xs (I.base.frzs b o xs e),λb ps e=> ?_⟩,?_,λx c e=> ?_,?_,λx c e=> ?_,λp hp=> ?_,hok,I.len⟩
 ·exact keep b o (neL b o e) hb (neC b o e hx) (I.base.keep b o e n hb hx) (I.base.free b o e n hx)
 ·obtain⟨sl,e1⟩:=I.base.slot b o e n hb hx
  obtain⟨sl',e2⟩:=slot b _ (neL b o e) hb (neC b o e hx) e1 (I.base.free b o e n hx);exact⟨sl',e2⟩
 ·obtain⟨o',e1⟩:=I.base.there b o e hx
  exact free b o' (neC b o e hx) e1 (I.base.free b o e n hx)
 ·obtain⟨o',e1⟩:=I.base.there b o e hx
  exact there b o' (neC b o e hx) e1
 ·obtain⟨m1,e1⟩:=I.base.tbls b ps e
  obtain⟨m2,e2⟩:=tbls b _ e1;exact⟨m1++m2,by rw[e2,Array.append_assoc]⟩
 ·obtain⟨m,hn,hl⟩:=I.loc
  refine⟨m,ns m hn,λi x v e1 e2 e3=> ?_⟩;obtain⟨u,r,l⟩:=hl i x v e1 e2 e3;refine⟨u,r,?_⟩;rcases l with l | ⟨k,c,e,z⟩
  ·exact .inl l
  ·exact .inr ⟨k,c,e,cellK x c e _ z⟩
 ·obtain⟨v,z⟩:=I.cell x c e
  exact⟨v,cellK x c e v z⟩
 ·obtain⟨m,⟨o,_,_,ho,_⟩,_⟩:=I.loc
  exact free _ o (λz=>(hch _ z).2.1 rfl) ho I.free
 ·obtain⟨v,o,ho,hd⟩:=I.cell x c e
  exact free c o (λz=>(hch c z).2.2.1 x c e rfl) ho (I.freeC x c e)
 ·obtain⟨e,n,ne,nf,d⟩:=I.pin p hp
  have nch:p.1∉ch:=λz=>(hch p.1 z).2.2.2 p hp rfl;exact⟨keep p.1 p.2 ne nf nch e n,free p.1 p.2 nch e n,ne,nf,d⟩
theorem z5.un {t':Nat}(I:z5 X pins σ H s)(u:Un X.fs [] H H' s.heap h')(hok:x6 X.prog X.w H' h'):z5 X pins σ H' {s with heap:=h',toks:=t'} :=by
 obtain⟨m,⟨o,es,ep,ho,r⟩,_⟩:=id I.loc;obtain⟨sl,hL⟩:=u.any ho I.free (by simp);exact I.step (g':=s.gens) (d':=s.drawn) (ch:= []) (λ_ z=>nomatch z) (λb o _ hb _ e n=>u.keep b o e n hb (by simp)) (λb o _ hb _ e n=>u.slot b o e n hb (by simp)) (λb o _ e n=>u.free b o e n (by simp)) (λb o _ e=>u.there b o e (by simp)) u.tups u.frzs u.tbls (λm' hm=>by
  obtain⟨o',es',ep',ho',r'⟩:=hm;rw[ho]at ho';cases ho';exact⟨_,es',ep',hL,r'⟩) hok I.bare
theorem z5.call {g':Array GenState}{t':Nat}{d':Drawn}{ch:List Addr}(I:z5 X pins σ H s)(u:Un (xS X.stack) ch H H' s.heap h')(hok:x6 X.prog X.w H' h')(hg:AllBare g')
  (hch: ∀b∈ch,(b∈X.ex∨X.s₀.heap.objs.size<=b)/\b≠X.env.locals/\(∀x c,X.env.cells.lookup x=some c->c≠b)/\∀p∈X.pn++pins,p.1≠b):
  z5 X pins σ H' {s with heap:=h',gens:=g',drawn:=d',toks:=t'} :=by
 obtain⟨m,⟨o,es,ep,ho,r⟩,_⟩:=id I.loc;obtain⟨sl,hL⟩:=u.any ho I.free λz=>(hch _ z).2.1 rfl;exact I.step (ch:=ch) hch (λb o hL hb hc e n=>u.keep b o e n (λz=>(az.mp (I.stkSub b z)).elim hL hb) hc) (λb o _ _ hc e n=>u.any e n hc) (λb o hc e n=>u.free b o e n hc) (λb o hc e=>u.there b o e hc) u.tups u.frzs u.tbls (λm' hm=>by
  obtain⟨o',es',ep',ho',r'⟩:=hm;rw[ho]at ho';cases ho';exact⟨_,es',ep',hL,r'⟩) hok hg
theorem z5.turned {t':Nat}{it:Addr}(I:z5 X pins σ H s)(k: ∀b o,b≠it->s.heap.get? b=some o->h'.get? b=some o)(hn:H it=none)(hL:it≠X.env.locals)
  (h1:it∈X.ex∨X.s₀.heap.objs.size<=it) (h2: ∀x c,X.env.cells.lookup x=some c->c≠it) (h3: ∀p∈X.pn++pins,p.1≠it):z5 X pins σ H {s with heap:=h',toks:=t'} :=by
 have nit: ∀b u,H b=some u->b≠it:=λb u e z=>by rw[z,hn]at e;cases e
 refine I.step (g':=s.gens) (d':=s.drawn) (ch:= [it]) (λb hb=> ?_) (λb o _ _ hc e _=>k b o (λz=>hc (by simp[z])) e) (λb o _ _ hc e _=>⟨o.slots,k b o (λz=>hc (by simp[z])) e⟩) (λ_ _ _ _ n=>n)
  (λb o hc e=>⟨o,k b o (λz=>hc (by simp[z])) e⟩) (λ_ _ e=>e) (λ_ _ _ e=>e) (λb ps e=>⟨#[],by rw[e];simp⟩) (λm hm=> ?_) (λb u e=> ?_) I.bare
 ·have e:b=it:=by simpa using hb
  subst e;exact⟨h1,hL,h2,h3⟩
 ·obtain⟨o,es,ep,ho,r⟩:=hm
  exact⟨o,es,ep,k _ o (dk hL) ho,r⟩
 ·refine(I.hok b u e).stay (λc v hc q=>k c v ?_ q) (λ_ q=>q) λ_ _ q=>q
  rcases hc with z | z
  ·rw[z];exact nit b u e
  ·exact nit c _ z
theorem z5.tok (I:z5 X pins σ H s)(t:Nat):z5 X pins σ H {s with toks:=t} :=I.un (h':=s.heap) (t':=t) Un.refl I.hok
theorem z5.kept {t':Nat}(I:z5 X pins σ H s)(k: ∀b u,s.heap.get? b=some u->h'.get? b=some u):z5 X pins σ H {s with heap:=h',toks:=t'} :=I.un (Un.kept k) (I.hok.kept k)
theorem z5.laid {a:Addr}{o:HO}{t':Nat}(I:z5 X pins σ H s)(k: ∀b u,s.heap.get? b=some u->h'.get? b=some u)(hp:s.heap.objs.size<=a)(new:xR X.prog X.w (upd H a o) h' a o):
  z5 X pins σ (upd H a o) {s with heap:=h',toks:=t'} :=I.un (Un.laid k hp (I.hok.fresh hp)) (I.hok.laid k hp new)
theorem z5.write {x e:Addr}{o:HO}{t':Nat}(I:z5 X pins σ H s)(mu:mB (H x))(he:e=x∨H e=some (.own x))(k: ∀b u,b≠e->s.heap.get? b=some u->h'.get? b=some u)(heo: ∃u,h'.get? e=some u)
  (new:xR X.prog X.w (upd H x o) h' x o):z5 X pins σ (upd H x o) {s with heap:=h',toks:=t'} :=I.un (Un.write mu he k heo) (I.hok.write mu he k heo new)
theorem z5.pins_of {pins':List (Addr×Obj)}(I:z5 X pins σ H s)(h: ∀p∈pins',s.heap.get? p.1=some p.2/\H p.1=none/\p.1≠X.env.locals/\p.1∉X.fs/\∀v,p.2.data≠ .cell v):z5 X pins' σ H s:=
 ⟨I.ok,I.os,I.bare,I.base,I.loc,I.cell,I.free,I.freeC,λp hp=>(au.mp hp).elim (λz=>I.pin p (ax _ z)) (h p),I.hok,I.len⟩
theorem ziX {N:List Str}(hN:N.Nodup){i j:Nat}{x:Str}(a:N[i]?=some x)(b:N[j]?=some x):i=j:=by
 obtain⟨h1,e1⟩:=ad.mp a;obtain⟨h2,e2⟩:=ad.mp b;exact(List.getElem_inj hN).mp (e1.trans e2.symm)
theorem zk5 {M:Model}{A:Around}{E:Value->Shared->Prop}{i:Nat}{x:Str}{v:V}{u:Value}{Q:Unit->Shared->Prop}(I:z5 X pins σ H s)(hN:X.N.Nodup)(hi:X.N[i]?=some x)(hx:uW X.env.scope x)(r:zN v u)
  (h: ∀s',z5 X pins (σ.set i (some v)) H s'->(∃a,Heap.SameBut a s.heap s'.heap/\(a=X.env.locals∨X.env.cells.lookup x=some a))->Q () s') (hf:X.fn x=true∨X.env.scope.names.lookup x=some .local:=by first | exact .inl rfl | exact .inr rfl | assumption):ak M A (storeName X.env x u) Q E s:=by
 obtain⟨m,hn,hl⟩:=id I.loc;have hcls:(X.env.scope.kind== .class||(X.env.scope.kind== .module&&X.env.locals !=X.env.globals))=false:=by rw[I.ok.kind];rfl
 have hiσ:i < σ.length:=by rw[I.len];exact(ad.mp hi).1
 have cne:=I.cne;have tracked: ∀{a:Addr} {h':Heap},(∃o,s.heap.get? a=some o/\H a=none)->Heap.SameBut a s.heap h'->x6 X.prog X.w H h':=λ{a h'} ha hs b ob e=>by
  obtain⟨_,_,hfree⟩:=ha;refine(I.hok b ob e).stay (λc w' hc q=>(hs.2 c ?_).trans q) (λ_ q=>q) λ_ _ q=>q;rintro rfl;rcases hc with rfl | hc
  ·rw[hfree]at e;cases e
  ·rw[hfree]at hc;cases hc
 rcases hx with hk | hk
 ·refine wpAny_storeName_local hk hn (λh' hn' hs=> ?_) hcls
  obtain⟨oL,_,_,hoL,_⟩:=id hn;refine h _ ⟨I.ok,I.os,I.bare,⟨λb o e n hb hx=> ?_,λb o e n hb hx=> ?_,I.base.free,λb o e hx=> ?_,I.base.tups,I.base.frzs,I.base.tbls⟩,⟨_,hn',λj y v' e1 e2 e3=> ?_⟩,λy c e=> ?_,I.free,I.freeC,λp hp=> ?_,tracked ⟨oL,hoL,I.free⟩ hs,by simpa using I.len⟩ ⟨_,hs,.inl rfl⟩
  ·exact(hs.2 b (bb (bj (aw e) I.ok.above))).trans (I.base.keep b o e n hb hx)
  ·obtain⟨sl,e1⟩:=I.base.slot b o e n hb hx
   exact⟨sl,(hs.2 b (bb (bj (aw e) I.ok.above))).trans e1⟩
  ·obtain⟨o',e1⟩:=I.base.there b o e hx
   exact⟨o',(hs.2 b (bb (bj (aw e) I.ok.above))).trans e1⟩
  ·by_cases hj:j=i
   ·subst hj
    rw[hi]at e1;cases e1;rw[gu hiσ]at e2;cases e2;exact⟨u,r,.inl ⟨hk,by simp⟩⟩
   ·rw[ka (dk hj)]at e2
    obtain⟨u',r',q⟩:=hl j y v' e1 e2 e3;refine⟨u',r',?_⟩;rcases q with⟨k,e⟩ | ⟨k,c,e,z⟩
    ·refine .inl ⟨k,?_⟩
     have:y≠x:=λe=>hj (ziX hN e1 (e▸hi));simp[this,e]
    ·exact .inr ⟨k,c,e,z.sameBut hs (cne y c e)⟩
  ·obtain⟨w',z⟩:=I.cell y c e
   exact⟨w',z.sameBut hs (cne y c e)⟩
  ·obtain⟨e,n,ne,nf,d⟩:=I.pin p hp
   exact⟨(hs.2 p.1 ne).trans e,n,ne,nf,d⟩
 ·have hfn:X.fn x=true:=by
   rcases hf with z | z
   ·exact z
   ·rw[z]at hk;cases hk
  obtain⟨c,hc⟩:=I.ok.has x (.inl hk);obtain⟨w',z⟩:=I.cell x c hc;refine wpAny_storeName_cell I.ok.kind hk hc z (λh' hc' hs=> ?_);obtain⟨oc,hoc,hocd⟩:=id z;refine h {s with heap:=h'} ⟨I.ok,I.os,I.bare,⟨λb o e n hb hx=> ?_,λb o e n hb hx=> ?_,I.base.free,λb o e hx=> ?_,I.base.tups,I.base.frzs,I.base.tbls⟩,⟨m,hn.sameBut hs (dk (cne x c hc)),λj y v' e1 e2 e3=> ?_⟩,λy c' e=> ?_,I.free,I.freeC,λp hp=> ?_,tracked ⟨oc,hoc,I.freeC x c hc⟩ hs,by simpa using I.len⟩ ⟨c,hs,.inr hc⟩
  ·exact(hs.2 b (bb (bj (aw e) (I.ok.cab x c hfn hc)))).trans (I.base.keep b o e n hb hx)
  ·obtain⟨sl,e1⟩:=I.base.slot b o e n hb hx
   exact⟨sl,(hs.2 b (bb (bj (aw e) (I.ok.cab x c hfn hc)))).trans e1⟩
  ·obtain⟨o',e1⟩:=I.base.there b o e hx
   exact⟨o',(hs.2 b (bb (bj (aw e) (I.ok.cab x c hfn hc)))).trans e1⟩
  ·by_cases hj:j=i
   ·subst hj
    rw[hi]at e1;cases e1;rw[gu hiσ]at e2;cases e2;exact⟨u,r,.inr ⟨.inl hk,c,hc,hc'⟩⟩
   ·rw[ka (dk hj)]at e2
    obtain⟨u',r',q⟩:=hl j y v' e1 e2 e3;refine⟨u',r',?_⟩;rcases q with q | ⟨k,c',e,z'⟩
    ·exact .inl q
    ·refine .inr ⟨k,c',e,z'.sameBut hs ?_⟩
     rintro rfl;exact hj (ziX hN e1 (I.ok.inj _ _ _ e hc▸hi))
  ·by_cases hcc:c'=c
   ·subst hcc;exact⟨_,hc'⟩
   ·obtain⟨w2,z2⟩:=I.cell y c' e
    exact⟨w2,z2.sameBut hs hcc⟩
  ·obtain⟨e,n,ne,nf,d⟩:=I.pin p hp
   refine⟨(hs.2 p.1 ?_).trans e,n,ne,nf,d⟩;intro q;rw[q,hoc]at e;have q':oc=p.2:=ce e;exact d w' (by rw[<- q'];exact hocd)
theorem lS {M:Model}{A:Around}{E:Value->Shared->Prop}{i:Nat}{x:Str}{v:V}{u:Value}{Q:Unit->Shared->Prop}(I:z5 X pins σ H s)(hN:X.N.Nodup)(hi:X.N[i]?=some x)(hx:uW X.env.scope x)(r:zN v u)
  (h: ∀s',z5 X pins (σ.set i (some v)) H s'->Q () s') (hf:X.fn x=true∨X.env.scope.names.lookup x=some .local:=by first | exact .inl rfl | exact .inr rfl | assumption):ak M A (storeName X.env x u) Q E s:=
 zk5 I hN hi hx r (λs' I' _=>h s' I') hf
theorem z5.call' {s':Shared}{ch:List Addr}(I:z5 X pins σ H s)(ho:s'.os=s.os)(u:Un (xS X.stack) ch H H' s.heap s'.heap)(hok:x6 X.prog X.w H' s'.heap)(hg:AllBare s'.gens)
  (hch: ∀b∈ch,(b∈X.ex∨X.s₀.heap.objs.size<=b)/\b≠X.env.locals/\(∀x c,X.env.cells.lookup x=some c->c≠b)/\∀p∈X.pn++pins,p.1≠b):z5 X pins σ H' s':=by
 obtain⟨h',g',d',t',o'⟩:=s';have e:o'=s.os:=ho;subst e;exact I.call (g':=g') (t':=t') (d':=d') u hok hg hch
end
abbrev XK:=Value->Option Addr->Hp->Prop
abbrev St:=List (Option V)
abbrev VK:=V->Hp->Prop
abbrev TE:=St->Hp->VK->Prop
abbrev TT:=St->Hp->(Bool->Hp->Prop)->Prop
abbrev TA:=St->Hp->(List V->Hp->Prop)->Prop
structure sF where
 nx:St->Hp->Prop
 rt:VK
 bk:St->Hp->Prop:=λ_ _=>False
 ct:St->Hp->Prop:=λ_ _=>False
abbrev TS:=sF->St->Hp->Prop
def EP (X:Cx)(pins:List (Addr×Obj))(σ:St)(Q:VK)(u:Value)(s':Shared):Prop:= ∃v H',z5 X pins σ H' s'/\zN v u/\Q v H'
def TP (X:Cx)(pins:List (Addr×Obj))(σ:St)(Q:Bool->Hp->Prop)(b:Bool)(s':Shared):Prop:= ∃H',z5 X pins σ H' s'/\Q b H'
def AP (X:Cx)(pins:List (Addr×Obj))(σ:St)(Q:List V->Hp->Prop)(us:List Value)(s':Shared):Prop:= ∃vs H',z5 X pins σ H' s'/\zJ vs us/\Q vs H'
def SP (X:Cx)(pins:List (Addr×Obj))(D:sF)(f:Flow)(s':Shared):Prop:=
 match f with
 | .next=> ∃σ' H',z5 X pins σ' H' s'/\D.nx σ' H'
 | .brk=> ∃σ' H',z5 X pins σ' H' s'/\D.bk σ' H'
 | .cont=> ∃σ' H',z5 X pins σ' H' s'/\D.ct σ' H'
 | .ret u=> ∃v σ' H',z5 X pins σ' H' s'/\zN v u/\D.rt v H'
structure PE (X:Cx)(e:Expr)(t:TE):Prop where
 run:
  ∀(pins:List (Addr×Obj)) (s:Shared) (σ:St) (H:Hp) (Q:VK),z5 X pins σ H s->t σ H Q->ak (ay X.prog X.w) X.A (eval e X.env) (EP X pins σ Q) X.xe s
instance {X:Cx} {e:Expr} {t:TE} :CoeFun (PE X e t) λ_=>
 ∀(pins:List (Addr×Obj)) (s:Shared) (σ:St) (H:Hp) (Q:VK),z5 X pins σ H s->t σ H Q->ak (ay X.prog X.w) X.A (eval e X.env) (EP X pins σ Q) X.xe s
  :=⟨PE.run⟩
structure PT (X:Cx)(e:Expr)(t:TT):Prop where
 run:
  ∀(pins:List (Addr×Obj)) (s:Shared) (σ:St) (H:Hp) (Q:Bool->Hp->Prop),z5 X pins σ H s->t σ H Q->ak (ay X.prog X.w) X.A (isTrue e X.env (eval e X.env)) (TP X pins σ Q) X.xe s
instance {X:Cx} {e:Expr} {t:TT} :CoeFun (PT X e t) λ_=>
 ∀(pins:List (Addr×Obj)) (s:Shared) (σ:St) (H:Hp) (Q:Bool->Hp->Prop),z5 X pins σ H s->t σ H Q->ak (ay X.prog X.w) X.A (isTrue e X.env (eval e X.env)) (TP X pins σ Q) X.xe s
  :=⟨PT.run⟩
structure PW (X:Cx)(e:Expr)(t:TT):Prop where
 run:
  ∀(whole:Sem Value) (pins:List (Addr×Obj)) (s:Shared) (σ:St) (H:Hp) (Q:Bool->Hp->Prop),z5 X pins σ H s->t σ H Q->ak (ay X.prog X.w) X.A (isTrue e X.env whole) (TP X pins σ Q) X.xe s
instance {X:Cx} {e:Expr} {t:TT} :CoeFun (PW X e t) λ_=>
 ∀(whole:Sem Value) (pins:List (Addr×Obj)) (s:Shared) (σ:St) (H:Hp) (Q:Bool->Hp->Prop),z5 X pins σ H s->t σ H Q->ak (ay X.prog X.w) X.A (isTrue e X.env whole) (TP X pins σ Q) X.xe s
  :=⟨PW.run⟩
theorem PW.pt {X:Cx}{e:Expr}{t:TT}(h:PW X e t):PT X e t:=⟨h.run _⟩
structure PA (X:Cx)(es:List Expr)(t:TA):Prop where
 run:
  ∀(pos:Pos) (pins:List (Addr×Obj)) (s:Shared) (σ:St) (H:Hp) (Q:List V->Hp->Prop),z5 X pins σ H s->t σ H Q->ak (ay X.prog X.w) X.A (spliced (backTo pos (starEach es X.env))) (AP X pins σ Q) X.xe s
instance {X:Cx} {es:List Expr} {t:TA} :CoeFun (PA X es t) λ_=>
 ∀(pos:Pos) (pins:List (Addr×Obj)) (s:Shared) (σ:St) (H:Hp) (Q:List V->Hp->Prop),z5 X pins σ H s->t σ H Q->ak (ay X.prog X.w) X.A (spliced (backTo pos (starEach es X.env))) (AP X pins σ Q) X.xe s
  :=⟨PA.run⟩
structure PS (X:Cx)(st:Stmt)(t:TS):Prop where
 run:
  ∀(pins:List (Addr×Obj)) (s:Shared) (σ:St) (H:Hp) (D:sF),z5 X pins σ H s->t D σ H->ak (ay X.prog X.w) X.A (exec st X.env) (SP X pins D) X.xe s
instance {X:Cx} {st:Stmt} {t:TS} :CoeFun (PS X st t) λ_=>
 ∀(pins:List (Addr×Obj)) (s:Shared) (σ:St) (H:Hp) (D:sF),z5 X pins σ H s->t D σ H->ak (ay X.prog X.w) X.A (exec st X.env) (SP X pins D) X.xe s
  :=⟨PS.run⟩
structure x8 (X:Cx)(st:List Stmt)(t:TS):Prop where
 run:
  ∀(pins:List (Addr×Obj)) (s:Shared) (σ:St) (H:Hp) (D:sF),z5 X pins σ H s->t D σ H->ak (ay X.prog X.w) X.A (execs st X.env) (SP X pins D) X.xe s
instance {X:Cx} {st:List Stmt} {t:TS} :CoeFun (x8 X st t) λ_=>
 ∀(pins:List (Addr×Obj)) (s:Shared) (σ:St) (H:Hp) (D:sF),z5 X pins σ H s->t D σ H->ak (ay X.prog X.w) X.A (execs st X.env) (SP X pins D) X.xe s
  :=⟨x8.run⟩
theorem zM {α:Type}{t:Sem α}{Q Q':α->Shared->Prop}{M:Model}{A:Around}{E:Value->Shared->Prop}{s:Shared}(h:ak M A t Q E s)(hQ: ∀a s,Q a s->Q' a s):ak M A t Q' E s:=jp h hQ λ_ _ x=>x
end L2
namespace L2
open PySem PySem.Spec PyProof.Rows
section
variable {X:Cx}
def lU (i:Nat):TE:=λσ H Q=> ∃v,σ[i]?=some (some v)/\Q v H
def tC (v:V):TE:=λ_ H Q=>Q v H
theorem iE {i:Nat}{x:Str}{pos:Pos}(hN:X.N[i]?=some x)(hv:kS X.env.scope x)(hd:(x==("__debug__" :Str))=false:=by decide)(hcd:(x==("__classdict__" :Str))=false:=by decide):PE X (.Name x pos) (lU i):=by
 (first | refine⟨?_⟩ | skip)
 intro pins s σ H Q I h;obtain⟨v,e,h⟩:=h;obtain⟨m,hn,hl⟩:=I.loc;obtain⟨u,r,l⟩:=hl i x v hN e hv;have fin:EP X pins σ Q u s:=⟨v,H,I,r,h⟩;rcases l with⟨hk,hm⟩ | ⟨hk,c,hc,hcell⟩
 ·exact wpAny_Name (wpAny_loadName_local I.ok.kind hk hn hm fin) hd
 ·rcases hk with hk | hk
  ·exact wpAny_Name (wpAny_loadName_cell I.ok.kind hk hc hcell fin) hd
  ·exact wpAny_Name (wpAny_loadName_free I.ok.kind hk hc hcell fin hcd) hd
theorem zq1 {i j pos} :PE X (.Constant (.int i) j pos) (tC (.int i)):=⟨λ_ _ _ H _ I h=>wpAny_Constant_int ⟨.int i,H,I.tok _,⟨_,rfl⟩,h⟩⟩
theorem zj4 {b j pos} :PE X (.Constant (.bool b) j pos) (tC (.bl b)):=⟨λ_ _ _ H _ I h=>Constant_bool ⟨.bl b,H,I,rfl,h⟩⟩
theorem zq5 {j pos} :PE X (.Constant .none j pos) (tC .non):=⟨λ_ _ _ H _ I h=>Constant_none ⟨.non,H,I,rfl,h⟩⟩
theorem iD {x j pos} :PE X (.Constant (.str x) j pos) (tC (.str x)):=⟨λ_ _ _ H _ I h=>Calls.Constant_str ⟨.str x,H,I.tok _,⟨_,rfl⟩,h⟩⟩
def Gl (X:Cx)(x:Str):Prop:=X.env.kindOf x=some .globalImplicit
theorem oQ {E:Value->Shared->Prop}{pins:List (Addr×Obj)}{s:Shared}{σ:St}{H:Hp}{x:Str}{u:Value}{pos:Pos}{Q:Value->Shared->Prop}(I:z5 X pins σ H s)(hg:Gl X x)(hm:X.mg x=some u)(h:Q u s)
  (hd:(x==("__debug__" :Str))=false:=by decide):ak (ay X.prog X.w) X.A (eval (.Name x pos) X.env) Q E s:=
 pk I.ok.kind hg (Calls.loadGlobal_global (by rw[I.ok.glob];exact I.mod.glob.keeps I.bk) hm h) hd
theorem tU {E:Value->Shared->Prop}{pins:List (Addr×Obj)}{s:Shared}{σ:St}{H:Hp}{x:Str}{u:Value}{pos:Pos}{Q:Value->Shared->Prop}(I:z5 X pins σ H s)(hg:Gl X x)(hm:X.mg x=none)(hv:bootBuiltins x=some u)(h:Q u s)
  (hn:x≠ "__name__" :=by decide) (hd:(x==("__debug__" :Str))=false:=by decide):ak (ay X.prog X.w) X.A (eval (.Name x pos) X.env) Q E s:=by
 obtain⟨mb,h1,h2⟩:=I.mod.blt;exact pk I.ok.kind hg (Calls.loadGlobal_builtin (by rw[I.ok.glob];exact I.mod.glob.keeps I.bk) hm (by rw[I.ok.blt];exact h1.keeps I.bk) ((h2 x hn).trans hv) h) hd
theorem zj6 {x:Str}{v:V}{u:Value}{pos:Pos}(hg:Gl X x)(hm:X.mg x=some u)(r:zN v u)(hd:(x==("__debug__" :Str))=false:=by decide):PE X (.Name x pos) (tC v):=
 ⟨λ_ _ _ H _ I h=>oQ I hg hm ⟨v,H,I,r,h⟩ hd⟩
theorem zqs {x:Str}{v:V}{u:Value}{pos:Pos}(hg:Gl X x)(hm:X.mg x=none)(hv:bootBuiltins x=some u)(r:zN v u)(hn:x≠ "__name__" :=by decide)(hd:(x==("__debug__" :Str))=false:=by decide):PE X (.Name x pos) (tC v):=
 ⟨λ_ _ _ H _ I h=>tU I hg hm hv ⟨v,H,I,r,h⟩ hn hd⟩
variable {a b:Expr} {ta tb:TE} {pos:Pos}
structure PC (X:Cx)(op:CmpOp)(a b:Expr)(t:TE):Prop where
 run:
  ∀(pins:List (Addr×Obj)) (s:Shared) (σ:St) (H:Hp) (Q:VK),z5 X pins σ H s->t σ H Q->
   ak (ay X.prog X.w) X.A (eval a X.env) (λv s₁=>ak (ay X.prog X.w) X.A (eval b X.env) (λu s₂=>ak (ay X.prog X.w) X.A (compareOp op v u) (EP X pins σ Q) X.xe s₂) X.xe s₁) X.xe s
instance {X:Cx} {op:CmpOp} {a b:Expr} {t:TE} :CoeFun (PC X op a b t) λ_=>
 ∀(pins:List (Addr×Obj)) (s:Shared) (σ:St) (H:Hp) (Q:VK),z5 X pins σ H s->t σ H Q->
  ak (ay X.prog X.w) X.A (eval a X.env) (λv s₁=>ak (ay X.prog X.w) X.A (eval b X.env) (λu s₂=>ak (ay X.prog X.w) X.A (compareOp op v u) (EP X pins σ Q) X.xe s₂) X.xe s₁) X.xe s
  :=⟨PC.run⟩
variable {tA tB':TT} {zO:List Expr}
def zkB (t u:TT):TT:=λσ H Q=>t σ H λc H1=>if c=true then u σ H1 Q else Q false H1
def tOr (t u:TT):TT:=λσ H Q=>t σ H λc H1=>if c=true then Q true H1 else u σ H1 Q
def zsZ (t:TT):TT:=λσ H Q=>t σ H λc H1=>Q (!c) H1
theorem zri (ha:PT X a tA):PW X (.BoolOp .And [a] pos) tA:=by
 (first | refine⟨?_⟩ | skip)
 intro wh pins s σ H Q I h;refine isTrue_and (zM (ha pins s σ H Q I h) λc s1 e=> ?_);cases c with
 | true=>exact isTrue_and_nil e
 | false=>exact e
theorem zrk (ha:PT X a tA):PW X (.BoolOp .Or [a] pos) tA:=by
 (first | refine⟨?_⟩ | skip)
 intro wh pins s σ H Q I h;refine isTrue_or (zM (ha pins s σ H Q I h) λc s1 e=> ?_);cases c with
 | false=>exact isTrue_or_nil e
 | true=>exact e
theorem zrh (ha:PT X a tA)(hb:PW X (.BoolOp .And (b::zO) pos) tB'):PW X (.BoolOp .And (a::b::zO) pos) (zkB tA tB'):=by
 (first | refine⟨?_⟩ | skip)
 intro wh pins s σ H Q I h;refine isTrue_and (zM (ha pins s σ H _ I h) λc s1 ⟨H1,I1,q1⟩=> ?_);cases c with
 | true=>exact hb wh pins s1 σ H1 Q I1 q1
 | false=>exact⟨H1,I1,q1⟩
theorem zrj (ha:PT X a tA)(hb:PW X (.BoolOp .Or (b::zO) pos) tB'):PW X (.BoolOp .Or (a::b::zO) pos) (tOr tA tB'):=by
 (first | refine⟨?_⟩ | skip)
 intro wh pins s σ H Q I h;refine isTrue_or (zM (ha pins s σ H _ I h) λc s1 ⟨H1,I1,q1⟩=> ?_);cases c with
 | true=>exact⟨H1,I1,q1⟩
 | false=>exact hb wh pins s1 σ H1 Q I1 q1
theorem zre (ha:PT X a tA):PT X (.UnaryOp .Not a pos) (zsZ tA):=by
 (first | refine⟨?_⟩ | skip)
 intro pins s σ H Q I h;exact isTrue_not (ha pins s σ H (λc H1=>Q (!c) H1) I h)
def zsJ (ta tb:TE):TE:=λσ H Q=>ta σ H λx H1=> ∃c,x= .bl c/\if c=true then tb σ H1 Q else Q (.bl false) H1
theorem zq6 {op}{t:TE}(h:PE X a t):PE X (.BoolOp op [a] pos) t:=⟨λpins s σ H Q I hw=>BoolOp_one (h pins s σ H Q I hw)⟩
theorem zqr (ha:PE X a ta)(hb:PE X (.BoolOp .And (b::zO) pos) tb):PE X (.BoolOp .And (a::b::zO) pos) (zsJ ta tb):=by
 (first | refine⟨?_⟩ | skip)
 intro pins s σ H Q I h;refine BoolOp_and (zM (ha pins s σ H _ I h) λv s1 ⟨x,H1,I1,r1,q1⟩=> ?_);obtain⟨c,rfl,q1⟩:=q1;cases r1;refine pw ?_;cases c with
 | true=>exact hb pins s1 σ H1 Q I1 q1
 | false=>exact⟨.bl false,H1,I1,rfl,q1⟩
end
end L2
namespace L2
open PySem PySem.Spec PyProof.Rows
def yT (K:Frag)(H:Hp)(a:Addr)(xs:List V):Prop:=
 Rd H a (.lst xs)∨
  ∃(o:Obj) (its:Array Value) (n:Nat),K.lookup a=some o/\o.cls= .type "list" /\o.dict=none/\o.data= .seq its n/\its.size<=sizeLine/\zJ xs its.toList/\o.slots= #[]
def xI (K:Frag)(H:Hp)(a:Addr)(xs:List V):Prop:=
 Rd H a (.tup xs)∨
  ∃(o:Obj) (its:Array Value) (n:Nat),K.lookup a=some o/\o.cls= .type "tuple" /\o.dict=none/\o.data= .seq its n/\its.size<=sizeLine/\zJ xs its.toList
def zmb:Value->Option V
 | .none=>some .non
 | .bool b=>some (.bl b)
 | .int i _=>some (.int i)
 | .str x _=>some (.str x)
 | .bytes b _=>some (.byt b)
 | .float b _=>some (.flt b)
 | .ref a=>some (.ref a)
 | .type n=>some (.ty n)
 | _=>none
theorem zN.abs {x:V}{u:Value}(r:zN x u):zmb u=some x:=by
 cases x with
 | non=>cases r;rfl
 | bl _=>cases r;rfl
 | int _=>obtain⟨t,rfl⟩:=r;rfl
 | str _=>obtain⟨t,rfl⟩:=r;rfl
 | byt _=>obtain⟨t,rfl⟩:=r;rfl
 | flt _=>obtain⟨t,rfl⟩:=r;rfl
 | ref _=>cases r;rfl
 | ty _=>cases r;rfl
theorem zN.inj {x y:V}{u:Value}(r:zN x u)(q:zN y u):x=y:=ce (r.abs.symm.trans q.abs)
theorem zJ.inj: ∀{xs ys:List V} {us:List Value},zJ xs us->zJ ys us->xs=ys
 | _,_,_,.nil,.nil=>rfl
 | _,_,_,.cons r t,.cons r' t'=>by rw[r.inj r',zJ.inj t t']
section
variable {X:Cx} {pins:List (Addr×Obj)} {σ:St} {H:Hp} {s:Shared} {a:Addr} {xs ys:List V}
theorem yT.of {K:Frag}(h:H a=some (.lst xs)):yT K H a xs:= .inl (.inl h)
theorem z5.list (I:z5 X pins σ H s)(h:yT X.K H a xs): ∃its:List Value,zJ xs its/\PlainL s.heap a its.toArray/\xs.length<=sizeLine:=by
 rcases h with h | ⟨o,its,n,hk,hc,hd,hs,hz,r,_⟩
 ·obtain⟨z,its,n,r,e⟩:=h.ok I.hok
  exact⟨its,r,⟨_,n,e,rfl,rfl,rfl⟩,z⟩
 ·refine⟨its.toList,r,⟨o,n,I.kIn a o hk,hc,hd,by simpa using hs⟩,?_⟩
  have e:=r.length;simp only[fm]at e;omega
theorem z5.tuple (I:z5 X pins σ H s)(h:xI X.K H a xs): ∃its:List Value,zJ xs its/\IsTup s.heap a its.toArray/\xs.length<=sizeLine:=by
 rcases h with h | ⟨o,its,n,hk,hc,_,hs,hz,r⟩
 ·obtain⟨z,its,r,p⟩:=h.ok I.hok
  exact⟨its,r,p.tup,z⟩
 ·refine⟨its.toList,r,⟨o,I.kIn a o hk,hc,n,by simpa using hs⟩,?_⟩
  have e:=r.length;simp only[fm]at e;omega
theorem z5.listX (I:z5 X pins σ H s)(h:yT X.K H a xs): ∃(its:List Value) (n:Nat),zJ xs its/\s.heap.get? a=some {cls:= .type "list",data:= .seq its.toArray n} /\xs.length<=sizeLine:=by
 rcases h with h | ⟨o,its,n,hk,hc,hd,hs,hz,r,hsl⟩
 ·obtain⟨z,its,n,r,e⟩:=h.ok I.hok
  exact⟨its,n,r,e,z⟩
 ·obtain⟨cls,dict,data,slots⟩:=o
  dsimp only at hc hd hs hsl;subst hc hd hs hsl;refine⟨its.toList,n,r,by simpa using I.kIn a _ hk,?_⟩;have e:=r.length;simp only[fm]at e;omega
theorem z5.tupleD (I:z5 X pins σ H s)(h:xI X.K H a xs): ∃its:List Value,zJ xs its/\uJ s.heap a its.toArray/\xs.length<=sizeLine:=by
 rcases h with h | ⟨o,its,n,hk,hc,hd,hs,hz,r⟩
 ·obtain⟨z,its,r,p⟩:=h.ok I.hok
  exact⟨its,r,p,z⟩
 ·refine⟨its.toList,r,⟨o,I.kIn a o hk,hc,n,by simpa using hs,hd⟩,?_⟩
  have e:=r.length;simp only[fm]at e;omega
theorem z5.list_inj (I:z5 X pins σ H s)(h:yT X.K H a xs)(h':yT X.K H a ys):xs=ys:=by
 obtain⟨its,r,⟨o,n,e,_,_,d⟩,_⟩:=I.list h;obtain⟨its',r',⟨o',n',e',_,_,d'⟩,_⟩:=I.list h';rw[e]at e';cases e';rw[d]at d';injection d' with d1 _
 have:its=its':=by simpa using congrArg Array.toList d1
 subst this;exact r.inj r'
theorem z5.tuple_inj (I:z5 X pins σ H s)(h:xI X.K H a xs)(h':xI X.K H a ys):xs=ys:=by
 obtain⟨its,r,⟨o,e,_,n,d⟩,_⟩:=I.tuple h;obtain⟨its',r',⟨o',e',_,n',d'⟩,_⟩:=I.tuple h';rw[e]at e';cases e';rw[d]at d';injection d' with d1 _
 have:its=its':=by simpa using congrArg Array.toList d1
 subst this;exact r.inj r'
end
abbrev Cx.wish (X:Cx)(E:Value->Shared->Prop):Cx:= {X with xe:=E}
abbrev Cx.nox (X:Cx):Cx:=X.wish λ_ _=>False
theorem Cx.Ok.wish {X:Cx}(ok:X.Ok)(E:Value->Shared->Prop):(X.wish E).Ok:=
 ⟨ok.mod,ok.kind,ok.glob,ok.blt,ok.above,ok.inj,ok.has,ok.cab,ok.hd,ok.frames,ok.stk,ok.exf,ok.bs,ok.bsz,ok.noex,ok.exfs,ok.funs,ok.frf⟩
theorem Cx.Ok.unwish {X:Cx}{E:Value->Shared->Prop}(ok:(X.wish E).Ok):X.Ok:=
 ⟨ok.mod,ok.kind,ok.glob,ok.blt,ok.above,ok.inj,ok.has,ok.cab,ok.hd,ok.frames,ok.stk,ok.exf,ok.bs,ok.bsz,ok.noex,ok.exfs,ok.funs,ok.frf⟩
section
variable {X:Cx} {pins:List (Addr×Obj)} {σ:St} {H:Hp} {s:Shared} {E:Value->Shared->Prop}
theorem z5.wish (I:z5 X pins σ H s)(E:Value->Shared->Prop):z5 (X.wish E) pins σ H s:=⟨I.ok.wish E,I.os,I.bare,I.base,I.loc,I.cell,I.free,I.freeC,I.pin,I.hok,I.len⟩
theorem z5.unwish (I:z5 (X.wish E) pins σ H s):z5 X pins σ H s:=⟨I.ok.unwish,I.os,I.bare,I.base,I.loc,I.cell,I.free,I.freeC,I.pin,I.hok,I.len⟩
theorem SP.unwish {D:sF}{f:Flow}{s':Shared}(h:SP (X.wish E) pins D f s'):SP X pins D f s':=by
 cases f with
 | next=>obtain⟨σ',H',I,q⟩:=h;exact⟨σ',H',I.unwish,q⟩
 | brk=>obtain⟨σ',H',I,q⟩:=h;exact⟨σ',H',I.unwish,q⟩
 | cont=>obtain⟨σ',H',I,q⟩:=h;exact⟨σ',H',I.unwish,q⟩
 | ret u=>obtain⟨v,σ',H',I,r,q⟩:=h;exact⟨v,σ',H',I.unwish,r,q⟩
theorem x8.nox {st:List Stmt}{t:TS}(h:x8 X.nox st t):x8 X st t:=⟨λpins s σ H D I hw=>
 jp (h pins s σ H D (I.wish _) hw) (λ_ _ q=>q.unwish) λ_ _ z=>False.elim z⟩
end
section
variable {X:Cx} {st:Stmt} {zO:List Stmt} {t u:TS} {e:Expr} {te:TE} {pos:Pos}
def zsX:TS:=λD σ H=>D.nx σ H
def ztf (t u:TS):TS:=λD σ H=>t {D with nx:=u D} σ H
theorem zrd:x8 X [] zsX:=⟨λ_ _ σ H _ I h=>nv ⟨σ,H,I,h⟩⟩
theorem nB (h1:PS X st t)(h2:x8 X zO u):x8 X (st::zO) (ztf t u):=by
 (first | refine⟨?_⟩ | skip)
 intro pins s σ H D I h;refine qi (zM (h1 pins s σ H {D with nx:=u D} I h) λf s1 q=> ?_);cases f with
 | next=>
  obtain⟨σ',H',I',q⟩:=q;exact h2 pins s1 σ' H' D I' q
 | ret v=>exact q
 | brk=>exact q
 | cont=>exact q
theorem iF (h1:PS X st t):x8 X [st] t:=by
 (first | refine⟨?_⟩ | skip)
 intro pins s σ H D I h;refine qi (zM (h1 pins s σ H D I h) λf s1 q=> ?_);cases f with
 | next=>exact nv q
 | ret v=>exact q
 | brk=>exact q
 | cont=>exact q
theorem z5.quiet {pins:List (Addr×Obj)}{σ:St}{H:Hp}{s:Shared}(I:z5 X pins σ H s):interactive X.env=false:=by simp[interactive,I.ok.kind]
def zsO (te:TE):TS:=λD σ H=>te σ H λ_ H1=>D.nx σ H1
theorem zjF (he:PE X e te)(hs:swapsWith e none pos.line X.env=pure false:=by rfl):PS X (.Expr e pos) (zsO te):=by
 (first | refine⟨?_⟩ | skip)
 intro pins s σ H D I h;exact wpAny_Expr_any (zM (he pins s σ H _ I h) λv s1 ⟨x,H1,I1,r1,q1⟩=>⟨σ,H1,I1,q1⟩) I.quiet hs
def ztc (te:TE):TS:=λD σ H=>te σ H D.rt
theorem zcV (he:PE X e te):PS X (.Return (some e) pos) (ztc te):=by
 (first | refine⟨?_⟩ | skip)
 intro pins s σ H D I h;exact wpAny_Return_some (zM (he pins s σ H _ I h) λv s1 ⟨x,H1,I1,r1,q1⟩=>⟨x,σ,H1,I1,r1,q1⟩)
def zsQ (c:TT)(t u:TS):TS:=λD σ H=>c σ H λb H1=>if b=true then t D σ H1 else u D σ H1
theorem zqX {c:Expr}{a b:List Stmt}{tc:TT}(hc:PT X c tc)(ha:x8 X a t)(hb:x8 X b u):PS X (.If c a b pos) (zsQ tc t u):=by
 (first | refine⟨?_⟩ | skip)
 intro pins s σ H D I h;refine wpAny_If (zM (hc pins s σ H _ I h) λd s1 ⟨H1,I1,q1⟩=> ?_);cases d with
 | true=>exact ha pins s1 σ H1 D I1 q1
 | false=>exact hb pins s1 σ H1 D I1 q1
def zsW:TS:=λ_ _ _=>False
theorem zqY:PS X st zsW:=⟨λ_ _ _ _ _ _ h=>h.elim⟩
end
abbrev TG:=V->St->Hp->(St->Hp->Prop)->Prop
abbrev u6:=List V->St->Hp->(St->Hp->Prop)->Prop
structure PG (X:Cx)(target:Expr)(t:TG):Prop where
 run:
  ∀(pins:List (Addr×Obj)) (s:Shared) (σ:St) (H:Hp) (v:V) (u:Value) (Q:St->Hp->Prop),z5 X pins σ H s->zN v u->t v σ H Q->
   ak (ay X.prog X.w) X.A (assign target X.env u) (λ_ s'=> ∃σ' H',z5 X pins σ' H' s'/\Q σ' H') X.xe s
instance {X:Cx} {target:Expr} {t:TG} :CoeFun (PG X target t) λ_=>
 ∀(pins:List (Addr×Obj)) (s:Shared) (σ:St) (H:Hp) (v:V) (u:Value) (Q:St->Hp->Prop),z5 X pins σ H s->zN v u->t v σ H Q->
  ak (ay X.prog X.w) X.A (assign target X.env u) (λ_ s'=> ∃σ' H',z5 X pins σ' H' s'/\Q σ' H') X.xe s
  :=⟨PG.run⟩
structure vL (X:Cx)(ts:List Expr)(t:u6):Prop where
 run:
  ∀(pins:List (Addr×Obj)) (s:Shared) (σ:St) (H:Hp) (vs:List V) (us:List Value) (Q:St->Hp->Prop),z5 X pins σ H s->zJ vs us->t vs σ H Q->
   ak (ay X.prog X.w) X.A (assignInOrder ((assignEach ts X.env).map (·.2)) us) (λ_ s'=> ∃σ' H',z5 X pins σ' H' s'/\Q σ' H') X.xe s
instance {X:Cx} {ts:List Expr} {t:u6} :CoeFun (vL X ts t) λ_=>
 ∀(pins:List (Addr×Obj)) (s:Shared) (σ:St) (H:Hp) (vs:List V) (us:List Value) (Q:St->Hp->Prop),z5 X pins σ H s->zJ vs us->t vs σ H Q->
  ak (ay X.prog X.w) X.A (assignInOrder ((assignEach ts X.env).map (·.2)) us) (λ_ s'=> ∃σ' H',z5 X pins σ' H' s'/\Q σ' H') X.xe s
  :=⟨vL.run⟩
abbrev eK:=V->V->V->Hp->(Hp->Prop)->Prop
def kM (X:Cx)(t:eK):Prop:=
 ∀(pins:List (Addr×Obj)) (s:Shared) (σ:St) (H:Hp) (o i v:V) (ov iv u:Value) (Q:Hp->Prop),z5 X pins σ H s->zN o ov->zN i iv->zN v u->t o i v H Q->
  ak (ay X.prog X.w) X.A (setItem ov iv u) (λ_ s'=> ∃H',z5 X pins σ H' s'/\Q H') X.xe s
section
variable {X:Cx} {pos:Pos}
def jI (i:Nat):TG:=λv σ H Q=>Q (σ.set i (some v)) H
theorem zqF {i:Nat}{x:Str}(hN:X.N.Nodup)(hi:X.N[i]?=some x)(hx:uW X.env.scope x)(hf:X.fn x=true∨X.env.scope.names.lookup x=some .local:=by first | exact .inl rfl | exact .inr rfl | assumption):PG X (.Name x pos) (jI i):=by
 (first | refine⟨?_⟩ | skip)
 intro pins s σ H v u Q I r h;exact wpAny_assign_Name (lS I hN hi hx r (λs' I'=>⟨_,H,I',h⟩) hf)
def zih:u6:=λvs σ H Q=>vs= []/\Q σ H
def zcw (t:TG)(u:u6):u6:=λvs σ H Q=> ∃v r,vs=v::r/\t v σ H λσ' H'=>u r σ' H' Q
theorem zjA:vL X [] zih:=by
 (first | refine⟨?_⟩ | skip)
 intro pins s σ H vs us Q I r h;obtain⟨e,h⟩:=h;subst e;cases r;exact assignInOrder_nil ⟨σ,H,I,h⟩
theorem zcS {e:Expr}{es:List Expr}{t:TG}{u:u6}(h1:PG X e t)(h2:vL X es u)
  (hs:(assignEach (e::es) X.env).map (·.2)=assign e X.env::(assignEach es X.env).map (·.2):=by rfl):vL X (e::es) (zcw t u):=by
 (first | refine⟨?_⟩ | skip)
 intro pins s σ H vs us Q I r h;obtain⟨v,vr,e1,h⟩:=h;subst e1;cases r with
 | cons r rr=>
  rw[hs];refine ou (zM (h1 pins s σ H _ _ _ I r h) λ_ s1 ⟨σ1,H1,I1,q1⟩=> ?_);exact h2 pins s1 σ1 H1 _ _ Q I1 rr q1
def zii (K:Frag)(n:Nat)(t:u6):TG:=λv σ H Q=> ∃a xs,v= .ref a/\xI K H a xs/\xs.length=n/\t xs σ H Q
theorem zj_ {es:List Expr}{k:Nat}{t:u6}{n:Nat}(hc:X.calm=true)(h:vL X es t)
  (hn:(assignEach es X.env).length=n:=by rfl) (hst:(assignEach es X.env).findIdx? (·.1)=none:=by rfl):PG X (.Tuple es k pos) (zii X.K n t):=by
 (first | refine⟨?_⟩ | skip)
 intro pins s σ H v u Q I r hw;obtain⟨a,xs,e1,hq,hl,hw⟩:=hw;subst e1;cases r;obtain⟨its,rv,ht,hz⟩:=I.tuple hq;refine assign_Tuple_tuple (I.ok.hd hc) ht (by simp[hn,<- hl,rv.length]) hst λh' hx=> ?_;have I1:z5 X pins σ H {s with heap:=h'} :=I.kept (t':=s.toks) λb o e=>hx b o (bb (aw e)) e;exact h pins _ σ H xs _ Q I1 (by simpa using rv) hw
def zcx (to ti:TE)(t:eK):TG:=λv σ H Q=>to σ H λo H1=>ti σ H1 λi H2=>t o i v H2 λH3=>Q σ H3
theorem zcQ {o i:Expr}{to ti:TE}{t:eK}(ho:PE X o to)(hi:PE X i ti)(hs:kM X t)
  (ha: ∀v,assign (.Subscript o i pos) X.env v=(do
   let ov <- holding [v] (eval o X.env)
   let iv <- holding [v,ov] (eval i X.env)
   standAt pos
   holding [v,ov,iv] (setItem ov iv v)
   release [v,ov,iv] []):=by intro _;rfl):PG X (.Subscript o i pos) (zcx to ti t):=by
 (first | refine⟨?_⟩ | skip)
 intro pins s σ H v u Q I r h;rw[ha];refine aa (cq (zM (ho pins s σ H _ I h) λov s1 ⟨x,H1,I1,r1,q1⟩=> ?_));refine aa (cq (zM (hi pins s1 σ H1 _ I1 q1) λiv s2 ⟨y,H2,I2,r2,q2⟩=> ?_));refine aa (ju (aa (cq (zM (hs pins s2 σ H2 x y v ov iv u _ I2 r1 r2 r q2) λ_ s3 ⟨H3,I3,q3⟩=> ?_))));exact wpAny_release ⟨σ,H3,I3,q3⟩
def lT (te:TE)(g:TG):TS:=λD σ H=>te σ H λx H1=>g x σ H1 D.nx
theorem zjE {tg e:Expr}{te:TE}{g:TG}(he:PE X e te)(hg:PG X tg g)(hs:swapsWithSole [tg] e pos.line X.env=pure false:=by rfl)(hw:swappedStores [tg] e X.env=pure none:=by rfl)
  (h1:(assignEach [tg] X.env).map (·.2)= [assign tg X.env]:=by rfl):PS X (.Assign [tg] e pos) (lT te g):=by
 (first | refine⟨?_⟩ | skip)
 intro pins s σ H D I h;refine wpAny_Assign_stores (zM (he pins s σ H _ I h) λv s1 ⟨x,H1,I1,r1,q1⟩=> ?_) hs hw;rw[h1];exact zM (hg pins s1 σ H1 x v _ I1 r1 q1) λ_ s2 q=>q
theorem zjG {i:Nat}{x:Str}{e:Expr}{te:TE}{pos':Pos}(hN:X.N.Nodup)(hi:X.N[i]?=some x)(hx:uW X.env.scope x)(he:PE X e te)(hs:swapsWith e (some (.Name x pos')) pos.line X.env=pure false:=by rfl)(hf:X.fn x=true∨X.env.scope.names.lookup x=some .local:=by first | exact .inl rfl | exact .inr rfl | assumption):
  PS X (.Assign [.Name x pos'] e pos) (lT te (jI i)):=by
 (first | refine⟨?_⟩ | skip)
 intro pins s σ H D I h;refine wpAny_Assign_Name (zM (he pins s σ H _ I h) λv s1 ⟨y,H1,I1,r1,q1⟩=> ?_) hs;exact lS I1 hN hi hx r1 (λs2 I2=>⟨_,H1,I2,q1⟩) hf
def zta (i j:Nat)(ta:TA):TS:=λD σ H=>ta σ H λvs H1=> ∃v w,vs= [v,w]/\D.nx ((σ.set i (some v)).set j (some w)) H1
theorem zqZ {i j:Nat}{x y:Str}{a b:Expr}{ta:TA}{px py pt:Pos}{kt k2 pt2}(hc:X.calm=true)(hN:X.N.Nodup)(hi:X.N[i]?=some x)(hj:X.N[j]?=some y)(hij:i≠j)
  (hx:X.env.scope.names.lookup x=some .local) (hy:X.env.scope.names.lookup y=some .local) (ha:PA X [a,b] ta)
  (hw:swappedStores [.Tuple [.Name x px,.Name y py] kt pt] (.Tuple [a,b] k2 pt2) X.env=pure (some [x,y]))
  (hs:swapsWithSole [.Tuple [.Name x px,.Name y py] kt pt] (.Tuple [a,b] k2 pt2) pos.line X.env=pure false:=by rfl):
  PS X (.Assign [.Tuple [.Name x px,.Name y py] kt pt] (.Tuple [a,b] k2 pt2) pos) (zta i j ta):=by
 (first | refine⟨?_⟩ | skip)
 intro pins s σ H D I h;rw[exec_Assign_arm];refine aa (ju ?_);rw[hs];refine aa (ah ?_);rw[if_neg (by decide)];refine aa (Tuple_ (zM (ha _ pins s σ H _ I h) λus s1 ⟨vs,H1,I1,r1,q1⟩=> ?_));obtain⟨v,w,e1,q1⟩:=q1;subst e1;obtain⟨u1,u2,rfl,rv,rw'⟩: ∃u1 u2,us= [u1,u2]/\zN v u1/\zN w u2:=by
  cases r1 with
  | cons p q=>
   cases q with
   | cons p' q'=>
    cases q';exact⟨_,_,rfl,p,p'⟩
 refine cr ?_ (by show 2<=sizeLine;decide);have I2:z5 X pins σ H1 {s1 with heap:=s1.heap.push {cls:= .type "tuple",data:= .seq [u1,u2].toArray}} :=I1.kept (t':=s1.toks) λb o e=>ae _ e;rw[hw];refine aa (ah ?_);show ak (ay X.prog X.w) X.A (do rule "assign.swapped-stores";let items <- unpackItems (.ref s1.heap.objs.size) 2 none;assignInOrder [λv=>bindName X.env y v,λv=>bindName X.env x v] items.reverse;pure Flow.next) _ _ _;refine aa (km (aa (unpackItems_tuple (items:= #[u1,u2]) (I.ok.hd hc) (IsTup.new s1.heap _) λh' hx'=> ?_)));have I3:=I2.kept (h':=h') (t':=s1.toks) λb o e=>hx' b o (bb (aw e)) e;show ak _ _ (assignInOrder [λv=>bindName X.env y v,λv=>bindName X.env x v] [u2,u1] >>= λ_=>pure Flow.next) _ _ _;refine aa (ou (wpAny_bindName (lS I3 hN hj (.inl hy) rw' (λs2 I4=> ?_) (.inr hy))));refine ou (wpAny_bindName (lS I4 hN hi (.inl hx) rv (λs3 I5=>assignInOrder_nil (ah ?_)) (.inr hx)));rw[List.set_comm _ _ (dk hij)]at I5;exact⟨_,H1,I5,q1⟩
end
section
variable {X:Cx} {pos:Pos}
def zth (c:TT)(tb:TS):TS:=λD σ H=> ∃W:Nat->St->Hp->Prop,(∃m,W m σ H)/\∀m σ H,W m σ H->
 c σ H λb H1=>if b=true then ∃N:St->Hp->Prop,(∀σ' H',N σ' H'->∃m',m' < m/\W m' σ' H')/\tb {D with nx:=N,ct:=N,bk:=D.nx} σ H1 else D.nx σ H1
theorem zrc {c:Expr}{body:List Stmt}{tc:TT}{tb:TS}(hp:PassesOwn (ay X.prog X.w) X.A X.env X.xe)(hc:PT X c tc)(hb:x8 X body tb):PS X (.While c body [] pos) (zth tc tb):=by
 (first | refine⟨?_⟩ | skip)
 intro pins s σ H D I h;obtain⟨W,⟨m0,w0⟩,turn⟩:=h;refine wpAny_While (codeAny_whileLoop (λn s'=> ∃σ' H',z5 X pins σ' H' s'/\W n σ' H') ?_ m0 ⟨σ,H,I,w0⟩);rintro n s1 ⟨σ1,H1,I1,w1⟩;refine jt hp (zM (hc pins s1 σ1 H1 _ I1 (turn n σ1 H1 w1)) λb s2 ⟨H2,I2,q2⟩=> ?_);cases b with
 | true=>
  obtain⟨N,hN,q2⟩:=q2;rw[if_pos rfl];refine jt hp (zM (hb pins s2 σ1 H2 _ I2 q2) λf s3 q3=> ?_);cases f with
  | next=>
   obtain⟨σ3,H3,I3,n3⟩:=q3;obtain⟨m',hm,w3⟩:=hN σ3 H3 n3;exact⟨m',hm,σ3,H3,I3,w3⟩
  | cont=>
   obtain⟨σ3,H3,I3,n3⟩:=q3;obtain⟨m',hm,w3⟩:=hN σ3 H3 n3;exact⟨m',hm,σ3,H3,I3,w3⟩
  | brk=>exact q3
  | ret v=>exact q3
 | false=>
  rw[if_neg dm];exact nv ⟨σ1,H2,I2,q2⟩
end
structure It where
 go:Nat->Hp->Prop
 yld:Nat->Hp->V->Hp->Prop
 stop:Nat->Hp->Prop
def rA (X:Cx)(pins:List (Addr×Obj))(H:Hp)(b:Addr):Prop:=
 H b=none/\b≠X.env.locals/\b∉X.fs/\(b∈X.ex∨X.s₀.heap.objs.size<=b)/\(∀x c,X.env.cells.lookup x=some c->c≠b)/\∀p∈X.pn++pins,p.1≠b
theorem z5.fpOk {X:Cx}{pins:List (Addr×Obj)}{σ:St}{H H':Hp}{s:Shared}{b:Addr}(I:z5 X pins σ H s)(hb:s.heap.objs.size<=b)(hn:H' b=none):rA X pins H' b:=by
 refine⟨hn,dz (bj I.lt hb),I.nofs hb,.inr (bf I.sz hb),λx c e z=> ?_,λp hp z=> ?_⟩
 ·obtain⟨v,q⟩:=I.cell x c e
  exact absurd (bj q.lt (by rw[z];exact hb)) (eh _)
 ·exact absurd (bj (aw (I.pin p hp).1) (by rw[z];exact hb)) (eh _)
structure o5 (P:Program)(w:World)(K:Frag)(tg:Expr)(J:It)(fp:List Addr)(it:Addr)(tn:Nat->Heap->Prop):Prop where
 mem:it∈fp
 obj: ∀i h,tn i h->∀b∈fp,∃o,h.get? b=some o/\∀v,o.data≠ .cell v
 keep: ∀i h h',tn i h->(∀b∈fp,∀o,h.get? b=some o->h'.get? b=some o)->tn i h'
 item: ∀(X:Cx),X.prog=P->X.w=w->X.K=K->X.calm=true->∀(i:Nat) (pins:List (Addr×Obj)) (s:Shared) (σ:St) (H:Hp) (E:Value->Shared->Prop),z5 X pins σ H s->(∀b∈fp,rA X pins H b)->tn i s.heap->J.go i H->
  ak (ay P w) X.A (pyNext (.ref it)) (λr s1=> ∃u,r=some u/\
   ak (ay P w) X.A (letOwnedTupleGo tg (.ref it) u) (λ_ s2=> ∃x H',z5 X pins σ H' s2/\zN x u/\J.yld i H x H'/\tn (i+1) s2.heap/\∀b∈fp,H' b=none) E s1) E s
 done: ∀(X:Cx),X.prog=P->X.w=w->X.K=K->X.calm=true->∀(i:Nat) (pins:List (Addr×Obj)) (s:Shared) (σ:St) (H:Hp) (E:Value->Shared->Prop),z5 X pins σ H s->(∀b∈fp,rA X pins H b)->tn i s.heap->J.stop i H->
  ak (ay P w) X.A (pyNext (.ref it)) (λr s1=>r=none/\z5 X pins σ H s1) E s
 self: ∀(A:Around) (i:Nat) (s:Shared) (Q:Value->Shared->Prop) (E:Value->Shared->Prop),tn i s.heap->Q (.ref it) s->ak (ay P w) A (pyIter (.ref it)) Q E s
abbrev TI:=St->Hp->(It->Hp->Prop)->Prop
def kL (X:Cx)(pins:List (Addr×Obj))(σ:St)(tg:Expr)(R:It->Hp->Prop)(itv:Value)(s2:Shared):Prop:=
 ∃(it:Addr) (fp:List Addr) (tn:Nat->Heap->Prop) (J:It) (H':Hp),itv= .ref it/\z5 X pins σ H' s2/\o5 X.prog X.w X.K tg J fp it tn/\tn 0 s2.heap/\(∀b∈fp,rA X pins H' b)/\R J H'
structure PI (X:Cx)(tg iter:Expr)(wi:TI):Prop where
 run:
  ∀(pins:List (Addr×Obj)) (s:Shared) (σ:St) (H:Hp) (R:It->Hp->Prop),z5 X pins σ H s->wi σ H R->
   ak (ay X.prog X.w) X.A (eval iter X.env) (λv s1=>ak (ay X.prog X.w) X.A (pyIter v) (kL X pins σ tg R) X.xe s1) X.xe s
instance {X:Cx} {tg iter:Expr} {wi:TI} :CoeFun (PI X tg iter wi) λ_=>
 ∀(pins:List (Addr×Obj)) (s:Shared) (σ:St) (H:Hp) (R:It->Hp->Prop),z5 X pins σ H s->wi σ H R->
  ak (ay X.prog X.w) X.A (eval iter X.env) (λv s1=>ak (ay X.prog X.w) X.A (pyIter v) (kL X pins σ tg R) X.xe s1) X.xe s
  :=⟨PI.run⟩
theorem jK {M:Model}{A:Around}{E:Value->Shared->Prop}{s:Shared}{tg:Expr}{it:Addr}{u:Value}{o:Obj}{n:String}{vs:Array Value}{Q:Unit->Shared->Prop}(ho:s.heap.get? it=some o)(hc:o.cls= .type n)(hd:o.data= .fields vs)
  (hn: ["enumerate","zip","dict_itemiterator","dict_reverseitemiterator","odict_iterator","itertools.zip_longest","itertools.pairwise"].contains n=false) (hQ:Q () s):ak M A (letOwnedTupleGo tg (.ref it) u) Q E s:=by
 unfold letOwnedTupleGo;cases tg <;> first
  | exact ah hQ
  | (cases u <;> first
    | exact ah hQ
    | (refine aa (wpAny_load ho ?_)
       rw[hc,hd];show ak M A (if(["enumerate","zip","dict_itemiterator","dict_reverseitemiterator","odict_iterator","itertools.zip_longest","itertools.pairwise"].contains n&&vs[0]?==some (rawInt _))=true then _ else _) Q E s;rw[if_neg (by intro h;rw[hn,xp]at h;cases h)];exact ah hQ))
def kI (K:Frag)(a:Addr):It:=
 ⟨λi H=> ∃xs x,yT K H a xs/\xs[i]?=some x,λi H x H'=>H'=H/\∀xs,yT K H a xs->xs[i]?=some x,λi H=> ∃xs,yT K H a xs/\xs.length<=i⟩
def fV (K:Frag)(a:Addr):It:=
 ⟨λi H=> ∃xs x,xI K H a xs/\xs[i]?=some x,λi H x H'=>H'=H/\∀xs,xI K H a xs->xs[i]?=some x,λi H=> ∃xs,xI K H a xs/\xs.length<=i⟩
def m9 (lo:Int)(n:Nat):It:=⟨λi _=>i < n,λi H x H'=>H'=H/\x= .int (lo+i),λi _=>n<=i⟩
theorem ztv {P:Program}{w:World}{K:Frag}{tg:Expr}(a it:Addr):o5 P w K tg (kI K a) [it] it (λi h=>h.IsListIter it a i) where
 mem:=by simp
 obj:=λi h st b hb=>by
  have e:b=it:=by simpa using hb
  subst e;obtain⟨o,e,c,d⟩:=st;exact⟨o,e,λv z=>by rw[d]at z;cases z⟩
 keep:=λi h h' st k=>st.at λo e=>k it (by simp) o e
 item:=by
  intro X hP hw hK hc i pins s σ H E I hf st hg;subst hP hw hK;obtain⟨xs,x,hq,hx⟩:=hg;obtain⟨its,rv,p,hz⟩:=I.list hq;obtain⟨u,hu,ru⟩:=rv.get hx;obtain⟨f0,f1,f2,f3,f4,f5⟩:=hf it (by simp);refine sy st p.isList (x:=u) (by simpa using hu) λh' st' sb=> ?_;have I1:z5 X pins σ H {s with heap:=h'} :=I.turned (t':=s.toks) (λb o hb e=>(sb.2 b hb).trans e) f0 f1 f3 f4 f5;obtain⟨o,e,c,d⟩:=id st';exact⟨u,rfl,jK (s:= {s with heap:=h'}) e c d (by decide) ⟨x,H,I1,ru,⟨rfl,λys hy=>by rw[I.list_inj hy hq];exact hx⟩,st',λb hb=>(hf b hb).1⟩⟩
 done:=by
  intro X hP hw hK hc i pins s σ H E I hf st hg;subst hP hw hK;obtain⟨xs,hq,hx⟩:=hg;obtain⟨its,rv,p,hz⟩:=I.list hq;obtain⟨f0,f1,f2,f3,f4,f5⟩:=hf it (by simp);have hl:=rv.length;exact ue (I.ok.hd hc) st p.isList (by simp;omega) λh' eb=>⟨rfl,I.turned (t':=s.toks) (λb o hb e=>eb b o hb e) f0 f1 f3 f4 f5⟩
 self:=λ_ _ _ _ _ st h=>wpAny_pyIter_listiter st h
theorem ztx {P:Program}{w:World}{K:Frag}{tg:Expr}(a it:Addr):o5 P w K tg (fV K a) [it] it (λi h=>h.IsTupleIter it a i) where
 mem:=by simp
 obj:=λi h st b hb=>by
  have e:b=it:=by simpa using hb
  subst e;obtain⟨o,e,c,d⟩:=st;exact⟨o,e,λv z=>by rw[d]at z;cases z⟩
 keep:=λi h h' st k=>st.at λo e=>k it (by simp) o e
 item:=by
  intro X hP hw hK hc i pins s σ H E I hf st hg;subst hP hw hK;obtain⟨xs,x,hq,hx⟩:=hg;obtain⟨its,rv,p,hz⟩:=I.tuple hq;obtain⟨u,hu,ru⟩:=rv.get hx;obtain⟨f0,f1,f2,f3,f4,f5⟩:=hf it (by simp);refine wpAny_pyNext_tuple_item st (show s.heap.IsTuple a its.toArray from p) (x:=u) (by simpa using hu) λh' st' sb=> ?_;have I1:z5 X pins σ H {s with heap:=h'} :=I.turned (t':=s.toks) (λb o hb e=>(sb.2 b hb).trans e) f0 f1 f3 f4 f5;obtain⟨o,e,c,d⟩:=id st';exact⟨u,rfl,jK (s:= {s with heap:=h'}) e c d (by decide) ⟨x,H,I1,ru,⟨rfl,λys hy=>by rw[I.tuple_inj hy hq];exact hx⟩,st',λb hb=>(hf b hb).1⟩⟩
 done:=by
  intro X hP hw hK hc i pins s σ H E I hf st hg;subst hP hw hK;obtain⟨xs,hq,hx⟩:=hg;obtain⟨its,rv,p,hz⟩:=I.tuple hq;obtain⟨f0,f1,f2,f3,f4,f5⟩:=hf it (by simp);have hl:=rv.length;exact wpAny_pyNext_tuple_end (I.ok.hd hc) st (show s.heap.IsTuple a its.toArray from p) (by simp;omega) λh' eb=>⟨rfl,I.turned (t':=s.toks) (λb o hb e=>eb b o hb e) f0 f1 f3 f4 f5⟩
 self:=λ_ _ _ _ _ st h=>wpAny_pyIter_tupleiter st h
theorem ztw {P:Program}{w:World}{K:Frag}{tg:Expr}(it:Addr)(lo:Int)(n:Nat):o5 P w K tg (m9 lo n) [it] it (λi h=>IsRangeIter h it (lo+(i:Nat) * 1) ((n:Int) - (i:Nat)) 1) where
 mem:=by simp
 obj:=λi h st b hb=>by
  have e:b=it:=by simpa using hb
  subst e;exact⟨_,st,λv z=>by
   have z':Data.fields _=Data.cell v:=z;cases z'⟩
 keep:=λi h h' st k=>k it (by simp) _ st
 item:=by
  intro X hP hw hK hc i pins s σ H E I hf st hg;subst hP hw hK;obtain⟨f0,f1,f2,f3,f4,f5⟩:=hf it (by simp);have W:=Walks.range (prog:=X.prog) (w:=X.w) (I.ok.hd hc) it lo 1 n;refine W.item i s _ _ hg st λv h' tk hv st' kk=> ?_;obtain⟨t,rfl⟩:=hv;have I1:z5 X pins σ H {s with heap:=h',toks:=tk} :=I.turned (λb o hb e=>kk b o (by simpa using hb) e) f0 f1 f3 f4 f5;refine⟨_,rfl,jK (s:= {s with heap:=h',toks:=tk}) (n:= "range_iterator") st' rfl rfl (by decide) ⟨.int (lo+i),H,I1,⟨t,?_⟩,⟨rfl,rfl⟩,st',λb hb=>(hf b hb).1⟩⟩;rw[Int.mul_one]
 done:=by
  intro X hP hw hK hc i pins s σ H E I hf st hg;subst hP hw hK;obtain⟨f0,f1,f2,f3,f4,f5⟩:=hf it (by simp);exact wpAny_pyNext_range_end (I.ok.hd hc) st (by have:n<=i:=hg;omega) λh' eb=>⟨rfl,I.turned (t':=s.toks) (λb o hb e=>eb b o hb e) f0 f1 f3 f4 f5⟩
 self:=λ_ _ _ _ _ st h=>wpAny_pyIter_rangeiter st h
end L2
namespace L2
open PySem PySem.Spec PyProof.Rows
section
variable {X:Cx} {tg:Expr}
theorem zjU {pins:List (Addr×Obj)}{σ:St}{H:Hp}{s:Shared}{R:It->Hp->Prop}{E:Value->Shared->Prop}{lo hi:Int}{t u v:Tok}{tk:Nat}(I:z5 X pins σ H s)(h1: -(2 ^ 62)<=lo)(h2:lo < 2 ^ 62)(h3: -(2 ^ 62)<=hi)(h4:hi < 2 ^ 62)
  (q:R (m9 lo (hi - lo).toNat) H):ak (ay X.prog X.w) X.A (pyIter (.ref s.heap.objs.size)) (kL X pins σ tg R) E {s with heap:=s.heap.push {cls:= .type "range",data:= .fields #[.int lo t,.int hi u,.int 1 v]},toks:=tk} :=by
 refine wpAny_pyIter_range (IsRange.new ..) (small_one h1 h2 h3 h4) ?_;have I1:z5 X pins σ H {s with heap:=s.heap.push {cls:= .type "range",data:= .fields #[.int lo t,.int hi u,.int 1 v]},toks:=tk} :=I.kept λb o e=>ae _ e;refine⟨(s.heap.push {cls:= .type "range",data:= .fields #[.int lo t,.int hi u,.int 1 v]}).objs.size,[(s.heap.push {cls:= .type "range",data:= .fields #[.int lo t,.int hi u,.int 1 v]}).objs.size],_,_,H,rfl,
  I1.kept (t':=tk) λb o e=>ae _ e,ztw _ lo (hi - lo).toNat,?_,λb hb=> ?_,q⟩
 ·have e1:lo+((0:Nat):Int) * 1=lo:=by simp
  have e2:(((hi - lo).toNat:Nat):Int) - ((0:Nat):Int)=Builtin.Range.rangeSize lo hi 1:=by rw[rangeSize_one];split <;> omega
  show IsRangeIter _ _ (lo+((0:Nat):Int) * 1) ((((hi - lo).toNat:Nat):Int) - ((0:Nat):Int)) 1;rw[e1,e2];exact br _ rfl
 ·have e:b=(s.heap.push {cls:= .type "range",data:= .fields #[.int lo t,.int hi u,.int 1 v]}).objs.size:=by simpa using hb
  subst e;exact I1.fpOk (ao _) (I1.hok.fresh (ao _))
def znO (ta:TA):TI:=λσ H R=>ta σ H λvs H1=> ∃j:Int,vs= [.int j]/\ -(2 ^ 62)<=j/\j < 2 ^ 62/\R (m9 0 j.toNat) H1
def znP (ta:TA):TI:=λσ H R=>ta σ H λvs H1=> ∃i j:Int,vs= [.int i,.int j]/\(-(2 ^ 62)<=i/\i < 2 ^ 62/\ -(2 ^ 62)<=j/\j < 2 ^ 62)/\R (m9 i (j - i).toNat) H1
theorem zqK {a:Expr}{ta:TA}{p pos:Pos}(hg:Gl X "range")(hm:X.mg "range" =none)(ha:PA X [a] ta)(hs:starEach [a] X.env= [(false,eval a X.env)]:=by rfl):PI X tg (.Call (.Name "range" p) [a] [] pos) (znO ta):=by
 (first | refine⟨?_⟩ | skip)
 intro pins s σ H R I h;refine Call_ (tU I hg hm boot_range (callWith_type1 (zM (ha pos pins s σ H _ I h) λus s1 ⟨vs,H1,I1,r1,q1⟩=> ?_) hs rfl));obtain⟨j,e,q1,q2,q⟩:=q1;subst e;cases r1 with
 | cons r rr=>
  cases rr;obtain⟨t,rfl⟩:=r;exact call_range_1 (zjU I1 (by omega) (by omega) q1 q2 (by simpa using q))
theorem zqL {a b:Expr}{ta:TA}{p pos:Pos}(hg:Gl X "range")(hm:X.mg "range" =none)(ha:PA X [a,b] ta)(hs:starEach [a,b] X.env= [(false,eval a X.env),(false,eval b X.env)]:=by rfl)(hs2:starEach [b] X.env= [(false,eval b X.env)]:=by rfl):
  PI X tg (.Call (.Name "range" p) [a,b] [] pos) (znP ta):=by
 (first | refine⟨?_⟩ | skip)
 intro pins s σ H R I h;refine Call_ (tU I hg hm boot_range (callWith_type1 (zM (ha pos pins s σ H _ I h) λus s1 ⟨vs,H1,I1,r1,q1⟩=> ?_) (by rw[hs,hs2]) (by rw[hs2];rfl)));obtain⟨i,j,e,⟨q1,q2,q3,q4⟩,q⟩:=q1;subst e;cases r1 with
 | cons r rr=>
  cases rr with
  | cons r' rr=>
   cases rr;obtain⟨t,rfl⟩:=r;obtain⟨t',rfl⟩:=r';exact call_range_2 (zjU I1 q1 q2 q3 q4 q)
def zsP (wi:TI)(g:TG)(tb:TS):TS:=λD σ H=>wi σ H λJ H1=> ∃W:Nat->Nat->St->Hp->Prop,(∃m,W 0 m σ H1)/\∀i m σ H,W i m σ H->
 (J.stop i H/\D.nx σ H)∨(J.go i H/\∃N:St->Hp->Prop,(∀σ' H',N σ' H'->∃m',m' < m/\W (i+1) m' σ' H')/\∀x H',J.yld i H x H'->g x σ H' λσ2 H2=>tb {D with nx:=N,ct:=N,bk:=D.nx} σ2 H2)
def sU (fp:List Addr)(h:Heap):List (Addr×Obj):=fp.filterMap λb=>(h.get? b).map λo=>(b,o)
theorem oU {fp:List Addr}{h:Heap}{b:Addr}{o:Obj}(hb:b∈fp)(e:h.get? b=some o):(b,o)∈sU fp h:=db.mpr ⟨b,hb,by rw[e];rfl⟩
theorem zcK {fp:List Addr}{h:Heap}{p:Addr×Obj}(hp:p∈sU fp h):p.1∈fp/\h.get? p.1=some p.2:=by
 obtain⟨b,hb,e⟩:=db.mp hp;cases q:h.get? b with
 | none=>rw[q]at e;cases e
 | some o=>
  rw[q]at e;have e':(b,o)=p:=ce e;subst e';exact⟨hb,q⟩
theorem z5.pinned {pins:List (Addr×Obj)}{σ:St}{H:Hp}{s:Shared}{fp:List Addr}(I:z5 X pins σ H s)(hf: ∀b∈fp,rA X pins H b)(ho: ∀b∈fp,∃o,s.heap.get? b=some o/\∀v,o.data≠ .cell v):z5 X (pins++sU fp s.heap) σ H s:=
 I.pins_of λp hp=>(au.mp hp).elim (λz=>I.pin p (af _ z)) λz=>by
  obtain⟨hb,e⟩:=zcK z;obtain⟨f0,f1,f2,_⟩:=hf p.1 hb;obtain⟨o,e',d⟩:=ho p.1 hb;rw[e]at e';cases e';exact⟨e,f0,f1,f2,d⟩
theorem z5.unpinned {pins pl:List (Addr×Obj)}{σ:St}{H:Hp}{s:Shared}(I:z5 X (pins++pl) σ H s):z5 X pins σ H s:=I.pins_of λp hp=>I.pin p (af _ (ax _ hp))
theorem zqW {iter:Expr}{body:List Stmt}{wi:TI}{g:TG}{tb:TS}{pos:Pos}(hp:PassesOwn (ay X.prog X.w) X.A X.env X.xe)(hc:X.calm=true)(hi:PI X tg iter wi)(hg:PG X tg g)(hb:x8 X body tb)
  (hs: ∀x,foldedSetIterable iter X.env x=pure x:=by intro _;rfl):PS X (.For tg iter body [] pos) (zsP wi g tb):=by
 (first | refine⟨?_⟩ | skip)
 intro pins s σ H D I h;refine wpAny_For (zM (hi pins s σ H _ I h) λv s1 h1=>zM h1 λitv s2 h2=> ?_) hs;obtain⟨it,fp,tn,J,H2,e,I2,T,st2,f2,W,⟨m0,w0⟩,turn⟩:=h2;subst e;have stat: ∀{H':Hp},(∀b∈fp,H' b=none)->∀b∈fp,rA X pins H' b:=λhn b hb=>⟨hn b hb,(f2 b hb).2⟩;refine codeAny_forLoop_any (λn s'=> ∃i σ' H',z5 X pins σ' H' s'/\tn i s'.heap/\(∀b∈fp,H' b=none)/\W i n σ' H') ?_ m0 ⟨0,σ,H2,I2,st2,λb hb=>(f2 b hb).1,w0⟩;rintro n s3 ⟨i,σ3,H3,I3,st3,fr3,w3⟩;rcases turn i n σ3 H3 w3 with⟨stop,qn⟩ | ⟨go,N,hN,step⟩
 ·refine jt hp (zM (T.done X rfl rfl rfl hc i pins s3 σ3 H3 X.xe I3 (stat fr3) st3 stop) λr s4 ⟨hr,I4⟩=> ?_)
  subst hr;exact nv ⟨σ3,H3,I4,qn⟩
 ·refine jt hp (zM (T.item X rfl rfl rfl hc i pins s3 σ3 H3 X.xe I3 (stat fr3) st3 go) λr s4 ⟨u,hr,h4⟩=> ?_)
  subst hr;refine jt hp (zM h4 λ_ s5 ⟨x,H5,I5,r5,y5,st5,fr5⟩=> ?_);have I5':=I5.pinned (stat fr5) (T.obj _ _ st5);refine jt hp (zM (hg _ s5 σ3 H5 x u _ I5' r5 (step x H5 y5)) λ_ s6 ⟨σ6,H6,I6,q6⟩=> ?_);refine jt hp (zM (hb _ s6 σ6 H6 _ I6 q6) λf s7 q7=> ?_);have again: ∀{σ7:St} {H7:Hp},z5 X (pins++sU fp s5.heap) σ7 H7 s7->N σ7 H7->∃m,m < n/\∃i σ' H',z5 X pins σ' H' s7/\tn i s7.heap/\(∀b∈fp,H' b=none)/\W i m σ' H':=λ{σ7 H7} I7 n7=>by
   obtain⟨m',hm,w7⟩:=hN σ7 H7 n7;refine⟨m',hm,i+1,σ7,H7,I7.unpinned,T.keep _ _ _ st5 λb hb o e=>(I7.pin (b,o) (af _ (af _ (oU hb e)))).1,λb hb=> ?_,w7⟩;obtain⟨o,e,d⟩:=T.obj _ _ st5 b hb;exact(I7.pin (b,o) (af _ (af _ (oU hb e)))).2.1
  cases f with
  | next=>obtain⟨σ7,H7,I7,n7⟩:=q7;exact again I7 n7
  | cont=>obtain⟨σ7,H7,I7,n7⟩:=q7;exact again I7 n7
  | brk=>obtain⟨σ7,H7,I7,q7⟩:=q7;exact⟨σ7,H7,I7.unpinned,q7⟩
  | ret v=>obtain⟨x7,σ7,H7,I7,r7,q7⟩:=q7;exact⟨x7,σ7,H7,I7.unpinned,r7,q7⟩
end
end L2
namespace L2
open PySem PySem.Spec PyProof.Rows
abbrev R2:=V->V->Hp->VK->Prop
def yA (X:Cx)(f:Value->Value->Sem Value)(r:R2):Prop:=
 ∀(pins:List (Addr×Obj)) (s:Shared) (σ:St) (H:Hp) (x y:V) (v u:Value) (Q:VK),z5 X pins σ H s->zN x v->zN y u->r x y H Q->
  ak (ay X.prog X.w) X.A (f v u) (EP X pins σ Q) X.xe s
def mF (X:Cx)(f:Value->Sem Value)(r:V->Hp->VK->Prop):Prop:=
 ∀(pins:List (Addr×Obj)) (s:Shared) (σ:St) (H:Hp) (x:V) (v:Value) (Q:VK),z5 X pins σ H s->zN x v->r x H Q->
  ak (ay X.prog X.w) X.A (f v) (EP X pins σ Q) X.xe s
def w4 (X:Cx)(f:Value)(r:List V->Hp->VK->Prop):Prop:=
 ∀(pins:List (Addr×Obj)) (s:Shared) (σ:St) (H:Hp) (xs:List V) (us:List Value) (Q:VK),z5 X pins σ H s->zJ xs us->r xs H Q->
  ak (ay X.prog X.w) X.A (call f us) (EP X pins σ Q) X.xe s
def zlY (X:Cx)(r:V->Hp->(Bool->Hp->Prop)->Prop):Prop:=
 ∀(pins:List (Addr×Obj)) (s:Shared) (σ:St) (H:Hp) (x:V) (v:Value) (Q:Bool->Hp->Prop),z5 X pins σ H s->zN x v->r x H Q->
  ak (ay X.prog X.w) X.A (truthy v) (TP X pins σ Q) X.xe s
def nR (r:R2)(ta tb:TE):TE:=λσ H Q=>ta σ H λx H1=>tb σ H1 λy H2=>r x y H2 Q
def tUn (r:V->Hp->VK->Prop)(ta:TE):TE:=λσ H Q=>ta σ H λx H1=>r x H1 Q
def rI (C:Int->Int->Prop)(g:Int->Int->V):R2:=λx y H Q=> ∃i j,x= .int i/\y= .int j/\C i j/\Q (g i j) H
def qQ (g:Int->Int->V):R2:=λx y H Q=> ∃i j,x= .int i/\y= .int j/\Q (g i j) H
def rU (g:Int->V):V->Hp->VK->Prop:=λx H Q=> ∃i,x= .int i/\Q (g i) H
section
variable {X:Cx} {a b c:Expr} {ta tb tc:TE} {pos:Pos}
theorem eW (ha:PE X a ta)(hb:PE X b tb){pins:List (Addr×Obj)}{s:Shared}{σ:St}{H:Hp}{R:V->V->Hp->Prop}(I:z5 X pins σ H s)
  (h:ta σ H λx H1=>tb σ H1 λy H2=>R x y H2) {Q:Value->Shared->Prop} {f:Value->Value->Sem Value}
  (hf: ∀v u s2 x y H2,z5 X pins σ H2 s2->zN x v->zN y u->R x y H2->ak (ay X.prog X.w) X.A (f v u) Q X.xe s2):
  ak (ay X.prog X.w) X.A (eval a X.env) (λv s₁=>ak (ay X.prog X.w) X.A (eval b X.env) (λu s₂=>ak (ay X.prog X.w) X.A (f v u) Q X.xe s₂) X.xe s₁) X.xe s:=by
 refine zM (ha pins s σ H _ I h) λv s1 ⟨x,H1,I1,r1,q1⟩=> ?_;refine zM (hb pins s1 σ H1 _ I1 q1) λu s2 ⟨y,H2,I2,r2,q2⟩=> ?_;exact hf v u s2 x y H2 I2 r1 r2 q2
theorem zq7 {op:Operator}{r:R2}(ho:yA X (binaryOp op) r)(ha:PE X a ta)(hb:PE X b tb):PE X (.BinOp a op b pos) (nR r ta tb):=by
 (first | refine⟨?_⟩ | skip)
 intro pins s σ H Q I h;exact wpAny_BinOp (eW ha hb I h λv u s2 x y H2 I2 rx ry q=>ho pins s2 σ H2 x y v u Q I2 rx ry q)
theorem zqA {op:UnaryOp}{r:V->Hp->VK->Prop}(ho:mF X (unaryOp op) r)(ha:PE X a ta):PE X (.UnaryOp op a pos) (tUn r ta):=by
 (first | refine⟨?_⟩ | skip)
 intro pins s σ H Q I h;exact UnaryOp_ (zM (ha pins s σ H _ I h) λv s1 ⟨x,H1,I1,r1,q1⟩=>ho pins s1 σ H1 x v Q I1 r1 q1)
theorem i7 {f:Value->Value->Sem Value}{C:Int->Int->Prop}{g:Int->Int->Int}
  (rule: ∀(i j:Int) (t u:Tok) (s:Shared) (Q:Value->Shared->Prop) (E:Value->Shared->Prop),C i j->Q (.int (g i j) s.toks) {s with toks:=s.toks+1} ->ak (ay X.prog X.w) X.A (f (.int i t) (.int j u)) Q E s):
  yA X f (rI C λi j=> .int (g i j)):=by
 (first | refine⟨?_⟩ | skip)
 intro pins s σ H x y v u Q I rx ry h;obtain⟨i,j,rfl,rfl,hc,q⟩:=h;obtain⟨t,rfl⟩:=rx;obtain⟨t',rfl⟩:=ry;exact rule i j t t' s _ _ hc ⟨.int (g i j),H,I.tok _,⟨_,rfl⟩,q⟩
theorem zjt {f:Value->Value->Sem Value}{g:Int->Int->Int}
  (rule: ∀(i j:Int) (t u:Tok) (s:Shared) (Q:Value->Shared->Prop) (E:Value->Shared->Prop),Q (.int (g i j) s.toks) {s with toks:=s.toks+1} ->ak (ay X.prog X.w) X.A (f (.int i t) (.int j u)) Q E s):
  yA X f (qQ λi j=> .int (g i j)):=by
 (first | refine⟨?_⟩ | skip)
 intro pins s σ H x y v u Q I rx ry h;obtain⟨i,j,rfl,rfl,q⟩:=h;obtain⟨t,rfl⟩:=rx;obtain⟨t',rfl⟩:=ry;exact rule i j t t' s _ _ ⟨.int (g i j),H,I.tok _,⟨_,rfl⟩,q⟩
theorem zcM {f:Value->Value->Sem Value}{g:Int->Int->Bool}
  (rule: ∀(i j:Int) (t u:Tok) (s:Shared) (Q:Value->Shared->Prop) (E:Value->Shared->Prop),Q (.bool (g i j)) s->ak (ay X.prog X.w) X.A (f (.int i t) (.int j u)) Q E s):
  yA X f (qQ λi j=> .bl (g i j)):=by
 (first | refine⟨?_⟩ | skip)
 intro pins s σ H x y v u Q I rx ry h;obtain⟨i,j,rfl,rfl,q⟩:=h;obtain⟨t,rfl⟩:=rx;obtain⟨t',rfl⟩:=ry;exact rule i j t t' s _ _ ⟨.bl (g i j),H,I,rfl,q⟩
def k7 (i j:Int):Prop:=0<=j/\j<=1000000/\i.natAbs < 2 ^ 64
def fG (i j:Int):Prop:=(-(2 ^ 64) < i/\i < 2 ^ 64)∨(-(2 ^ 64) < j/\j < 2 ^ 64)
theorem fG.ok {i j:Int}(h:fG i j):IntMulOk i j:=by
 rcases h with⟨h1,h2⟩ | ⟨h1,h2⟩
 ·exact .of_left (intBits_le_64 h1 h2)
 ·exact .of_right (intBits_le_64 h1 h2)
theorem zpV:yA X (binaryOp .Add) (qQ λi j=> .int (i+j)):=zjt λ_ _ _ _ _ _ _ q=>add_int q
theorem zqm:yA X (binaryOp .Sub) (qQ λi j=> .int (i - j)):=zjt λ_ _ _ _ _ _ _ q=>sub_int q
theorem zqh:yA X (binaryOp .Mult) (rI fG λi j=> .int (i * j)):=i7 λ_ _ _ _ _ _ _ hc q=>mul_int q hc.ok
theorem zqg:yA X (binaryOp .Mod) (rI (λ_ j=>0 < j) λi j=> .int (i % j)):=i7 λi j _ _ _ _ _ hc q=>by
 have h1:(0:Int) < j:=hc;exact mod_int' (by omega) (by rw[Int.fmod_eq_emod_of_nonneg i (by omega)];exact q)
theorem zql:yA X (binaryOp .Pow) (rI k7 λi j=> .int (i ^ j.toNat)):=i7 λ_ _ _ _ _ _ _ hc q=>pow_int_small hc.1 hc.2.1 hc.2.2 q
theorem unI {f:Value->Sem Value}{g:Int->Int}
  (rule: ∀(i:Int) (t:Tok) (s:Shared) (Q:Value->Shared->Prop) (E:Value->Shared->Prop),Q (.int (g i) s.toks) {s with toks:=s.toks+1} ->ak (ay X.prog X.w) X.A (f (.int i t)) Q E s):
  mF X f (rU λi=> .int (g i)):=by
 (first | refine⟨?_⟩ | skip)
 intro pins s σ H x v Q I rx h;obtain⟨i,rfl,q⟩:=h;obtain⟨t,rfl⟩:=rx;exact rule i t s _ _ ⟨.int (g i),H,I.tok _,⟨_,rfl⟩,q⟩
theorem zt2:mF X (unaryOp .USub) (rU λi=> .int (-i)):=unI λ_ _ _ _ _ q=>neg_int q
end
section
variable {X:Cx} {a b c:Expr} {ta tb tc:TE} {pos:Pos}
theorem zhZ {pins:List (Addr×Obj)}{σ:St}{H:Hp}{s:Shared}{Q:VK}{k k':Bool}(I:z5 X pins σ H s)(q:Q (.bl k) H)(e:k=k'):EP X pins σ Q (.bool k') s:=by
 subst e;exact⟨.bl k,H,I,rfl,q⟩
theorem zqf:yA X (compareOp .Lt) (qQ λi j=> .bl (decide (i < j))):=zcM λ_ _ _ _ _ _ _ q=>lt_int q
theorem zqc:yA X (compareOp .Gt) (qQ λi j=> .bl (decide (j < i))):=zcM λ_ _ _ _ _ _ _ q=>gt_int q
theorem zqb:yA X (compareOp .GtE) (qQ λi j=> .bl (decide (j<=i))):=zcM λ_ _ _ _ _ _ _ q=>ge_int q
theorem zqe:yA X (compareOp .In) (λx y H Q=> ∃i j,x= .str i/\y= .str j/\Q (.bl (!(Builtin.Str.occurrences j i 0 j.length 1).isEmpty)) H):=by
 (first | refine⟨?_⟩ | skip)
 intro pins s σ H x y v u Q I rx ry h;obtain⟨i,j,rfl,rfl,q⟩:=h;obtain⟨t,rfl⟩:=rx;obtain⟨t',rfl⟩:=ry;exact in_str (zhZ I q rfl)
theorem zqk:yA X (compareOp .IsNot) (λx y H Q=>y= .non/\Q (.bl (!decide (x= .non))) H):=by
 (first | refine⟨?_⟩ | skip)
 intro pins s σ H x y v u Q I rx ry h;obtain⟨rfl,q⟩:=h;cases ry;refine isnot_none_gen (zhZ I q ?_);cases x <;> first
  | (cases rx;rfl)
  | (obtain⟨t,rfl⟩:=rx;rfl)
theorem rP (b:Expr){op:CmpOp}(h:op≠ .In:=by decide)(h2:op≠ .NotIn:=by decide):behindInMarks op b=false:=by
 have e1:(op==CmpOp.In)=false:=by cases op <;> first | rfl | exact absurd rfl h
 have e2:(op==CmpOp.NotIn)=false:=by cases op <;> first | rfl | exact absurd rfl h2
 cases b <;> simp[behindInMarks,e1,e2]
theorem zqx {op:CmpOp}{r:R2}(ho:yA X (compareOp op) r)(ha:PE X a ta)(hb:PE X b tb)(hm:behindInMarks op b=false):PE X (.Compare a [op] [b] pos) (nR r ta tb):=by
 (first | refine⟨?_⟩ | skip)
 intro pins s σ H Q I h;exact wpAny_Compare1 (eW ha hb I h λv u s2 x y H2 I2 rx ry q=>ho pins s2 σ H2 x y v u Q I2 rx ry q) hm
def zkG (t:TE):TT:=λσ H Q=>t σ H λx H'=> ∃k,x= .bl k/\Q k H'
theorem zjI {op:CmpOp}{r:R2}(ho:yA X (compareOp op) r)(ha:PE X a ta)(hb:PE X b tb)(hm:behindInMarks op b=false):PT X (.Compare a [op] [b] pos) (zkG (nR r ta tb)):=by
 (first | refine⟨?_⟩ | skip)
 intro pins s σ H Q I h;refine wpAny_isTrue_Compare1 (zM (ha pins s σ H _ I h) λv s1 ⟨x,H1,I1,r1,q1⟩=>zM (hb pins s1 σ H1 _ I1 q1) λu s2 ⟨y,H2,I2,r2,q2⟩=>
  zM (ho pins s2 σ H2 x y v u _ I2 r1 r2 q2) λc s3 ⟨z,H3,I3,r3,k,e,q3⟩=> ?_) hm
 subst e;cases r3;exact pw ⟨H3,I3,q3⟩
def eN (K:Frag)(x:V)(H:Hp)(k:Bool):Prop:=
 match x with
 | .non=>k=false
 | .bl b=>k=b
 | .int i=>k=(i !=0)
 | .str y=>y.length<=sizeLine/\k=((y.length:Int) !=0)
 | .byt y=>y.size<=sizeLine/\k=((y.size:Int) !=0)
 | .ref p=>(∃xs,yT K H p xs/\k= !xs.isEmpty)∨(∃xs,xI K H p xs/\k= !xs.isEmpty)∨∃kvs,H p=some (.dK kvs)/\k= !kvs.isEmpty
 | _=>False
theorem znV {κ:Type}{kvs:List (κ×V)}{vs:List (κ×Value)}(r:KV kvs vs):(!vs.isEmpty)= !kvs.isEmpty:=by
 cases r <;> rfl
theorem ziz {xs:List V}{its:List Value}(r:zJ xs its):(!its.toArray.isEmpty)= !xs.isEmpty:=by
 cases r <;> simp
theorem sR:(sizeLine:Nat) < 2 ^ 63:=by rw[cx];decide
theorem ztr:zlY X (λx H Q=> ∃k,eN X.K x H k/\Q k H):=by
 (first | refine⟨?_⟩ | skip)
 intro pins s σ H x v Q I rx h;obtain⟨k,e,q⟩:=h;have hl:=sR;have hs:sizeLine=16777216:=cx;cases x with
 | non=>
  cases rx;have e':k=false:=e;subst e';exact truthy_none ⟨H,I,q⟩
 | bl b=>
  cases rx;have e':k=b:=e;subst e';exact pw ⟨H,I,q⟩
 | int i=>
  obtain⟨t,rfl⟩:=rx;have e':k=(i !=0):=e;subst e';exact PySem.P.truthy_int ⟨H,I,q⟩
 | str y=>
  obtain⟨t,rfl⟩:=rx;obtain⟨hy,e'⟩:y.length<=sizeLine/\k=((y.length:Int) !=0):=e;subst e';exact PySem.P.truthy_str (by omega) ⟨H,I.tok _,q⟩
 | byt y=>
  obtain⟨t,rfl⟩:=rx;obtain⟨hy,e'⟩:y.size<=sizeLine/\k=((y.size:Int) !=0):=e;subst e';exact PySem.W.truthy_bytes (by omega) ⟨H,I.tok _,q⟩
 | ref p=>
  cases rx;have e':(∃xs,yT X.K H p xs/\k= !xs.isEmpty)∨(∃xs,xI X.K H p xs/\k= !xs.isEmpty)∨∃kvs,H p=some (.dK kvs)/\k= !kvs.isEmpty:=e;rcases e' with⟨xs,hx,e'⟩ | ⟨xs,hx,e'⟩ | ⟨kvs,hx,e'⟩
  ·subst e'
   obtain⟨its,r,pl,hz⟩:=I.list hx;have hlen:=r.length;exact wpAny_truthy_list pl.isList (by simp only[be];omega) ⟨H,I.tok _,by rw[ziz r];exact q⟩
  ·subst e'
   obtain⟨its,r,pl,hz⟩:=I.tuple hx;have hlen:=r.length;exact truthy_tuple pl (by simp only[be];omega) ⟨H,I.tok _,by rw[ziz r];exact q⟩
  ·subst e'
   obtain⟨hz,hS,vs,r,m⟩:kvs.length<=sizeLine/\(p==sysModules)=false/\∃vs,KV kvs vs/\s.heap.DictOf (xB X.prog X.w) p vs:=I.hok p _ hx;have hlen:kvs.length=vs.length:=ii r;exact wpAny_truthy_dict hS m (by omega) ⟨H,I.tok _,by rw[znV r];exact q⟩
 | _=>exact(show False from e).elim
theorem zrf (ha:PE X a ta)(he: ∀whole,isTrue a X.env whole=(do let v <- whole;standAt a.pos;holding [v] (truthy v))):
  PT X a (λσ H Q=>ta σ H λx H'=> ∃k,eN X.K x H' k/\Q k H'):=by
 (first | refine⟨?_⟩ | skip)
 intro pins s σ H Q I h;exact isTrue_plain (zM (ha pins s σ H _ I h) λv s1 ⟨x,H1,I1,r1,q1⟩=>ztr pins s1 σ H1 x v Q I1 r1 q1) (he _)
theorem zpW:yA X (binaryOp .Add) (λx y H Q=> ∃i j,x= .str i/\y= .str j/\i.length+j.length<=sizeLine/\Q (.str (i++j)) H):=by
 (first | refine⟨?_⟩ | skip)
 intro pins s σ H x y v u Q I rx ry h;obtain⟨i,j,rfl,rfl,hz,q⟩:=h;obtain⟨t,rfl⟩:=rx;obtain⟨t',rfl⟩:=ry;exact add_str (λt' tk=>⟨.str (i++j),H,I.tok _,⟨_,rfl⟩,q⟩) hz
theorem rY {x:V}{us:List Value}(r:zJ [x] us): ∃u,us= [u]/\zN x u:=by
 cases r with
 | cons r1 r2=>cases r2;exact⟨_,rfl,r1⟩
theorem zfc:w4 X (.type "int") (λxs H Q=>(∃i,xs= [.int i]/\Q (.int i) H)∨∃k,xs= [.bl k]/\Q (.int (if k then 1 else 0)) H):=by
 (first | refine⟨?_⟩ | skip)
 intro pins s σ H xs us Q I r h;rcases h with⟨i,rfl,q⟩ | ⟨k,rfl,q⟩
 ·obtain⟨u,rfl,t,rfl⟩:=rY r
  exact call_int_int ⟨.int i,H,I,⟨_,rfl⟩,q⟩
 ·obtain⟨u,rfl,r1⟩:=rY r
  cases r1;exact call_int_bool ⟨.int (if k then 1 else 0),H,I.tok _,⟨_,rfl⟩,q⟩
def zlU (K:Frag)(x:V)(H:Hp)(n:Nat):Prop:=
 match x with
 | .str y=>y.length<=sizeLine/\n=y.length
 | .byt y=>y.size<=sizeLine/\n=y.size
 | .ref p=>(∃xs,yT K H p xs/\n=xs.length)∨∃xs,xI K H p xs/\n=xs.length
 | _=>False
theorem j1:w4 X (.builtin "len") (λxs H Q=> ∃x n,xs= [x]/\zlU X.K x H n/\Q (.int n) H):=by
 (first | refine⟨?_⟩ | skip)
 intro pins s σ H xs us Q I r h;obtain⟨x,n,rfl,e,q⟩:=h;obtain⟨u,rfl,rx⟩:=rY r;have hl:=sR;have hs:sizeLine=16777216:=cx;cases x with
 | str y=>
  obtain⟨t,rfl⟩:=rx;obtain⟨hy,e'⟩:y.length<=sizeLine/\n=y.length:=e;subst e';exact len_str (by omega) ⟨.int _,H,I.tok _,⟨_,rfl⟩,q⟩
 | byt y=>
  obtain⟨t,rfl⟩:=rx;obtain⟨hy,e'⟩:y.size<=sizeLine/\n=y.size:=e;subst e';exact PySem.W.len_bytes (by omega) ⟨.int _,H,I.tok _,⟨_,rfl⟩,q⟩
 | ref p=>
  cases rx;have e':(∃xs,yT X.K H p xs/\n=xs.length)∨∃xs,xI X.K H p xs/\n=xs.length:=e;rcases e' with⟨xs,hx,e'⟩ | ⟨xs,hx,e'⟩
  ·subst e'
   obtain⟨its,r',pl,hz⟩:=I.list hx;have hlen:=r'.length;exact Calls.call_len_list pl.isList (by simp only[be];omega) ⟨.int xs.length,H,I.tok _,⟨_,by simp only[be];rw[hlen]⟩,q⟩
  ·subst e'
   obtain⟨its,r',pl,hz⟩:=I.tuple hx;have hlen:=r'.length;exact len_tuple pl (by simp only[be];omega) ⟨.int xs.length,H,I.tok _,⟨_,by simp only[be];rw[hlen]⟩,q⟩
 | _=>exact(show False from e).elim
end
end L2
namespace L2
open PySem PySem.Spec PyProof.Rows
section
variable {prog:Program} {w:World} {A:Around} {E:Value->Shared->Prop} {s:Shared} {K:Frag} {x dx C f:Addr} {mA:Str->Option Value} {name:Str} {v:Value}
end
theorem uY.some_of {v:V}{o:Option Value}(r:uY (some v) o): ∃u,o=some u/\zN v u:=by
 cases o with
 | none=>exact(show False from r).elim
 | some u=>exact⟨u,rfl,r⟩
section
variable {P:Program} {w:World} {H H':Hp} {h h':Heap} {a C dx:Addr} {fs fs':List (Str×V)}
end
section
variable {X:Cx} {pins:List (Addr×Obj)} {σ:St} {H:Hp} {s:Shared} {a C dx:Addr} {fs:List (Str×V)} {f:Str} {v:V} {A:Around} {E:Value->Shared->Prop}
end
section
variable {X:Cx} {o e value:Expr} {f:Str} {pos pos' tpos:Pos} {ta tv:TE}
end
section
variable {X:Cx} {pins:List (Addr×Obj)} {σ:St} {H:Hp} {s:Shared} {A:Around} {E:Value->Shared->Prop} {Q:Value->Shared->Prop} {c:Value} {b:Bool}
end
end L2
namespace L2
open PySem PySem.Spec PyProof.Rows
structure zL (k:Nat)(A:Around):Prop where
 hd:A.handled=none
 dp:A.depth+3 * k+5 < recursionLimit
 un:A.units+16 * k+200 < cLine
theorem zL.mono {j k:Nat}{A:Around}(r:zL k A)(h:j<=k):zL j A:=⟨r.hd,by have:=r.dp;omega,by have:=r.un;omega⟩
theorem zL.deeper {k:Nat}{A:Around}(r:zL (k+1) A)(env:Env):zL k (A.deeper env):=
 ⟨r.hd,by have:=r.dp;show A.depth+1+3 * k+5 < _;omega,by have:=r.un;show A.units+3+16 * k+200 < _;omega⟩
theorem zoD {A:Around}{C:Addr}{us:List Value}{kw:List (Str×Value)} :(A.under (.builtin "type.__call__" ⟨.ref C::us,kw⟩)).depth=A.depth+1:=by
 first | rfl | simp[Around.under,Code.weight,Code.isCreation,Code.isGuard,Code.isCaller,Code.frames,Code.isFrame,guardIds]
theorem zoE {A:Around}{C:Addr}{us:List Value}{kw:List (Str×Value)} :(A.under (.builtin "type.__call__" ⟨.ref C::us,kw⟩)).units=A.units+1:=by
 first | rfl | simp[Around.under,Code.cUnits,Code.frames,Code.isFrame]
theorem zL.make {k:Nat}{A:Around}(r:zL (k+1) A)(C:Addr)(us:List Value)(kw:List (Str×Value)):zL k (A.under (.builtin "type.__call__" ⟨.ref C::us,kw⟩)):=
 ⟨r.hd,by have:=r.dp;rw[zoD];omega,by have:=r.un;rw[zoE];omega⟩
theorem zL.depth {k:Nat}{A:Around}(r:zL k A):A.depth < recursionLimit:=by have:=r.dp;omega
theorem zL.units {k:Nat}{A:Around}(r:zL k A):A.units+64 < cLine:=by have:=r.un;omega
def zkD:TA:=λ_ H Q=>Q [] H
def zdH (ta:TE)(tr:TA):TA:=λσ H Q=>ta σ H λx H1=>tr σ H1 λxs H2=>Q (x::xs) H2
section
variable {X:Cx} {e:Expr} {es:List Expr} {te:TE} {t:TA} {pos:Pos}
theorem mW:PA X [] zkD:=⟨λ_ _ _ _ H Q I h=>jz ⟨[],H,I,.nil,h⟩⟩
theorem qJ (ha:PE X e te)(hr:PA X es t)(hs:starEach (e::es) X.env=(false,eval e X.env)::starEach es X.env:=by rfl):PA X (e::es) (zdH te t):=by
 (first | refine⟨?_⟩ | skip)
 intro pos pins s σ H Q I h;rw[hs];show ak _ _ (spliced ((false,eval e X.env)::backTo pos (starEach es X.env))) _ _ s;refine jq (zM (ha pins s σ H _ I h) λu s1 ⟨x,H1,I1,r1,q1⟩=> ?_);exact zM (hr pos pins s1 σ H1 _ I1 q1) λus s2 ⟨xs,H2,I2,r2,q2⟩=>⟨x::xs,H2,I2,.cons r1 r2,q2⟩
def zkH (t:TA):TE:=λσ H Q=>t σ H λxs H1=>xs.length<=sizeLine/\∀p,H1 p=none->Q (.ref p) (upd H1 p (.tup xs))
def zsS (t:TA):TE:=λσ H Q=>t σ H λxs H1=>xs.length<=sizeLine/\∀p,H1 p=none->Q (.ref p) (upd H1 p (.lst xs))
theorem zj9 {x1}(h:PA X es t):PE X (.Tuple es x1 pos) (zkH t):=by
 (first | refine⟨?_⟩ | skip)
 intro pins s σ H Q I hq;refine wpAny_Tuple_spliced (zM (h pos pins s σ H _ I hq) λus s1 ⟨xs,H1,I1,r,z,q⟩=>⟨by rw[<- r.length];exact z,?_⟩);have hf:H1 s1.heap.objs.size=none:=I1.hok.fresh (ao _);refine⟨.ref s1.heap.objs.size,upd H1 s1.heap.objs.size (.tup xs),I1.laid (t':=s1.toks) (λb u e=>ae _ e) (ao _) ?_,rfl,q _ hf⟩;exact⟨z,us,r,⟨_,br _ rfl,rfl,_,rfl,rfl⟩⟩
theorem zj8 (h:PA X es t):PE X (.List es pos) (zsS t):=by
 (first | refine⟨?_⟩ | skip)
 intro pins s σ H Q I hq;refine wpAny_List_spliced (zM (h pos pins s σ H _ I hq) λus s1 ⟨xs,H1,I1,r,z,q⟩=>⟨by rw[<- r.length];exact z,?_⟩);have hf:H1 s1.heap.objs.size=none:=I1.hok.fresh (ao _);refine⟨.ref s1.heap.objs.size,upd H1 s1.heap.objs.size (.lst xs),I1.laid (t':=s1.toks) (λb u e=>ae _ e) (ao _) ?_,rfl,q _ hf⟩;exact⟨z,us,0,r,br _ rfl⟩
end
abbrev Sp:=List V->Hp->VK->XK->Prop
abbrev u0:=List Env->Hp->Shared->XK->Value->Shared->Prop
structure sG (P:Program)(w:World)(K:Frag)(mg:Str->Option Value)(base:Heap)(A:Around)(outer:List Env)(s:Shared)(H:Hp):Prop where
 frames:A.frames=some outer
 mod:Mod K mg base
 bs: ∀b o,base.get? b=some o->s.heap.get? b=some o/\H b=none
 bsz:base.objs.size<=s.heap.objs.size
 funs:s.heap.FunFrames base outer
 frf: ∀b∈xS outer,H b=none
 hok:x6 P w H s.heap
 bare:AllBare s.gens
def CE (outer:List Env)(P:Program)(w:World)(H:Hp)(s:Shared)(Q:VK)(u:Value)(s':Shared):Prop:=
 ∃v H',s'.os=s.os/\AllBare s'.gens/\Un (xS outer) [] H H' s.heap s'.heap/\x6 P w H' s'.heap/\zN v u/\Q v H'
def CR (CX:u0)(outer:List Env)(P:Program)(w:World)(H:Hp)(s:Shared)(Q:VK)(E:XK)(r:Result)(s':Shared):Prop:=
 match r with
 | .ok (.ret u)=>CE outer P w H s Q u s'
 | .ok _=>False
 | .error e=>CX outer H s E e s'
structure zU (P:Program)(w:World)(K:Frag)(mg:Str->Option Value)(base:Heap)(CX:u0)(k:Nat)(f:Addr)(fd:FuncData)(ps:List Str)(sp:Sp):Prop where
 len: ∀vs H Q E,sp vs H Q E->vs.length=ps.length
 run: ∀(A:Around) (outer:List Env) (s:Shared) (H:Hp) (args:Args) (us:List Value) (vs:List V) (Q:VK) (E:XK),zL k A->sG P w K mg base A outer s H->BindsTo s fd args (ps.zip us)->zJ vs us->sp vs H Q E->
  codeAny (ay P w) A (.call (.ref f) args) (CR CX outer P w H s Q E) s
theorem sG.make {P:Program}{w:World}{K:Frag}{mg:Str->Option Value}{base:Heap}{A:Around}{outer:List Env}{s:Shared}{H:Hp}(e:sG P w K mg base A outer s H)(C:Addr)(us:List Value)(kw:List (Str×Value)):
  sG P w K mg base (A.under (.builtin "type.__call__" ⟨.ref C::us,kw⟩)) outer s H:=⟨by first | exact e.frames | (simpa [Around.under,Code.envs,Code.isFrame,pushEnvs]using e.frames),e.mod,e.bs,e.bsz,e.funs,e.frf,e.hok,e.bare⟩
section
variable {X:Cx} {pins:List (Addr×Obj)} {σ:St} {H:Hp} {s s':Shared}
theorem z5.env0 (I:z5 X pins σ H s):sG X.prog X.w X.K X.mg X.base X.A X.stack s H:=
 ⟨I.ok.frames,I.ok.mod,I.bs,bf I.ok.bsz I.sz,I.stack,I.stkFree,I.hok,I.bare⟩
theorem z5.after {Q:VK}{u:Value}(I:z5 X pins σ H s)(h:CE X.stack X.prog X.w H s Q u s'):EP X pins σ Q u s':=by
 obtain⟨v,H',os,bare,un,hok,r,q⟩:=h;obtain⟨hh,g,d,t,os'⟩:=s';obtain rfl:os'=s.os:=os;exact⟨v,H',I.call (h':=hh) (g':=g) (d':=d) (t':=t) (ch:= []) un hok bare (λb z=>absurd z (by simp)),r,q⟩
end
def zsM (sp:Sp)(dvs:List V)(E:XK)(t:TA):TE:=λσ H Q=>t σ H λvs H1=>sp (vs++dvs) H1 Q E
def wT (K:Frag)(fd:FuncData)(ps:List Str)(ds:List Value):Prop:=
 ∀(s:Shared) (us:List Value),K.In s.heap->(us++ds).length=ps.length->BindsTo s fd ⟨us,[]⟩ (ps.zip (us++ds))
theorem wT.all {K:Frag}{fd:FuncData}{ps:List Str}(h: ∀us:List Value,us.length=ps.length->bindArgs fd ⟨us,[]⟩=pure (ps.zip us)):wT K fd ps []:=λs us _ hl=>by
 rw[cn]at hl⊢
 exact .of_eq (h us hl)
def mC (CX:u0)(X:Cx)(E:XK):Prop:= ∀(pins:List (Addr×Obj)) (σ:St) (H:Hp) (s:Shared) (e:Value) (s':Shared),z5 X pins σ H s->CX X.stack H s E e s'->X.xe e s'
section
variable {X:Cx} {CX:u0} {k:Nat} {f C:Addr} {fd:FuncData} {ps:List Str} {sp:Sp} {dvs:List V} {ds:List Value} {E:XK} {x m:Str} {p pos apos:Pos} {e o:Expr} {es:List Expr} {ta:TE} {t:TA}
theorem zrU {pins:List (Addr×Obj)}{σ:St}{H:Hp}{s:Shared}{Q:VK}{us:List Value}{vs:List V}(F:zU X.prog X.w X.K X.mg X.base CX k f fd ps sp)(hr:zL k X.A)(hb:wT X.K fd ps ds)(hd:zJ dvs ds)(hx:mC CX X E)
  (I:z5 X pins σ H s) (r:zJ vs us) (h:sp (vs++dvs) H Q E):ak (ay X.prog X.w) X.A (call (.ref f) us) (EP X pins σ Q) X.xe s:=by
 have r2:zJ (vs++dvs) (us++ds):=r.append hd;have hl:(us++ds).length=ps.length:=by rw[<- r2.length];exact F.len _ _ _ _ h
 refine ml (ly (F.run X.A X.stack s H ⟨us,[]⟩ (us++ds) (vs++dvs) Q E hr I.env0 (hb s us I.kIn hl) r2 h) λr s' hq=> ?_);cases r with
 | error e=>exact hx pins σ H s e s' I hq
 | ok fl=>
  cases fl with
  | ret u=>exact I.after hq
  | next=>exact False.elim hq
  | brk=>exact False.elim hq
  | cont=>exact False.elim hq
theorem zqv (F:zU X.prog X.w X.K X.mg X.base CX k f fd ps sp)(hr:zL k X.A)(hg:Gl X x)(hm:X.mg x=some (.ref f))(hk:keepIn X.K (.ref f)=true)(hb:wT X.K fd ps ds)(hd:zJ dvs ds)(hx:mC CX X E)
  (ha:PA X (e::es) t) (hdb:(x==("__debug__" :Str))=false:=by decide) (he:starEach (e::es) X.env=(false,eval e X.env)::starEach es X.env:=by rfl) (hpl:(backTo pos (starEach es X.env)).any (·.1)=false:=by rfl):
  PE X (.Call (.Name x p) (e::es) [] pos) (zsM sp dvs E t):=by
 (first | refine⟨?_⟩ | skip)
 intro pins s σ H Q I h;refine ef (oQ I hg hm ?_ hdb);refine callWith_K (h₀:=X.base) I.ok.mod.kin hk (zM (ha pos pins s σ H _ I h) λus s1 ⟨vs,H1,I1,r,q⟩=>⟨I1.kIn,?_⟩) he hpl;exact zrU F hr hb hd hx I1 r q
end
structure PK (X:Cx)(kws:List Keyword)(t:TA):Prop where
 run:
  ∀(pos:Pos) (pins:List (Addr×Obj)) (s:Shared) (σ:St) (H:Hp) (Q:List V->Hp->Prop),z5 X pins σ H s->t σ H Q->ak (ay X.prog X.w) X.A (evalAll ((backToKw pos (keywordEach kws X.env)).map (·.2))) (AP X pins σ Q) X.xe s
instance {X:Cx} {kws:List Keyword} {t:TA} :CoeFun (PK X kws t) λ_=>
 ∀(pos:Pos) (pins:List (Addr×Obj)) (s:Shared) (σ:St) (H:Hp) (Q:List V->Hp->Prop),z5 X pins σ H s->t σ H Q->ak (ay X.prog X.w) X.A (evalAll ((backToKw pos (keywordEach kws X.env)).map (·.2))) (AP X pins σ Q) X.xe s
  :=⟨PK.run⟩
section
variable {X:Cx} {CX:u0} {k:Nat} {f C:Addr} {fd:FuncData} {ps ks:List Str} {sp:Sp} {E:XK} {x m:Str} {p pos apos kpos:Pos} {e o:Expr} {es:List Expr} {kws:List Keyword} {te ta:TE} {t tk:TA} {nm:Option Str}
variable {g:List Value->List Value->List Value} {gV:List V->List V->List V}
end
structure yM (N P:List Str)(sc:Scope):Prop where
 kind:sc.kind= .function
 co:sc.isCoroutine=false
 gen:sc.isGenerator=false
 nd:N.Nodup
 pre:N.take P.length=P
 par: ∀x∈P,sc.names.lookup x=some .local∨sc.names.lookup x=some .cell
 nofree: ∀y∈sc.names,y.2≠ .free
theorem zeU {kindOf:Str->Option NameKind}{x:Str} : ∀{binds:List (Str×Value)} {m:Str->Option Value},(∀v,(x,v)∉binds)->bindL kindOf binds m x=m x
 | [],_,_=>rfl
 | (n,v)::r,m,h=>by
  unfold bindL;rw[zeU λw hw=>h w (bc _ hw)]
  split
  ·have:x≠n:=by rintro rfl;exact h v ar
   simp[this]
  ·rfl
theorem zeS {kindOf:Str->Option NameKind}{x:Str} : ∀{binds:List (Str×Value)} {m:Str->Option Value},(∀v,(x,v)∉binds)->bindC kindOf binds m x=m x
 | [],_,_=>rfl
 | (n,v)::r,m,h=>by
  unfold bindC;rw[zeS λw hw=>h w (bc _ hw)]
  split
  ·rfl
  ·have:x≠n:=by rintro rfl;exact h v ar
   simp[this]
theorem zeT {kindOf:Str->Option NameKind}{x:Str}{v:Value} : ∀{P:List Str} {vs:List Value} {i:Nat} {m:Str->Option Value},P.Nodup->P[i]?=some x->vs[i]?=some v->kindOf x=some .local->
  bindL kindOf (P.zip vs) m x=some v
 | [],_,_,_,_,h,_,_=>by simp at h
 | _::_,[],_,_,_,_,h,_=>by simp at h
 | p::P,w::vs,0,m,nd,h1,h2,hk=>by
  simp at h1 h2;subst h1;subst h2;show bindL kindOf ((p,w)::P.zip vs) m p=_;unfold bindL;rw[zeU λv hv=>(dq.mp nd).1 (sf hv).1,if_pos hk];simp
 | p::P,w::vs,i+1,m,nd,h1,h2,hk=>by
  show bindL kindOf ((p,w)::P.zip vs) m x=_;unfold bindL;exact zeT (i:=i) (dq.mp nd).2 (by simpa using h1) (by simpa using h2) hk
theorem zeR {kindOf:Str->Option NameKind}{x:Str}{v:Value} : ∀{P:List Str} {vs:List Value} {i:Nat} {m:Str->Option Value},P.Nodup->P[i]?=some x->vs[i]?=some v->kindOf x≠some .local->
  bindC kindOf (P.zip vs) m x=some v
 | [],_,_,_,_,h,_,_=>by simp at h
 | _::_,[],_,_,_,_,h,_=>by simp at h
 | p::P,w::vs,0,m,nd,h1,h2,hk=>by
  simp at h1 h2;subst h1;subst h2;show bindC kindOf ((p,w)::P.zip vs) m p=_;unfold bindC;rw[zeS λv hv=>(dq.mp nd).1 (sf hv).1,if_neg hk];simp
 | p::P,w::vs,i+1,m,nd,h1,h2,hk=>by
  show bindC kindOf ((p,w)::P.zip vs) m x=_;unfold bindC;exact zeR (i:=i) (dq.mp nd).2 (by simpa using h1) (by simpa using h2) hk
def start (N:List Str)(vs:List V):St:=vs.map some++List.replicate (N.length - vs.length) none
def t8 (CX:u0)(P:Program)(w:World)(K:Frag)(mg:Str->Option Value)(base:Heap)(N:List Str)(qual:Str)(scope:Scope)(f:Addr)(cd:Value)(A:Around)(outer:List Env)(s:Shared)(H:Hp)(E:XK):Cx where
 prog:=P
 w:=w
 K:=K
 mg:=mg
 base:=base
 A:=A.deeper (envOfC qual scope s.heap.objs.size f cd)
 N:=N
 s₀:=s
 H₀:=H
 env:=envOfC qual scope s.heap.objs.size f cd
 outer:=outer
 stack:=envOfC qual scope s.heap.objs.size f cd::outer
 ex:= []
 calm:=true
 fn:=λ_=>true
 pn:= []
 xe:=λe s'=>ak (ay P w) (A.deeper (envOfC qual scope s.heap.objs.size f cd)) (leaving (envOfC qual scope s.heap.objs.size f cd) e) (λ_ s''=>CX outer H s E e s'') (λe' s''=>CX outer H s E e' s'') s'
theorem zfh {sc:Scope}{n:Nat}{x:Str}(h:sc.names.lookup x=some .cell): ∃c,(cellsFrom n sc.names []).lookup x=some c:=by
 have q:=tj sc.names n [] (.inl h);exact qj.mp q
theorem znU {CX:u0}{P:Program}{w:World}{K:Frag}{mg:Str->Option Value}{base:Heap}{N ps:List Str}{qual:Str}{scope:Scope}{f:Addr}{cd:Value}{A:Around}{outer:List Env}{s s1:Shared}{H:Hp}{E:XK}{us:List Value}{vs:List V}
  (S:yM N ps scope) (hd:A.handled=none) (e0:sG P w K mg base A outer s H) (hl:vs.length=ps.length) (r:zJ vs us)
  (x:InCallC s s.heap.objs.size (bindL (envOfC qual scope s.heap.objs.size f cd).kindOf (ps.zip us) λ_=>none) (cellsFrom (s.heap.objs.size+1) scope.names []) (bindC (envOfC qual scope s.heap.objs.size f cd).kindOf (ps.zip us) λ_=>none) s1):
  z5 (t8 CX P w K mg base N qual scope f cd A outer s H E) [] (start N vs) H s1:=by
 have hpl:ps.length<=N.length:=by have:=congrArg List.length S.pre;rw[cj]at this;omega
 obtain⟨h1,tk,rfl,hk⟩:=x.done;have noA: ∀b:Addr,b∉(t8 CX P w K mg base N qual scope f cd A outer s H E).ex:=λb z=>absurd (show b∈([]:List Addr)from z) (by simp);refine⟨⟨e0.mod,S.kind,rfl,rfl,ao _,λy z c h1 h2=> ?_,λy hy=> ?_,λy c _ h=> ?_,λ_=>hd,Around.frames_deeper e0.frames,.inr ⟨rfl,rfl⟩,λb z=>absurd z (noA b),e0.bs,e0.bsz,λb _ _=>noA b,λb z=>absurd z (noA b),e0.funs,e0.frf⟩,
  rfl,e0.bare,Un.kept hk,⟨_,x.toInCall.ns,λi y v h1 h2 h3=> ?_⟩,λy c h=>⟨_,x.cell y c h⟩,e0.hok.fresh (ao _),λy c h=> ?_,λp hp=>absurd (show p∈([]:List (Addr×Obj))from hp) (by simp),e0.hok.kept hk,?_⟩
 ·exact name_of_addr x.apart (gw h1) (gw h2)
 ·have hy:scope.names.lookup y=some .cell∨scope.names.lookup y=some .free:=hy
  rcases hy with hy | hy
  ·exact zfh hy
  ·exact absurd rfl (S.nofree _ (gw hy))
 ·exact lx (x.above y c (gw h))
 ·have hi:i < vs.length:=by
   unfold start at h2;by_cases hi:i < vs.length
   ·exact hi
   ·rw[aq (by simpa using hi)]at h2
    rw[im]at h2
    split at h2 <;> cases h2
  have ha:vs[i]?=some v:=by
   unfold start at h2;rw[bo (by simpa using hi),cg]at h2;cases e:vs[i]? with
   | none=>rw[e]at h2;cases h2
   | some a=>rw[e]at h2;cases h2;rfl
  obtain⟨u,hu,rv⟩:=r.get ha;have hp:ps[i]?=some y:=by
   rw[<- S.pre,dv (by omega)];exact h1
  have ndP:ps.Nodup:=by rw[<- S.pre];exact S.nd.sublist (iz _ _)
  refine⟨u,rv,?_⟩;rcases S.par y (ck hp)with k | k
  ·exact .inl ⟨k,zeT ndP hp hu k⟩
  ·obtain⟨c,e⟩:=zfh (n:=s.heap.objs.size+1) k
   refine .inr ⟨.inl k,c,e,?_⟩;have q:=x.cell y c e;rw[zeR ndP hp hu (by show scope.names.lookup y≠_;rw[k];decide)]at q;exact q
 ·exact e0.hok.fresh (lx (x.above y c (gw h)))
 ·unfold start
  show _=N.length;rw[ai,ac,gy];omega
theorem zig {CX:u0}{P:Program}{w:World}{K:Frag}{mg:Str->Option Value}{base:Heap}{k:Nat}{f:Addr}{name qual:Str}{params:Arguments}{body:List Stmt}{scope:Scope}{dV kV doc pm cdv ct oc:Value}{an od:Option Addr}
  {osl:Array (Option Value)} {N ps:List Str} {sp:Sp} (lk:K.lookup f=some ⟨oc,od,.func (fnOf name qual params body scope dV kV doc pm an cdv ct),osl⟩) (hcd:codeIn K cdv qual=true) (S:yM N ps scope)
  (len: ∀vs H Q E,sp vs H Q E->vs.length=ps.length)
  (hbody: ∀(A:Around) (outer:List Env) (s:Shared) (H:Hp) (vs:List V) (Q:VK) (E:XK),zL k (A.deeper (envOfC qual scope s.heap.objs.size f cdv))->sp vs H Q E->
   ∃t,x8 (t8 CX P w K mg base N qual scope f cdv A outer s H E) body t/\t {nx:=λ_ H'=>Q .non H',rt:=Q} (start N vs) H):
  zU P w K mg base CX (k+1) f (fnOf name qual params body scope dV kV doc pm an cdv ct) ps sp:=by
 refine⟨len,λA outer s H args us vs Q E hr e0 hb r hsp=> ?_⟩;have hl:=len _ _ _ _ hsp;have KX:K.In s.heap:=e0.mod.kin.keeps λb o e=>(e0.bs b o e).1;have lim:s.heap.NoLimit:=e0.mod.nolimit.keeps λb o e=>(e0.bs b o e).1;have hkind: ∀y∈ps.zip us,scope.names.lookup y.1=some .local∨(scope.names.lookup y.1=some .cell/\((cellsFrom (s.heap.objs.size+1) scope.names []).lookup y.1).isSome=true):=λ⟨n,v⟩ hy=>by
  rcases S.par n (sf hy).1 with q | q
  ·exact .inl q
  ·exact .inr ⟨q,tj _ _ _ (.inl q)⟩
 refine codeAny_call_function hr.depth (KX _ _ lk) rfl S.co S.gen rfl (PySem.W.codeRec_of KX hcd) (hb _ _ _ _ ?_);refine wpAny_newFunctionEnv_cells S.kind hkind λenv he s1 x=> ?_;subst he;refine⟨lim.keeps x.toInCall.keep,codeAny_func ?_⟩;obtain⟨t,ht,hq⟩:=hbody A outer s H vs Q E (hr.deeper _) hsp;have I:z5 (t8 CX P w K mg base N qual scope f cdv A outer s H E) [] (start N vs) H s1:=znU S hr.hd e0 hl r x;refine jp (ht [] s1 (start N vs) H _ I hq) (λfl s' hs=> ?_) λe s' hs=>hs;have fin: ∀{σ':St} {H':Hp} {v:V} {u:Value},z5 (t8 CX P w K mg base N qual scope f cdv A outer s H E) [] σ' H' s'->zN v u->Q v H'->CE outer P w H s Q u s':=
  λ{σ' H' v u} J rv q=>⟨v,H',J.os,J.bare,J.base,J.hok,rv,q⟩
 cases fl with
 | ret u=>
  obtain⟨v,σ',H',J,rv,q⟩:=hs;exact fin J rv q
 | next=>
  obtain⟨σ',H',J,q⟩:=hs;exact fin (v:=V.non) (u:=Value.none) J rfl q
 | brk=>
  obtain⟨_,_,_,q⟩:=hs;exact False.elim q
 | cont=>
  obtain⟨_,_,_,q⟩:=hs;exact False.elim q
end L2
namespace L2
open PySem PySem.Spec PyProof.Rows
section
variable {X:Cx} {x:Str} {p pos:Pos} {e:Expr} {es:List Expr} {t:TA} {id T:String} {r:List V->Hp->VK->Prop}
def tCB (r:List V->Hp->VK->Prop)(t:TA):TE:=λσ H Q=>t σ H λvs H1=>r vs H1 Q
theorem zj5 (hc:w4 X (.builtin id) r)(hg:Gl X x)(hm:X.mg x=none)(hv:bootBuiltins x=some (.builtin id))(ha:PA X (e::es) t)(hn:x≠ "__name__" :=by decide)(hdb:(x==("__debug__" :Str))=false:=by decide)
  (he:starEach (e::es) X.env=(false,eval e X.env)::starEach es X.env:=by rfl) (hpl:(backTo pos (starEach es X.env)).any (·.1)=false:=by rfl):PE X (.Call (.Name x p) (e::es) [] pos) (tCB r t):=by
 (first | refine⟨?_⟩ | skip)
 intro pins s σ H Q I h;refine ef (tU I hg hm hv ?_ hn hdb);exact PyProof.Rows.callWith_builtin1 (zM (ha pos pins s σ H _ I h) λus s1 ⟨vs,H1,I1,r1,q1⟩=>hc pins s1 σ H1 vs us Q I1 r1 q1) he hpl
theorem zqw (hc:w4 X (.type T) r)(hg:Gl X x)(hm:X.mg x=none)(hv:bootBuiltins x=some (.type T))(ha:PA X (e::es) t)(hn:x≠ "__name__" :=by decide)(hdb:(x==("__debug__" :Str))=false:=by decide)
  (he:starEach (e::es) X.env=(false,eval e X.env)::starEach es X.env:=by rfl) (hpl:(backTo pos (starEach es X.env)).any (·.1)=false:=by rfl):PE X (.Call (.Name x p) (e::es) [] pos) (tCB r t):=by
 (first | refine⟨?_⟩ | skip)
 intro pins s σ H Q I h;refine ef (tU I hg hm hv ?_ hn hdb);exact callWith_type1 (zM (ha pos pins s σ H _ I h) λus s1 ⟨vs,H1,I1,r1,q1⟩=>hc pins s1 σ H1 vs us Q I1 r1 q1) he hpl
end
end L2
namespace HT
open PySem PyProof.Rows
section
open PySem.SeqAt
open PySem.AutoSeq1 (wpAny_loadPart')
open PySem.MeetsSeq PySem.MeetsSeq2 PySem.MeetsSeq3
end
section
variable {prog:Program} {w:World} {A:Around} {E:Value->Shared->Prop} {s:Shared}
theorem cat_tup {t b:Addr}{vs ws:List Value}{Q:Value->Shared->Prop}(ht:IsTup s.heap t vs.toArray)(hb:IsTup s.heap b ws.toArray)(hv:vs≠ [])
  (h1:ws= []->Q (.ref t) s) (h2:ws≠ []->Q (.ref s.heap.objs.size) {s with heap:=s.heap.push {cls:= .type "tuple",data:= .seq (vs++ws).toArray}})
  (hsz:vs.length+ws.length<=sizeLine):ak (ay prog w) A (binaryOp .Add (.ref t) (.ref b)) Q E s:=by
 obtain⟨⟨cls,dd,data,sl⟩,ho,hc,n,hd⟩:=id ht;obtain⟨⟨cls2,dd2,data2,sl2⟩,ho2,hc2,n2,hd2⟩:=id hb;simp only at hc hd hc2 hd2;subst hc hd hc2 hd2;have e:vs.toArray++ws.toArray=(vs++ws).toArray:=by simp
 by_cases hw:ws= []
 ·exact vy ⟨_,ho,rfl⟩ ⟨_,ho2,rfl⟩ ql vi mt mm (lz _ _)
   (tuple_addW1 t b vs.toArray ws.toArray n n2 dd dd2 sl sl2 (by simpa using hv) (by simp[hw])) ⟨ho,ho2,h1 hw⟩
 ·refine vy ⟨_,ho,rfl⟩ ⟨_,ho2,rfl⟩ ql vi mt mm (lz _ _)
   (tuple_addW2 t b vs.toArray ws.toArray n n2 dd dd2 sl sl2 (by simpa using hv) (by simpa using hw) (by rw[be,be];exact hsz)) ⟨ho,ho2,?_⟩
  rw[e];exact h2 hw
def sIx (n d:Nat):Option Int->Nat
 | none=>d
 | some v=>if v < 0 then(v+(n:Int)).toNat else min v.toNat n
theorem sIx_none (n d:Nat):sIx n d none=d:=rfl
theorem sIx_nat (n d k:Nat):sIx n d (some (k:Int))=min k n:=by
 show(if(k:Int) < 0 then((k:Int)+(n:Int)).toNat else min (k:Int).toNat n)=min k n;rw[if_neg (by omega),wo]
theorem zrX (n d:Nat)(hd:d<=n)(o:Option Int):sIx n d o<=n:=by
 cases o with
 | none=>exact hd
 | some v=>
  show(if v < 0 then(v+(n:Int)).toNat else min v.toNat n)<=n;by_cases hv:v < 0
  ·rw[if_pos hv];omega
  ·rw[if_neg hv];exact Nat.min_le_right _ _
theorem zfm (v:Int)(n d:Nat):(if v < 0 then max (v+(n:Int)) 0 else min v (n:Int))=((sIx n d (some v):Nat):Int):=by
 show(if v < 0 then max (v+(n:Int)) 0 else min v (n:Int))=(((if v < 0 then(v+(n:Int)).toNat else min v.toNat n):Nat):Int);by_cases hv:v < 0
 ·simp only[if_pos hv];omega
 ·simp only[if_neg hv];omega
theorem zmd (lo hi:Option Int)(n:Nat):Builtin.Slice.sliceAdjust lo hi 1 (n:Int)=(((sIx n 0 lo:Nat):Int),((sIx n n hi:Nat):Int)):=by
 have h1: ¬ ((1:Int) < 0):=by omega
 unfold Builtin.Slice.sliceAdjust;simp only[h1,if_false];refine Prod.ext ?_ ?_
 ·cases lo with
  | none=>rfl
  | some v=>exact zfm v n 0
 ·cases hi with
  | none=>rfl
  | some v=>exact zfm v n n
theorem zqQ (i j:Nat):Builtin.Slice.slicePlaces (i:Int) (j:Int) 1=j - i:=by
 unfold Builtin.Slice.slicePlaces;have h1:(1:Int) > 0:=by omega
 simp only[h1,if_true,vz]
 split <;> omega
theorem slicePart_ {v:Value}{o:Option Int}{Q:Option Int->Shared->Prop}(p:IsPart v o)(h:Q o s):ak (ay prog w) A (Builtin.Slice.slicePartIndex v) Q E s:=by
 cases p with
 | none=>exact slicePart_none h
 | int i t=>exact slicePart_int h
theorem sliceApplied_gen {sl:Addr}{vl vu:Value}{lo hi:Option Int}{n:Nat}{Q:Int×Int×Nat->Shared->Prop}(hs:s.heap.IsSliceOf sl vl vu .none)(pl:IsPart vl lo)(pu:IsPart vu hi)
  (h:Q (((sIx n 0 lo:Nat):Int),1,sIx n n hi - sIx n 0 lo) s):ak (ay prog w) A (Builtin.Slice.sliceApplied (.ref sl) (pure (n:Int))) Q E s:=by
 obtain⟨os,hos,hcs,hds⟩:=id hs;unfold Builtin.Slice.sliceApplied Builtin.Slice.sliceFields;refine aa (aa (fe hos hds (x:=vl) rfl (aa (fe hos hds (x:=vu) rfl (aa (fe hos hds (x:= .none) rfl (ah ?_)))))));refine aa (slicePart_none ?_);show ak _ _ (if((1:Int)==0)=true then _ else _) _ _ s;rw[if_neg (by decide)];refine aa (slicePart_ pl (aa (slicePart_ pu (aa (ah ?_)))));show ak _ _ (match Builtin.Slice.sliceAdjust lo hi 1 (n:Int)with | (lo,hi)=>pure (lo,(1:Int),Builtin.Slice.slicePlaces lo hi 1)) _ _ s;rw[zmd lo hi n];show ak _ _ (pure (((sIx n 0 lo:Nat):Int),(1:Int),Builtin.Slice.slicePlaces ((sIx n 0 lo:Nat):Int) ((sIx n n hi:Nat):Int) 1)) _ _ s;rw[zqQ];exact ah h
theorem zqM (xs:Array Value)(i k:Nat):((List.range k).filterMap λ(m:Nat)=>xs[((i:Int)+(m:Int) * 1).toNat]?).toArray=((xs.toList.drop i).take k).toArray:=by
 have e:(λ(m:Nat)=>xs[((i:Int)+(m:Int) * 1).toNat]?)=λm=>xs[i+m]?:=by
  funext m
  have:((i:Int)+(m:Int) * 1).toNat=i+m:=by omega
  rw[this]
 rw[e];have:=pick_run xs i k;rw[ko]at this;have e2:((λx=>xs[x]?) ∘ λx=>i+x)=λm=>xs[i+m]?:=rfl;rw[e2]at this;rw[this]
theorem getItem_tuple_cut {t sl:Addr}{items:Array Value}{vl vu:Value}{lo hi:Option Int}{Q:Value->Shared->Prop}(ht:IsTup s.heap t items)(hs:s.heap.IsSliceOf sl vl vu .none)(pl:IsPart vl lo)(pu:IsPart vu hi)
  (hw: ¬ (sIx items.size 0 lo=0/\sIx items.size items.size hi=items.size))
  (h:Q (.ref s.heap.objs.size) {s with heap:=s.heap.push {cls:= .type "tuple",data:= .seq ((items.toList.drop (sIx items.size 0 lo)).take (sIx items.size items.size hi - sIx items.size 0 lo)).toArray}})
  (hsz:items.size<=sizeLine):ak (ay prog w) A (getItem (.ref t) (.ref sl)) Q E s:=by
 have htake:sizeOk (.seq ((items.toList.drop (sIx items.size 0 lo)).take (sIx items.size items.size hi - sIx items.size 0 lo)).toArray):=by
  show((items.toList.drop (sIx items.size 0 lo)).take (sIx items.size items.size hi - sIx items.size 0 lo)).toArray.size<=sizeLine;rw[be,cj,ll,fm];omega
 have hj:sIx items.size items.size hi<=items.size:=zrX _ _ (ao _) hi;obtain⟨os,hos,hcs,hds⟩:=id hs;have hTs:s.TypeIs (.ref sl) "slice" :=⟨os,hos,hcs⟩;unfold getItem
 try with_reducible refine cq ?_
 first | refine aa (ah ?_) | skip
 refine aa (pz ht.typeIs (by decide) ?_);refine aa (jb (name:=Str.ofString "__getitem__") ht.typeIs cy
  (ji cy ht.typeIs oo ?_ (ow _ _)))
 show ak _ _ (Builtin.Tuple.tupleItemsOf (.ref t) >>= _) _ _ s;refine aa (vj ht ?_);refine aa (ib hTs ?_);rw[if_pos (by decide)];refine aa (sliceApplied_gen hs pl pu ?_);have hno: ¬ ((((sIx items.size 0 lo:Nat):Int)==0&&(1:Int)==1&&(sIx items.size items.size hi - sIx items.size 0 lo)==items.size)=true):=by
  intro q;rw[fb,fb]at q;have q1:((sIx items.size 0 lo:Nat):Int)=0:=eq_of_beq q.1.1;have q2:sIx items.size items.size hi - sIx items.size 0 lo=items.size:=eq_of_beq q.2;exact hw ⟨by omega,by omega⟩
 show ak _ _ (if(((sIx items.size 0 lo:Nat):Int)==0&&(1:Int)==1&&(sIx items.size items.size hi - sIx items.size 0 lo)==items.size)=true then _ else _) _ _ s;rw[if_neg hno,zqM]
 first
  | exact aa (m:=Builtin.Tuple.tupleExact _) (cr (ah ⟨_,rfl,ah h⟩) htake)
  | exact aa (m:=Builtin.Tuple.tupleExact _) (cr (aa (ah (ah ⟨_,rfl,ah h⟩))) htake)
  | exact aa (aa (m:=Builtin.Tuple.tupleExact _) (cr (ah (ah ⟨_,rfl,ah h⟩)) htake))
  | exact aa (aa (m:=Builtin.Tuple.tupleExact _) (cr (ah ⟨_,rfl,ah h⟩) htake))
end
end HT
namespace L2
open PySem PySem.Spec PyProof.Rows
abbrev TO:=St->Hp->(Option Int->Hp->Prop)->Prop
structure PO (X:Cx)(e:Option Expr)(t:TO):Prop where
 run:
  ∀(pins:List (Addr×Obj)) (s:Shared) (σ:St) (H:Hp) (Q:Option Int->Hp->Prop),z5 X pins σ H s->t σ H Q->
   ak (ay X.prog X.w) X.A (evalPart e X.env) (λu s'=> ∃o H',z5 X pins σ H' s'/\IsPart u o/\Q o H') X.xe s
instance {X:Cx} {e:Option Expr} {t:TO} :CoeFun (PO X e t) λ_=>
 ∀(pins:List (Addr×Obj)) (s:Shared) (σ:St) (H:Hp) (Q:Option Int->Hp->Prop),z5 X pins σ H s->t σ H Q->
  ak (ay X.prog X.w) X.A (evalPart e X.env) (λu s'=> ∃o H',z5 X pins σ H' s'/\IsPart u o/\Q o H') X.xe s
  :=⟨PO.run⟩
def zsY:TO:=λ_ H Q=>Q none H
def ztb (t:TE):TO:=λσ H Q=>t σ H λx H1=> ∃i,x= .int i/\Q (some i) H1
section
variable {X:Cx} {e:Expr} {te:TE} {lo hi:Option Expr} {tl th:TO} {pos p2:Pos}
theorem zqR:PO X none zsY:=by
 (first | refine⟨?_⟩ | skip)
 intro pins s σ H Q I h;rw[po];exact ah ⟨none,H,I,.none,h⟩
theorem zqS (h:PE X e te):PO X (some e) (ztb te):=by
 (first | refine⟨?_⟩ | skip)
 intro pins s σ H Q I hw;rw[evalPart_some];refine zM (h pins s σ H _ I hw) λu s1 ⟨x,H1,I1,r1,q1⟩=> ?_;obtain⟨i,rfl,q⟩:=q1;obtain⟨t,rfl⟩:=r1;exact⟨some i,H1,I1,.int i t,q⟩
def mE (X:Cx)(r:V->Option Int->Option Int->Hp->VK->Prop):Prop:=
 ∀(pins:List (Addr×Obj)) (s:Shared) (σ:St) (H:Hp) (x:V) (v vl vu:Value) (lo hi:Option Int) (sl:Addr) (Q:VK),z5 X pins σ H s->zN x v->s.heap.IsSliceOf sl vl vu .none->IsPart vl lo->IsPart vu hi->r x lo hi H Q->
  ∃T id,typeLookup (.type T) "__getitem__" =pure (some (.builtin id))/\s.TypeIs v T/\ak (ay X.prog X.w) X.A (getItem v (.ref sl)) (EP X pins σ Q) X.xe s
def tSl (r:V->Option Int->Option Int->Hp->VK->Prop)(te:TE)(tl th:TO):TE:=λσ H Q=>te σ H λx H1=>tl σ H1 λl H2=>th σ H2 λu H3=>r x l u H3 Q
theorem zq_ {r:V->Option Int->Option Int->Hp->VK->Prop}(hr:mE X r)(he:PE X e te)(hl:PO X lo tl)(hu:PO X hi th):PE X (.Subscript e (.Slice lo hi none p2) pos) (tSl r te tl th):=by
 (first | refine⟨?_⟩ | skip)
 intro pins s σ H Q I h;refine uu (zM (he pins s σ H _ I h) λv s1 ⟨x,H1,I1,r1,q1⟩=> ?_);refine wy (zM (hl pins s1 σ H1 _ I1 q1) λvl s2 ⟨l,H2,I2,pl,q2⟩=>zM (hu pins s2 σ H2 _ I2 q2) λvu s3 ⟨u,H3,I3,pu,q3⟩=> ?_);rw[po];refine ah ?_;have I4:z5 X pins σ H3 {s3 with heap:=s3.heap.push {cls:= .type "slice",data:= .fields #[vl,vu,.none]}} :=I3.kept (t':=s3.toks) λb ob q=>ae _ q;obtain⟨T,id,hT,ht,hg⟩:=hr pins {s3 with heap:=s3.heap.push {cls:= .type "slice",data:= .fields #[vl,vu,.none]}} σ H3 x v vl vu l u s3.heap.objs.size Q I4 r1 (oy ..) pl pu q3;show ak (ay X.prog X.w) X.A (subscriptTail e (.Slice lo hi none p2) v (.ref s3.heap.objs.size)) (EP X pins σ Q) X.xe {s3 with heap:=s3.heap.push {cls:= .type "slice",data:= .fields #[vl,vu,.none]}};exact xc (ops:= [.ref s3.heap.objs.size,v]) ht hT hg (by with_unfolding_all rfl)
def qF (xs:List V)(lo hi:Option Int):List V:=(xs.drop (HT.sIx xs.length 0 lo)).take (HT.sIx xs.length xs.length hi - HT.sIx xs.length 0 lo)
theorem j7 (xs:List V)(lo hi:Option Int):(qF xs lo hi).length<=xs.length:=by
 unfold qF;rw[cj,ll];omega
def zrM (K:Frag):V->Option Int->Option Int->Hp->VK->Prop:=λx lo hi H Q=> ∃a xs,x= .ref a/\xI K H a xs/\
 ¬ (HT.sIx xs.length 0 lo=0/\HT.sIx xs.length xs.length hi=xs.length)/\∀p,H p=none->Q (.ref p) (upd H p (.tup (qF xs lo hi)))
theorem zsq:mE X (zrM X.K):=by
 (first | refine⟨?_⟩ | skip)
 intro pins s σ H x v vl vu lo hi sl Q I rx hs pl pu h;obtain⟨a,xs,rfl,hx,hw,q⟩:=h;cases rx;obtain⟨its,r,ht,hz⟩:=I.tuple hx;have hlen:its.toArray.size=xs.length:=by rw[be];exact r.length.symm
 refine⟨"tuple",_,cy.lookup,ht.typeIs,?_⟩;refine HT.getItem_tuple_cut ht hs pl pu (by rw[hlen];exact hw) ?_ (by rw[hlen];exact hz);rw[hlen];refine⟨.ref s.heap.objs.size,_,I.laid (t':=s.toks) (o:= .tup (qF xs lo hi)) (λb ob q=>ae _ q) (ao _) ?_,rfl,q _ (I.hok.fresh (ao _))⟩;exact⟨bf (j7 xs lo hi) hz,_,(r.drop (HT.sIx xs.length 0 lo)).take (HT.sIx xs.length xs.length hi - HT.sIx xs.length 0 lo),uJ.new _ _⟩
def zr6 (K:Frag):R2:=λx y H Q=> ∃a b xs ys,x= .ref a/\y= .ref b/\xI K H a xs/\xI K H b ys/\xs≠ []/\xs.length+ys.length<=sizeLine/\
 (ys= []->Q (.ref a) H)/\(ys≠ []->∀p,H p=none->Q (.ref p) (upd H p (.tup (xs++ys))))
theorem zJ.nil_iff {xs:List V}{us:List Value}(r:zJ xs us):us= []↔xs= []:=by
 cases r with
 | nil=>simp
 | cons _ _=>simp
theorem zpZ:yA X (binaryOp .Add) (zr6 X.K):=by
 (first | refine⟨?_⟩ | skip)
 intro pins s σ H x y v u Q I rx ry h;obtain⟨a,b,xs,ys,rfl,rfl,ha,hb,hx,hz,q1,q2⟩:=h;cases rx;cases ry;obtain⟨its,r1,p1,_⟩:=I.tuple ha;obtain⟨its2,r2,p2,_⟩:=I.tuple hb;refine HT.cat_tup p1 p2 (λz=>hx (r1.nil_iff.mp z)) (λz=>⟨.ref a,H,I,rfl,q1 (r2.nil_iff.mp z)⟩) (λz=> ?_) (by rw[<- r1.length,<- r2.length];exact hz);refine⟨.ref s.heap.objs.size,_,I.laid (t':=s.toks) (o:= .tup (xs++ys)) (λb ob q=>ae _ q) (ao _) ?_,rfl,q2 (λw=>z (r2.nil_iff.mpr w)) _ (I.hok.fresh (ao _))⟩;exact⟨by rw[ai];exact hz,_,r1.append r2,uJ.new _ _⟩
end
end L2
namespace L2
open PySem PySem.Spec PyProof.Rows
def wA (n:Nat)(i:Int):Option Nat:=if 0<=i then(if i < n then some i.toNat else none)else if -(n:Int)<=i then some (i+n).toNat else none
def atI {α:Type}(xs:List α)(i:Int):Option α:=(wA xs.length i).bind λj=>xs[j]?
theorem zi4 {n:Nat}{i:Int}{j:Nat}(h:wA n i=some j):seqIndex? i n=some j/\j < n/\ -(n:Int)<=i/\i < n:=by
 unfold wA at h;by_cases h0:0<=i
 ·rw[if_pos h0]at h
  by_cases h1:i < n
  ·rw[if_pos h1]at h
   have e:i.toNat=j:=ce h;exact⟨by rw[wz h0 h1,e],by omega,by omega,h1⟩
  ·rw[if_neg h1]at h;cases h
 ·rw[if_neg h0]at h
  by_cases h1: -(n:Int)<=i
  ·rw[if_pos h1]at h
   have e:(i+n).toNat=j:=ce h;exact⟨by rw[wa (by omega) h1,e],by omega,h1,by omega⟩
  ·rw[if_neg h1]at h;cases h
theorem eQ {α:Type}{xs:List α}{i:Int}{v:α}(h:atI xs i=some v): ∃j,seqIndex? i xs.length=some j/\xs[j]?=some v/\j < xs.length/\ -(xs.length:Int)<=i/\i < xs.length:=by
 unfold atI at h;cases e:wA xs.length i with
 | none=>rw[e]at h;cases h
 | some j=>
  rw[e]at h;obtain⟨h1,h2,h3,h4⟩:=zi4 e;exact⟨j,h1,h,h2,h3,h4⟩
theorem vM {α:Type}{xs:List α}{j:Nat}{v:α}(h:xs[j]?=some v):atI xs (j:Int)=some v:=by
 have hj:j < xs.length:=(ad.mp h).1;have e:wA xs.length (j:Int)=some j:=by
  unfold wA;rw[if_pos (by omega),if_pos (by omega)];simp
 unfold atI;rw[e];exact h
def kP (b:Expr):Prop:= ∀o i,subscripted b false o i=operate [o,i] (getItem o i)
def rB (X:Cx)(r:R2):Prop:=
 ∀(value slice:Expr) (pins:List (Addr×Obj)) (s:Shared) (σ:St) (H:Hp) (x y:V) (v u:Value) (Q:VK),z5 X pins σ H s->zN x v->zN y u->r x y H Q->
  subscripted slice false v u=operate [v,u] (getItem v u)->ak (ay X.prog X.w) X.A (subscriptTail value slice v u) (EP X pins σ Q) X.xe s
def uX (X:Cx)(id:String)(r:V->List V->Hp->VK->Prop):Prop:=
 ∀(pins:List (Addr×Obj)) (s:Shared) (σ:St) (H:Hp) (x:V) (xs:List V) (v:Value) (us:List Value) (Q:VK),z5 X pins σ H s->zN x v->zJ xs us->r x xs H Q->
  ak (ay X.prog X.w) X.A (call (.builtin id) (v::us)) (EP X pins σ Q) X.xe s
section
variable {X:Cx} {a b:Expr} {ta tb:TE} {pos:Pos}
theorem zj7 {r:R2}(hr:rB X r)(ha:PE X a ta)(hb:PE X b tb)(hs:kP b):PE X (.Subscript a b pos) (nR r ta tb):=by
 (first | refine⟨?_⟩ | skip)
 intro pins s σ H Q I h;exact uu (eW ha hb I h λv u s2 x y H2 I2 rx ry q=>hr a b pins s2 σ H2 x y v u Q I2 rx ry q (hs _ _))
def zr_ (K:Frag):R2:=λx y H Q=> ∃p xs i v,x= .ref p/\y= .int i/\yT K H p xs/\atI xs i=some v/\Q v H
def zrB (K:Frag):R2:=λx y H Q=> ∃p xs i v,x= .ref p/\y= .int i/\xI K H p xs/\atI xs i=some v/\Q v H
def zrA:R2:=λx y H Q=> ∃z i c,x= .str z/\y= .int i/\z.length<=sizeLine/\atI z.cps.toList i=some c/\Q (.str ⟨#[c]⟩) H
theorem zi5:rB X (zr_ X.K):=by
 intro value slice pins s σ H x y v u Q I rx ry h hs;obtain⟨p,xs,i,z,rfl,rfl,hq,he,q⟩:=h;cases rx;obtain⟨t,rfl⟩:=ry;obtain⟨its,r,pl,hz⟩:=I.list hq;obtain⟨j,h1,h2,h3,h4,h5⟩:=eQ he;obtain⟨w,ew,rw'⟩:=r.get h2;have hl:=r.length;have hn:=sR;have fin:EP X pins σ Q w s:=⟨z,H,I,rw',q⟩;by_cases h0:0<=i
 ·have hj:i.toNat=j:=by
   rw[wz h0 h5]at h1;exact ce h1
  exact item_listR pl.isList h0 (by omega) (by rw[hj];simpa using ew) fin hs
 ·have hj:(i+(its.toArray.size:Int)).toNat=j:=by
   rw[wa (by omega) h4]at h1;rw[be,<- hl];exact ce h1
  exact tq (x:=w) pl.isList.typeIs qa.lookup
   (wpAny_getItem_list_neg (Q:=λr s'=>r=w/\EP X pins σ Q r s') pl.isList (by omega) (by rw[be] <;> omega) (by omega) (by rw[hj];simpa using ew) ⟨rfl,fin⟩) hs
theorem zog:rB X (zrB X.K):=by
 intro value slice pins s σ H x y v u Q I rx ry h hs;obtain⟨p,xs,i,z,rfl,rfl,hq,he,q⟩:=h;cases rx;obtain⟨t,rfl⟩:=ry;obtain⟨its,r,pl,hz⟩:=I.tuple hq;obtain⟨j,h1,h2,h3,h4,h5⟩:=eQ he;obtain⟨w,ew,rw'⟩:=r.get h2;have hl:=r.length;have hn:=sR;have fin:EP X pins σ Q w s:=⟨z,H,I,rw',q⟩;exact tq (x:=w) pl.typeIs pb.lookup
  (getItem_tuple (j:=j) (Q:=λr s'=>r=w/\EP X pins σ Q r s') pl (by omega) (by omega) (by rw[be,<- hl];exact h1) (by simpa using ew) ⟨rfl,fin⟩) hs
theorem zof:rB X zrA:=by
 intro value slice pins s σ H x y v u Q I rx ry h hs;obtain⟨z,i,c,rfl,rfl,hz,he,q⟩:=h;obtain⟨t,rfl⟩:=rx;obtain⟨t',rfl⟩:=ry;obtain⟨j,h1,h2,h3,h4,h5⟩:=eQ he;have hl:z.cps.toList.length=z.length:=by simp[Str.length]
 rw[hl]at h1 h4 h5;have hn:=sR;exact xc (typeIs_str s z t) slot_str_getitem.lookup (getItem_str (c:=c) (by
  have e1:decide (i < -(2 ^ 63:Int))=false:=decide_eq_false (by omega);have e2:decide (i≥2 ^ 63)=false:=decide_eq_false (by omega);rw[e1,e2,pp]) (by rw[h1];simpa using h2) ⟨.str ⟨#[c]⟩,H,I.tok _,⟨_,rfl⟩,q⟩) hs
theorem zoF (its:List Value)(n j:Nat)(u:Value):Obj.mapSeq (·.setIfInBounds j u) {cls:= .type "list",data:= .seq its.toArray n} = {cls:= .type "list",data:= .seq (its.set j u).toArray n} :=by
 simp[Obj.mapSeq]
theorem z5.lst {pins:List (Addr×Obj)}{σ:St}{H:Hp}{s:Shared}{p:Addr}{xs:List V}(I:z5 X pins σ H s)(h:H p=some (.lst xs)):
  ∃(its:List Value) (n:Nat),zJ xs its/\s.heap.get? p=some {cls:= .type "list",data:= .seq its.toArray n} /\xs.length<=sizeLine:=by
 obtain⟨z,its,n,r,e⟩:=I.hok p _ h;exact⟨its,n,r,e,z⟩
theorem z5.lstUpd {pins:List (Addr×Obj)}{σ:St}{H:Hp}{s:Shared}{p:Addr}{xs ys:List V}{its its':List Value}{n n':Nat}{f:Obj->Obj}(I:z5 X pins σ H s)(h:H p=some (.lst xs))
  (ho:s.heap.get? p=some {cls:= .type "list",data:= .seq its.toArray n}) (hf:f {cls:= .type "list",data:= .seq its.toArray n} = {cls:= .type "list",data:= .seq its'.toArray n'}) (r:zJ ys its') (hz:ys.length<=sizeLine) (t:Nat):
  z5 X pins σ (upd H p (.lst ys)) {s with heap:=s.heap.update p f,toks:=t} :=by
 have e:(s.heap.update p f).get? p=some {cls:= .type "list",data:= .seq its'.toArray n'} :=by
  rw[cz f ho (by rw[hf] <;> rfl),hf]
 refine I.write (x:=p) (e:=p) (by rw[h];trivial) (.inl rfl) (λb u hb q=>(bp _ _ (dk hb)).trans q) ⟨_,e⟩ ?_;exact⟨hz,its',n',r,e⟩
def zrJ:V->V->V->Hp->(Hp->Prop)->Prop:=λo i v H Q=> ∃p xs k j,o= .ref p/\i= .int k/\H p=some (.lst xs)/\wA xs.length k=some j/\Q (upd H p (.lst (xs.set j v)))
theorem zsk:kM X zrJ:=by
 (first | refine⟨?_⟩ | skip)
 intro pins s σ H o i v ov iv u Q I ro ri rv h;obtain⟨p,xs,k,j,rfl,rfl,hp,hj,q⟩:=h;cases ro;obtain⟨t,rfl⟩:=ri;obtain⟨its,n,r,ho,hz⟩:=I.lst hp;obtain⟨h1,h2,h3,h4⟩:=zi4 hj;have hl:=r.length;have hn:=sR;have I':z5 X pins σ (upd H p (.lst (xs.set j v))) {s with heap:=s.heap.update p (Obj.mapSeq (·.setIfInBounds j u))} :=
  I.lstUpd hp ho (zoF its n j u) (r.set rv j) (by rw[dw];exact hz) s.toks
 by_cases h0:0<=k
 ·have hk:k.toNat=j:=by
   rw[wz h0 h4]at h1;exact ce h1
  exact PySem.W.ki_setAt ho h0 (by omega) (by rw[be,<- hl];exact h4) (by rw[hk];exact⟨_,I',q⟩)
 ·have hk:(k+(its.toArray.size:Int)).toNat=j:=by
   rw[wa (by omega) h3]at h1;rw[be,<- hl];exact ce h1
  exact PySem.W.ki_setBack ho (by omega) (by rw[be,<- hl];exact h3) (by omega) (by rw[hk];exact⟨_,I',q⟩)
theorem zss (lo hi:Option Int)(n:Nat):(sliceBounds lo hi none n).1=((HT.sIx n 0 lo:Nat):Int)/\(sliceBounds lo hi none n).2.1=((HT.sIx n n hi:Nat):Int)/\(sliceBounds lo hi none n).2.2=1:=by
 refine⟨?_,?_,rfl⟩
 ·cases lo with
  | none=>simp[sliceBounds,HT.sIx]
  | some i=>
   simp only[sliceBounds,HT.sIx,xf,show(1:Int) > 0 by decide,if_true];by_cases h:i < 0
   ·simp only[h,if_true] <;> omega
   ·simp only[h,if_false] <;> omega
 ·cases hi with
  | none=>simp[sliceBounds,HT.sIx]
  | some i=>
   simp only[sliceBounds,HT.sIx,xf,show(1:Int) > 0 by decide,if_true];by_cases h:i < 0
   ·simp only[h,if_true] <;> omega
   ·simp only[h,if_false] <;> omega
theorem zsr (its:List Value)(lo hi:Option Int):slicePick its.toArray lo hi none=((its.drop (HT.sIx its.length 0 lo)).take (HT.sIx its.length its.length hi - HT.sIx its.length 0 lo)).toArray:=by
 obtain⟨h1,h2,h3⟩:=zss lo hi its.toArray.size;unfold slicePick;rw[h1,h2,h3];simp only[sliceRange_one,pick_run,be] <;> rfl
def zrK (K:Frag):V->Option Int->Option Int->Hp->VK->Prop:=λx lo hi H Q=> ∃a xs,x= .ref a/\yT K H a xs/\∀p,H p=none->Q (.ref p) (upd H p (.lst (qF xs lo hi)))
theorem zso:mE X (zrK X.K):=by
 (first | refine⟨?_⟩ | skip)
 intro pins s σ H x v vl vu lo hi sl Q I rx hs pl pu h;obtain⟨a,xs,rfl,hx,q⟩:=h;cases rx;obtain⟨its,r,ht,hz⟩:=I.list hx;have hlen:=r.length;refine⟨"list",_,qa.lookup,ht.isList.typeIs,?_⟩;refine qm ht.isList hs pl pu .none (by simp) ?_ (by rw[be] <;> omega);rw[zsr,<- hlen];refine⟨.ref s.heap.objs.size,_,I.laid (t':=s.toks) (o:= .lst (qF xs lo hi)) (λb ob q=>ae _ q) (ao _) ?_,rfl,q _ (I.hok.fresh (ao _))⟩;exact⟨bf (j7 xs lo hi) hz,_,0,(r.drop (HT.sIx xs.length 0 lo)).take (HT.sIx xs.length xs.length hi - HT.sIx xs.length 0 lo),br _ rfl⟩
def sN:V->Bool
 | .non=>true
 | .bl _=>true
 | .int _=>true
 | .str _=>true
 | _=>false
def sM:V->V->Bool
 | .non,.non=>true
 | .bl a,.bl b=>a==b
 | .bl a,.int b=>(if a then 1 else 0)==b
 | .int a,.bl b=>a==(if b then 1 else 0)
 | .int a,.int b=>a==b
 | .str a,.str b=>a==b
 | _,_=>false
theorem znp {A:Around}{s:Shared}{y x:V}{u v:Value}(ry:zN y u)(rx:zN x v)(fy:sN y=true)(fx:sN x=true):SeqAt.EqAt A s u v (sM y x):=by
 cases y with
 | non=>
  cases ry;cases x with
  | non=>cases rx;exact sk _
  | bl b=>cases rx;exact SeqAt.EqAt.none_bool b
  | int b=>obtain⟨t,rfl⟩:=rx;exact SeqAt.EqAt.none_int b t
  | str b=>obtain⟨t,rfl⟩:=rx;exact SeqAt.EqAt.none_str b t
  | _=>exact absurd (show false=true from fx) dm
 | bl a=>
  cases ry;cases x with
  | non=>cases rx;exact SeqAt.EqAt.bool_none a
  | bl b=>cases rx;exact SeqAt.EqAt.bool_bool a b
  | int b=>obtain⟨t,rfl⟩:=rx;exact SeqAt.EqAt.bool_int a b t
  | str b=>obtain⟨t,rfl⟩:=rx;exact SeqAt.EqAt.bool_str a b t
  | _=>exact absurd (show false=true from fx) dm
 | int a=>
  obtain⟨t',rfl⟩:=ry;cases x with
  | non=>cases rx;exact SeqAt.EqAt.int_none a t'
  | bl b=>cases rx;exact SeqAt.EqAt.int_bool a t' b
  | int b=>obtain⟨t,rfl⟩:=rx;exact SeqAt.EqAt.int_int a t' b t
  | str b=>obtain⟨t,rfl⟩:=rx;exact vw a t' b t
  | _=>exact absurd (show false=true from fx) dm
 | str a=>
  obtain⟨t',rfl⟩:=ry;cases x with
  | non=>cases rx;exact SeqAt.EqAt.str_none a t'
  | bl b=>cases rx;exact SeqAt.EqAt.str_bool a t' b
  | int b=>obtain⟨t,rfl⟩:=rx;exact vx a t' b t
  | str b=>obtain⟨t,rfl⟩:=rx;exact SeqAt.EqAt.str_str a t' b t
  | _=>exact absurd (show false=true from fx) dm
 | _=>exact absurd (show false=true from fy) dm
def vP (x:V)(u:Value):Bool:=match u with
 | .none=>sM .non x
 | .bool b=>sM (.bl b) x
 | .int i _=>sM (.int i) x
 | .str z _=>sM (.str z) x
 | _=>false
theorem zf7 {x y:V}{u:Value}(r:zN y u)(f:sN y=true):vP x u=sM y x:=by
 cases y with
 | non=>cases r;rfl
 | bl b=>cases r;rfl
 | int i=>obtain⟨t,rfl⟩:=r;rfl
 | str z=>obtain⟨t,rfl⟩:=r;rfl
 | _=>exact absurd (show false=true from f) dm
theorem mH {x:V} : ∀{xs:List V} {us:List Value},zJ xs us->xs.all sN=true->us.any (vP x)=xs.any λy=>sM y x
 | _,_,.nil,_=>rfl
 | y::xs,u::us,.cons r t,f=>by
  rw[ki,fb]at f;rw[ij,ij,zf7 r f.1,mH t f.2]
theorem mS {A:Around}{s:Shared}{x:V}{v:Value}(rx:zN x v)(fx:sN x=true): ∀{xs:List V} {us:List Value},zJ xs us->xs.all sN=true->∀u∈us,SeqAt.EqAt A s u v (vP x u)
 | _,_,.nil,_=>λu hu=>by cases hu
 | y::xs,u::us,.cons r t,f=>λu' hu=>by
  rw[ki,fb]at f;rcases az.mp hu with rfl | hu
  ·rw[zf7 r f.1];exact znp r rx f.1 fx
  ·exact mS rx fx t f.2 u' hu
def qG (x:V)(xs:List V):Bool:=xs.any λy=>sM y x
def rIn (K:Frag)(neg:Bool):R2:=λx y H Q=> ∃p xs,y= .ref p/\(yT K H p xs∨xI K H p xs)/\sN x=true/\xs.all sN=true/\Q (.bl (if neg then !qG x xs else qG x xs)) H
theorem zqd:yA X (compareOp .In) (rIn X.K false):=by
 (first | refine⟨?_⟩ | skip)
 intro pins s σ H x y v u Q I rx ry h;obtain⟨p,xs,rfl,hq,fx,fs,q⟩:=h;cases ry;rcases hq with hq | hq
 ·obtain⟨its,r,pl,hz⟩:=I.list hq
  refine SeqAt.in_listAt (vP x) pl.isList (λw hw=>mS rx fx r fs w (by simpa using hw)) ⟨.bl _,H,I,rfl,?_⟩;rw[show its.toArray.any (vP x)=its.any (vP x) by simp,mH r fs];exact q
 ·obtain⟨its,r,pl,hz⟩:=I.tuple hq
  refine SeqAt.in_tupleAt (vP x) pl (λw hw=>mS rx fx r fs w (by simpa using hw)) ⟨.bl _,H,I,rfl,?_⟩;rw[show its.toArray.any (vP x)=its.any (vP x) by simp,mH r fs];exact q
theorem zqi:yA X (compareOp .NotIn) (rIn X.K true):=by
 (first | refine⟨?_⟩ | skip)
 intro pins s σ H x y v u Q I rx ry h;obtain⟨p,xs,rfl,hq,fx,fs,q⟩:=h;cases ry;rcases hq with hq | hq
 ·obtain⟨its,r,pl,hz⟩:=I.list hq
  refine SeqAt.notIn_listAt (vP x) pl.isList (λw hw=>mS rx fx r fs w (by simpa using hw)) ⟨.bl _,H,I,rfl,?_⟩;rw[show its.toArray.any (vP x)=its.any (vP x) by simp,mH r fs];exact q
 ·obtain⟨its,r,pl,hz⟩:=I.tuple hq
  refine SeqAt.notIn_tupleAt (vP x) pl (λw hw=>mS rx fx r fs w (by simpa using hw)) ⟨.bl _,H,I,rfl,?_⟩;rw[show its.toArray.any (vP x)=its.any (vP x) by simp,mH r fs];exact q
theorem zqj:yA X (compareOp .NotIn) (λx y H Q=> ∃i j,x= .str i/\y= .str j/\Q (.bl (!(!(Builtin.Str.occurrences j i 0 j.length 1).isEmpty))) H):=by
 (first | refine⟨?_⟩ | skip)
 intro pins s σ H x y v u Q I rx ry h;obtain⟨i,j,rfl,rfl,q⟩:=h;obtain⟨t,rfl⟩:=rx;obtain⟨t',rfl⟩:=ry;exact notIn_str ⟨.bl _,H,I,rfl,q⟩
theorem dB:w4 X (.type "tuple") (λxs H Q=> ∃p ys,xs= [.ref p]/\((yT X.K H p ys/\∀l,H l=none->Q (.ref l) (upd H l (.tup ys)))∨(xI X.K H p ys/\Q (.ref p) H))):=by
 (first | refine⟨?_⟩ | skip)
 intro pins s σ H xs us Q I r h;obtain⟨p,ys,rfl,h⟩:=h;obtain⟨u,rfl,rx⟩:=rY r;cases rx;rcases h with⟨hq,q⟩ | ⟨hq,q⟩
 ·obtain⟨its,r',pl,hz⟩:=I.list hq
  have hlen:=r'.length;refine call_tuple_list pl.isList (λh' kp=> ?_) (by simp only[be] <;> omega);have I1:z5 X pins σ H {s with heap:=h'} :=I.kept (t':=s.toks) kp;have I2:z5 X pins σ (upd H h'.objs.size (.tup ys)) {s with heap:=h'.push {cls:= .type "tuple",data:= .seq its.toArray}} :=
   I1.laid (t':=s.toks) (λb o e=>ae _ e) (ao _) (show xR X.prog X.w _ _ _ (.tup ys)from⟨hz,its,r',uJ.new _ _⟩)
  exact⟨.ref h'.objs.size,_,I2,rfl,q _ (I1.hok.fresh (ao _))⟩
 ·obtain⟨its,r',pl,hz⟩:=I.tuple hq
  exact call_tuple_same pl ⟨.ref p,H,I,rfl,q⟩
def fA (K:Frag)(T:String)(x:V)(H:Hp):Prop:=match x with
 | .str _=>T= "str"
 | .int _=>T= "int"
 | .ref p=>(T= "list" /\∃xs,yT K H p xs)∨(T= "tuple" /\∃o,K.lookup p=some o/\o.cls= .type "tuple" /\o.dict=none)∨
   (T= "dict" /\((∃kvs,H p=some (.dK kvs))∨∃kvs,H p=some (.dT kvs)))∨(T= "set" /\∃S n,H p=some (.set S n))
 | _=>False
theorem zkQ {pins:List (Addr×Obj)}{σ:St}{H:Hp}{s:Shared}{T:String}{x:V}{v:Value}(I:z5 X pins σ H s)(r:zN x v)(ty:fA X.K T x H):
  s.TypeIs v T/\∀a,v= .ref a->∃ob,s.heap.get? a=some ob/\ob.dict=none:=by
 cases x with
 | str z=>
  obtain⟨t,rfl⟩:=r;cases(show T= "str" from ty);exact⟨typeIs_str s z t,λ_ e=>nomatch e⟩
 | int i=>
  obtain⟨t,rfl⟩:=r;cases(show T= "int" from ty);exact⟨typeIs_int s i t,λ_ e=>nomatch e⟩
 | ref p=>
  cases r;rcases ty with⟨rfl,xs,hq⟩ | ⟨rfl,o,hk,hc,hd⟩ | ⟨rfl,hk⟩ | ⟨rfl,S,n,hk⟩
  ·obtain⟨its,_,pl,_⟩:=I.list hq
   refine⟨pl.isList.typeIs,λa e=> ?_⟩;cases e;obtain⟨o,n,e,c,hd,_⟩:=pl;exact⟨o,e,hd⟩
  ·refine⟨⟨o,I.kIn p o hk,hc⟩,λa e=> ?_⟩
   cases e;exact⟨o,I.kIn _ o hk,hd⟩
  ·have z: ∃o,s.heap.get? p=some o/\o.ExactDict:=by
    rcases hk with⟨kvs,hk⟩ | ⟨kvs,hk⟩
    ·obtain⟨_,_,_,_,o,_,_,e,ex,_⟩:=I.hok p _ hk
     exact⟨o,e,ex⟩
    ·obtain⟨_,_,_,_,o,_,_,e,ex,_⟩:=I.hok p _ hk
     exact⟨o,e,ex⟩
   obtain⟨o,e,ex⟩:=z;refine⟨⟨o,e,ex.1⟩,λa e2=> ?_⟩;cases e2;exact⟨o,e,ex.2.1⟩
  ·obtain⟨o,_,_,_,e,ex,_⟩:=I.hok p _ hk
   refine⟨⟨o,e,ex.1⟩,λa e2=> ?_⟩;cases e2;exact⟨o,e,ex.2.1⟩
 | _=>exact False.elim ty
def zsL (K:Frag)(T:String)(r:V->List V->Hp->VK->Prop)(to:TE):TE:=λσ H Q=>to σ H λx H1=>fA K T x H1/\r x [] H1 Q
def tBM (K:Frag)(T:String)(r:V->List V->Hp->VK->Prop)(to:TE)(t:TA):TE:=λσ H Q=>to σ H λx H1=>fA K T x H1/\t σ H1 λxs H2=>r x xs H2 Q
variable {o e:Expr} {es:List Expr} {to:TE} {t:TA} {name:Str} {apos cpos:Pos} {T id:String} {r:V->List V->Hp->VK->Prop}
theorem zqu (pa:PlainAttrs T)(slot:Slot T name id)(hty:typeOf (.builtin id)=pure (.type "method_descriptor"))(hm:uX X id r)(ho:PE X o to)
  (hbase:attributeBase o name X.env (eval o X.env)=eval o X.env:=by rfl) (hline:(apos.endLine==cpos.line)=true:=by rfl):PE X (.Call (.Attribute o name apos) [] [] cpos) (zsL X.K T r to):=by
 (first | refine⟨?_⟩ | skip)
 intro pins s σ H Q I h;refine wpAny_Call_method0_late hbase hline (zM (ho pins s σ H _ I h) λv s1 ⟨x,H1,I1,r1,ty,q1⟩=> ?_);obtain⟨h1,h2⟩:=zkQ I1 r1 ty;exact⟨T,id,pa,slot,hty,h1,h2,mw rfl (PySem.evalArgs_none (hm pins s1 σ H1 x [] v [] Q I1 r1 .nil q1))⟩
theorem zqt (pa:PlainAttrs T)(slot:Slot T name id)(hty:typeOf (.builtin id)=pure (.type "method_descriptor"))(hm:uX X id r)(ho:PE X o to)(ha:PA X (e::es) t)
  (hbase:attributeBase o name X.env (eval o X.env)=eval o X.env:=by rfl)
  (hfew:((backTo cpos (starEach (e::es) X.env)).all (λx=> !x.1)&&(backToKw cpos (keywordEach [] X.env)).all (λx=>x.1.isSome)
   &&decide ((e::es).length+([]:List Keyword).length+(if([]:List Keyword).isEmpty then 0 else 1) < 30))=true:=by rfl)
  (hline:(apos.endLine==cpos.line)=true:=by rfl) (hs:starEach (e::es) X.env=(false,eval e X.env)::starEach es X.env:=by rfl) (hplain:(backTo cpos (starEach es X.env)).any (·.1)=false:=by rfl):
  PE X (.Call (.Attribute o name apos) (e::es) [] cpos) (tBM X.K T r to t):=by
 (first | refine⟨?_⟩ | skip)
 intro pins s σ H Q I h;refine wpAny_Call_method_late hbase hfew hline rfl (zM (ho pins s σ H _ I h) λv s1 ⟨x,H1,I1,r1,ty,q1⟩=> ?_);obtain⟨h1,h2⟩:=zkQ I1 r1 ty;refine⟨T,id,pa,slot,hty,h1,h2,?_⟩;have hA:=ha cpos pins s1 σ H1 _ I1 q1;rw[hs]at hA⊢
 refine mw (by show(false||(backTo cpos (starEach es X.env)).any (·.1))=false;rw[hplain] <;> rfl) (uv ?_);exact zM hA λus s2 ⟨vs,H2,I2,r2,q2⟩=>hm pins s2 σ H2 x vs v us Q I2 r1 r2 q2
end
end L2
namespace L2
open PySem PySem.Spec PyProof.Rows
def fZ (X:Cx)(id:String)(r:V->List V->Hp->VK->Prop):Prop:=
 ∀(pins:List (Addr×Obj)) (s:Shared) (σ:St) (H:Hp) (x:V) (xs:List V) (v:Value) (us:List Value) (Q:VK),z5 X pins σ H s->zN x v->zJ xs us->r x xs H Q->
  ak (ay X.prog X.w) X.A (call (.builtin id) (v::us)) (EP X pins σ Q) X.xe s
theorem zJ.one: ∀{x:V} {us:List Value},zJ [x] us->∃u,us= [u]/\zN x u
 | _,_,.cons r .nil=>⟨_,rfl,r⟩
theorem zJ.two {x y:V}{us:List Value}(h:zJ [x,y] us): ∃u v,us= [u,v]/\zN x u/\zN y v:=by
 cases h with | cons r t=>cases t with | cons q t2=>cases t2;exact⟨_,_,rfl,r,q⟩
theorem zJ.zero: ∀{us:List Value},zJ [] us->us= []
 | _,.nil=>rfl
theorem zJ.dropLast {xs:List V}{us:List Value}(h:zJ xs us):zJ xs.dropLast us.dropLast:=by
 induction h with
 | nil=>exact .nil
 | cons r t ih=>
  cases t with
  | nil=>exact .nil
  | cons q t'=>exact .cons r ih
theorem zJ.eraseIdx: ∀{xs:List V} {us:List Value} (i:Nat),zJ xs us->zJ (xs.eraseIdx i) (us.eraseIdx i)
 | _,_,_,.nil=> .nil
 | _,_,0,.cons _ t=>t
 | _,_,i+1,.cons r t=> .cons r (zJ.eraseIdx i t)
theorem zJ.reverse {xs:List V}{us:List Value}(h:zJ xs us):zJ xs.reverse us.reverse:=by
 induction h with
 | nil=>exact .nil
 | cons r t ih=>rw[la,la];exact zJ.append ih (.cons r .nil)
theorem zns {α:Type}(l:List α):l.eraseIdx (l.length - 1)=l.dropLast:=by
 induction l with
 | nil=>rfl
 | cons a r ih=>
  cases r with
  | nil=>rfl
  | cons b r=>
   have e:(a::b::r).length - 1=((b::r).length - 1)+1:=by
    have h1:(a::b::r).length=r.length+2:=rfl;have h2:(b::r).length=r.length+1:=rfl;omega
   rw[e,jc,ih]
   all_goals rfl
theorem ziE {α:Type} : ∀(l:List α) (i:Nat),(l.eraseIdx i).length<=l.length
 | [],_=>ao _
 | _::_,0=>fz _
 | _::r,i+1=>xg (ziE r i)
section
variable {X:Cx} {pins:List (Addr×Obj)} {σ:St} {H:Hp} {s:Shared} {l b:Addr} {xs ys zs:List V}
theorem z5.lset {its its':List Value}{n:Nat}{f:Array Value->Array Value}{t':Nat}(I:z5 X pins σ H s)(hH:H l=some (.lst xs))
  (e:s.heap.get? l=some {cls:= .type "list",data:= .seq its.toArray n}) (hf:f its.toArray=its'.toArray) (hv:zJ ys its') (hz:ys.length<=sizeLine):
  z5 X pins σ (upd H l (.lst ys)) {s with heap:=s.heap.update l (Obj.mapSeq f),toks:=t'} :=by
 have q:=qo e f;rw[hf]at q;refine I.write (x:=l) (e:=l) (by rw[hH];exact trivial) (.inl rfl) (λb' u hb hu=>(bp s.heap (Obj.mapSeq f) (dk hb)).trans hu) ⟨_,q⟩ ?_;exact⟨hz,its',_,hv,q⟩
theorem z5.lnew {its:List Value}{t':Nat}(I:z5 X pins σ H s)(hv:zJ ys its)(hz:ys.length<=sizeLine):
  z5 X pins σ (upd H s.heap.objs.size (.lst ys)) {s with heap:=s.heap.push {cls:= .type "list",data:= .seq its.toArray},toks:=t'} :=
 I.laid (λ_ _ q=>ae _ q) (ao _) ⟨hz,its,0,hv,br _ rfl⟩
theorem z5.fresh (I:z5 X pins σ H s):H s.heap.objs.size=none:=I.hok.fresh (ao _)
theorem z5.lstM (I:z5 X pins σ H s)(hH:H l=some (.lst xs)):xs.length<=sizeLine/\∃(its:List Value) (n:Nat),zJ xs its/\xs.length=its.length/\s.heap.get? l=some {cls:= .type "list",data:= .seq its.toArray n} :=by
 obtain⟨z,its,n,r,e⟩:=I.hok l _ hH;exact⟨z,its,n,r,r.length,e⟩
theorem zpn {n:Nat}(h:n<=sizeLine):Builtin.List.listTooLong n=false:=by
 unfold Builtin.List.listTooLong;exact decide_eq_false (by omega)
end
section
variable {X:Cx}
def zr5:V->List V->Hp->VK->Prop:=λx vs H Q=> ∃l xs y,x= .ref l/\vs= [y]/\H l=some (.lst xs)/\xs.length < sizeLine/\Q .non (upd H l (.lst (xs++ [y])))
theorem zoS:fZ X "list.append" zr5:=by
 (first | refine⟨?_⟩ | skip)
 intro pins s σ H x vs v us Q I rx rv h;obtain⟨l,xs,y,rfl,rfl,hH,hz,q⟩:=h;cases rx;obtain⟨u,rfl,ru⟩:=rv.one;obtain⟨z,its,n,r,hl,e⟩:=I.lstM hH;refine lm pc ⟨_,e,rfl⟩ oq (ny _ _) (qb l its.toArray n u (by rw[be];omega)) ⟨e,?_⟩;refine⟨.non,_,I.lset (its':=its++ [u]) hH e (by simp) (r.append (.cons ru .nil)) ?_,rfl,q⟩;rw[ai,bw];omega
def zrH:V->List V->Hp->VK->Prop:=λx vs H Q=> ∃l xs y,x= .ref l/\vs= []/\H l=some (.lst xs)/\xs[xs.length - 1]?=some y/\Q y (upd H l (.lst xs.dropLast))
theorem zoU:fZ X "list.pop" zrH:=by
 (first | refine⟨?_⟩ | skip)
 intro pins s σ H x vs v us Q I rx rv h;obtain⟨l,xs,y,rfl,rfl,hH,hy,q⟩:=h;cases rx;have hus:=rv.zero;subst hus;obtain⟨z,its,n,r,hl,e⟩:=I.lstM hH;obtain⟨u,hu,ru⟩:=r.get hy;have hy':its.toArray[its.toArray.size - 1]?=some u:=by
  show its.toArray[its.length - 1]?=some u;rw[<- gz,<- hl];exact hu
 refine lm F.slot_list_pop ⟨_,e,rfl⟩ F.entry_list_pop (F.args_list_pop_1 _) (MeetsSeq.list_pop_last l its.toArray n u hy' (by rw[be];omega)) ⟨e,?_⟩;refine⟨y,_,I.lset (its':=its.dropLast) hH e ?_ r.dropLast ?_,ru,q⟩
 ·show its.toArray.eraseIdxIfInBounds (its.toArray.size - 1)=its.dropLast.toArray
  rw[be,nu,zns]
 ·rw[uw]
  omega
def zrI:V->List V->Hp->VK->Prop:=λx vs H Q=> ∃l xs i k y,x= .ref l/\vs= [.int i]/\H l=some (.lst xs)/\ -(2 ^ 63)<=i/\i < 2 ^ 63/\seqIndex? i xs.length=some k/\xs[k]?=some y/\Q y (upd H l (.lst (xs.eraseIdx k)))
theorem zoV:fZ X "list.pop" zrI:=by
 (first | refine⟨?_⟩ | skip)
 intro pins s σ H x vs v us Q I rx rv h;obtain⟨l,xs,i,k,y,rfl,rfl,hH,h1,h2,hk,hy,q⟩:=h;cases rx;obtain⟨u,rfl,ru⟩:=rv.one;obtain⟨t,rfl⟩:=ru;obtain⟨z,its,n,r,hl,e⟩:=I.lstM hH;obtain⟨w,hw,rw'⟩:=r.get hy;refine lm F.slot_list_pop ⟨_,e,rfl⟩ F.entry_list_pop (F.args_list_pop_2 _ _)
  (MeetsSeq.list_pop_at l its.toArray n i t k w (fitsIndex_both h1 h2) (by rw[be,<- hl];exact hk) (by rw[<- gz];exact hw) (by rw[be];omega)) ⟨e,?_⟩
 refine⟨y,_,I.lset (its':=its.eraseIdx k) hH e ?_ (r.eraseIdx k) ?_,rw',q⟩
 ·show its.toArray.eraseIdxIfInBounds k=(its.eraseIdx k).toArray
  rw[nu]
 ·have:=ziE xs k
  omega
end
section
variable {prog:Program} {w:World} {A:Around} {E:Value->Shared->Prop} {s:Shared}
end
section
variable {X:Cx}
end
end L2
namespace Att
open PySem PySem.W PySem.Calls PyProof.Rows
theorem znT {P:Params}{h:Heap} : ∀(ns:List Int) (vs:List Value),WellAll P h vs (ns.map WData.int)->IntsAre vs ns:=by
 intro ns
 induction ns with
 | nil=>
  intro vs w;rw[ic]at w;cases w;exact .nil
 | cons n ns ih=>
  intro vs w;rw[am]at w;cases w with
  | cons a b=>
   cases a;exact .cons _ _ (ih _ b)
theorem zsg {l:OpenLaw}{n:Nat}(hn:l.most=some n){P:Params}{h:Heap}{args:List WData}{vals:List Value}
  (hpre:l.row.toRowW.claim.pre args=true) (hwl:WellAll P h vals args):
  ∃a vs ns,vals= [Value.ref a]/\args= [WData.list (ns.map WData.int)]/\h.get? a=some {cls:= .type "list",data:= .seq vs.toArray} /\IntsAre vs ns/\ns.length<=n:=by
 have hsh:WShape.hasAll [] args [.list .int]=true:=(pre_splitW hpre).1;have hc:l.pre.holds [] {args:=args} =true:=(pre_splitW hpre).2;obtain⟨d,r,rfl,h1,h2⟩:=hasAllW_cons hsh;obtain rfl:=hasAllW_nil h2;obtain⟨xs,rfl,h3⟩:=hasW_list h1;obtain⟨ns,rfl⟩:=items_int h3;have hlen:ns.length<=n:=by
  unfold OpenLaw.pre at hc;have h4:(WTm.not (.lt (.lit (.int (n:Int))) (.len (.arg 0)))).holds [] {args:= [.list (ns.map .int)]} =true:=by
   have h4:=(holds_andW hc).1;rw[hn]at h4;exact h4
  have h5:=condW_of h4 (w_not (w_lt w_lit (w_len_list (w_arg rfl))));rw[ac]at h5;refine Nat.le_of_not_lt λq=> ?_;have q':(n:Int) < ((ns.length:Nat):Int):=by omega
  first
   | (rw[decide_eq_true q']at h5;exact absurd h5 (by decide))
   | (simp at h5;omega)
 cases hwl with
 | cons w1 w2=>
  cases w2;cases w1 with
  | list ho hall=>exact⟨_,_,ns,rfl,rfl,ho,znT ns _ hall,hlen⟩
theorem zqT (l:OpenLaw)(args:List WData):l.row.toRowW.claim.post args (.bool true) args=true:=
 postW_of (r:=l.row.toRowW) (X:=(true==true))
  (show WShape.has [] (.bool true) .bool=true by first | rfl | decide | simp[WShape.has,WShape.arms,WShape.armsAll])
  (show(WTm.eq .res (.lit (.bool true))).value [] {args:=args,res:=some (.bool true),after:=args} =some (.bool (true==true))from w_eq_bool (w_res rfl) w_lit) rfl
theorem attach_call {l:OpenLaw}{n:Nat}{q:Program}{loose:List Str}{XP:(Str->Option Value)->Heap->Prop}{YP:World->Heap->Prop}{d:DefRec}
  (hn:l.most=some n) (hdf:d.params.defaults= [])
  (call: ∀(w:World) (s₀ s₁:Shared) (mg mb:Str->Option Value) (fa:Addr) (o:Obj) (pm cd doc:Value) (a:Addr) (vs:List Value) (ns:List Int),
   Ground q loose [] XP w s₀ mg mb s₁.heap->YP w s₁.heap->
   s₁.heap.get? fa=some o->o.data= .func (docDef d.name d.params d.body d.scope pm cd doc)->s₁.heap.CodeRec cd d.name->mg d.name=some (.ref fa)->
   s₁.heap.get? a=some {cls:= .type "list",data:= .seq vs.toArray} ->IntsAre vs ns->ns.length<=n->s₁.gens= #[]->
   codeAny (ay l.prog w) callerA (.call (.ref fa) ⟨[.ref a],[]⟩) (λr s'=>r= .ok (.ret (.bool true))/\OldK s₁.heap s'.heap/\s'.os=s₁.os/\AllBare s'.gens) s₁):
  WalkO q loose XP YP l.row.toRowW d [] (λf vs=>PySem.call f vs):=by
 intro w s₀ s₁ mg mb G Y fa o pm cd doc dV kV ho hd hcd hD hmg hg args vals as hpre hlay hrd hwl hlo;obtain rfl:dV= .none:=Dflts.none hD hdf;obtain rfl:kV= .none:=Dflts.noKw hD;obtain⟨a,vs,ns,rfl,rfl,hobj,hints,hlen⟩:=zsg hn hpre hwl;refine enter_call (ly (call w s₀ s₁ mg mb fa o pm cd doc a vs ns G Y ho (fd_plain hd) hcd hmg hobj hints hlen hg) λr s' hq=> ?_);obtain⟨rfl,h2,h3,h4⟩:=hq;exact⟨.inl ⟨.bool true,.bool true,[],rfl,λ_=>rfl,.bool true,zqT l _,λ_=>⟨List.Pairwise.nil,λ_ hm=>(nomatch hm)⟩⟩,h2,h3,h4⟩
section
variable {prog:Program} {w:World} {A:Around} {E:Value->Shared->Prop} {s:Shared} {K:Frag}
end
end Att
namespace L2
open PySem PySem.Spec PyProof.Rows
theorem zlq: ∀{vs:List Value} {ns:List Int},IntsAre vs ns->zJ (ns.map V.int) vs
 | _,_,.nil=> .nil
 | _,_,.cons n t h=> .cons ⟨t,rfl⟩ (zlq h)
def e7 (H:Hp):Prop:= ∀b,H b=none∨∃o xs,H b=some (.frz o (.lst xs))
theorem zov {P:Program}{w:World}{K:Frag}{mg mb:Str->Option Value}{CX:u0}{k:Nat}{fa a:Addr}{fd:FuncData}{x:Str}{sp:Sp}{s₁:Shared}{vs:List Value}{ns:List Int}
  (KX:K.In s₁.heap) (hns:s₁.heap.Ns mainGlobals mg) (hb:s₁.heap.Ns builtinsNs mb) (hbb: ∀x:Str,x≠ "__name__" ->mb x=bootBuiltins x) (hlim:s₁.heap.NoLimit) (hg:s₁.gens= #[])
  (ha:s₁.heap.get? a=some {cls:= .type "list",data:= .seq vs.toArray}) (hi:IntsAre vs ns) (hl:ns.length<=sizeLine) (hr:zL k callerA)
  (F: ∀base:Heap,K.In base->base.Ns mainGlobals mg->zU P w K mg base CX k fa fd [x] sp) (hbind: ∀(s:Shared) (u:Value),BindsTo s fd ⟨[u],[]⟩ [(x,u)])
  (hsp: ∀H:Hp,e7 H->yT K H a (ns.map V.int)->sp [.ref a] H (λv _=>v= .bl true) λ_ _ _=>False)
  (hCX: ∀H e s',CX [] H s₁ (λ_ _ _=>False) e s'->False):
  codeAny (ay P w) callerA (.call (.ref fa) ⟨[.ref a],[]⟩) (λr s'=>r= .ok (.ret (.bool true))/\OldK s₁.heap s'.heap/\s'.os=s₁.os/\AllBare s'.gens) s₁:=by
 have rv:=zlq hi;have lenV:=hi.length;have core: ∀H:Hp,e7 H->yT K H a (ns.map V.int)->x6 P w H s₁.heap->(∀b,H b≠none->b=a)->(H a≠none->K.lookup a=none)->
   codeAny (ay P w) callerA (.call (.ref fa) ⟨[.ref a],[]⟩) (λr s'=>r= .ok (.ret (.bool true))/\OldK s₁.heap s'.heap/\s'.os=s₁.os/\AllBare s'.gens) s₁:=by
  intro H hO hS hok hA hK;have base_of: ∀{b:Addr} {o:Obj},s₁.heap.get? b=some o->H b=none->(rL s₁.heap H).get? b=some o:=λe n=>znI e n;have noA: ∀{b:Addr} {o:Obj} {es:Array DictEntry} {ep:Nat},s₁.heap.get? b=some o->o.data= .dict es ep->H b=none:=λ{b o es ep} e d=>by
   cases q:H b with
   | none=>rfl
   | some u=>
    have e':b=a:=hA b (by rw[q];simp);subst e';rw[ha]at e;cases e;have d':Data.seq vs.toArray _=Data.dict es ep:=d;cases d'
  have nsK: ∀{b:Addr} {m:Str->Option Value},s₁.heap.Ns b m->(rL s₁.heap H).Ns b m:=λ{b m} ⟨o,es,ep,e,d,r⟩=>⟨o,es,ep,base_of e (noA e d),d,r⟩;have hKb:K.In (rL s₁.heap H):=λb o e=>base_of (KX b o e) (by
   cases q:H b with
   | none=>rfl
   | some u=>
    have e':b=a:=hA b (by rw[q];simp);subst e';rw[hK (by rw[q];simp)]at e;cases e)
  have hM:Mod K mg (rL s₁.heap H):=⟨hKb,nsK hns,⟨mb,nsK hb,hbb⟩,let⟨mc,h1,h2⟩:=hlim;⟨mc,nsK h1,h2⟩⟩;have e0:sG P w K mg (rL s₁.heap H) callerA [] s₁ H:=⟨rfl,hM,λb o e=>zp2 e,qp (znJ _ _),trivial,λb hb=>absurd (show b∈([]:List Addr)from hb) (by simp),hok,.of_eq hg⟩;refine ly ((F _ hKb (nsK hns)).run callerA [] s₁ H ⟨[.ref a],[]⟩ [.ref a] [.ref a] _ _ hr e0 (hbind s₁ (.ref a)) (.cons rfl .nil) (hsp H hO hS)) λr s' h=> ?_;cases r with
  | error e=>exact(hCX H e s' h).elim
  | ok fl=>
   cases fl with
   | next=>exact False.elim h
   | brk=>exact False.elim h
   | cont=>exact False.elim h
   | ret u=>
    obtain⟨v,H',os,bare,un,hok',r',q⟩:=h;have q':v= .bl true:=q;subst q';obtain rfl:u=Value.bool true:=r';refine⟨rfl,OldK.of_keep λb o e=> ?_,os,bare⟩;cases q:H b with
    | none=>exact un.keep b o e q (by intro z;exact absurd (show b∈([]:List Addr)from z) (by simp)) (by simp)
    | some u=>
     rcases hO b with z | ⟨ob,xs,z⟩
     ·rw[q]at z;cases z
     ·have z2:=un.frzs b ob _ z
      obtain⟨e1,_⟩:=hok b _ z;obtain⟨e2,_⟩:=hok' b _ z2;rw[e]at e1;cases e1;exact e2
 cases hk:K.lookup a with
 | some o=>
  have e:=KX a o hk;rw[ha]at e;cases e;refine core (λ_=>none) (λ_=> .inl rfl) (.inr ⟨_,vs.toArray,_,hk,rfl,rfl,rfl,by rw[be,lenV];exact hl,by simpa using rv,rfl⟩) (λb u z=>by have z':(none:Option HO)=some u:=z;cases z') (λb z=>absurd rfl z) λz=>absurd rfl z
 | none=>
  refine core (λb=>if b=a then some (.frz {cls:= .type "list",data:= .seq vs.toArray} (.lst (ns.map V.int)))else none) (λb=> ?_) (.inl (.inr ⟨{cls:= .type "list",data:= .seq vs.toArray},if_pos rfl⟩)) (λb u z=> ?_) (λb z=> ?_) λ_=>hk
  ·by_cases hb:b=a
   ·exact .inr ⟨_,_,if_pos hb⟩
   ·exact .inl (if_neg hb)
  ·by_cases hb:b=a
   ·have z':=(if_pos hb).symm.trans z
    cases z';subst hb;exact⟨ha,by rw[ac];exact hl,vs,_,rv,ha⟩
   ·have z':=(if_neg hb).symm.trans z
    cases z'
  ·by_cases hb:b=a
   ·exact hb
   ·exact absurd (if_neg hb) z
end L2
namespace L2
open PySem PySem.Spec PyProof.Rows
theorem walk_of {l:PySem.W.OpenLaw}{n k:Nat}{q:Program}{loose:List Str}{XP:(Str->Option Value)->Heap->Prop}{YP:World->Heap->Prop}{d:DefRec}{K:Params->Frag}{CX:World->u0}{sp:World->Sp}{x:Str}
  (hn:l.most=some n) (hn2:n<=sizeLine) (hdf:d.params.defaults= []) (hr:zL k callerA)
  (hY: ∀(w:World) (h:Heap),YP w h->(K w.params).In h)
  (F: ∀(w:World) (mg:Str->Option Value) (fa:Addr) (h:Heap),(K w.params).In h->h.Ns mainGlobals mg->mg d.name=some (.ref fa)->
   ∃fd:FuncData,(∀(s:Shared) (u:Value),BindsTo s fd ⟨[u],[]⟩ [(x,u)])/\
    ∀base:Heap,(K w.params).In base->base.Ns mainGlobals mg->zU l.prog w (K w.params) mg base (CX w) k fa fd [x] (sp w))
  (hsp: ∀(w:World) (H:Hp) (a:Addr) (ns:List Int),ns.length<=n->e7 H->yT (K w.params) H a (ns.map V.int)->sp w [.ref a] H (λv _=>v= .bl true) λ_ _ _=>False)
  (hCX: ∀(w:World) (H:Hp) (s:Shared) (e:Value) (s':Shared),CX w [] H s (λ_ _ _=>False) e s'->False):
  PySem.W.WalkO q loose XP YP l.row.toRowW d [] (λf vs=>PySem.call f vs):=by
 refine Att.attach_call hn hdf λw s₀ s₁ mg mb fa o pm cd doc a vs ns G Y ho hd hcd hmg hobj hints hlen hg=> ?_;have KX:=hY w _ Y;obtain⟨fd,hb,hF⟩:=F w mg fa _ KX G.T.g hmg;exact zov KX G.T.g G.T.b G.T.builtins G.T.nolimit hg hobj hints (bf hlen hn2) hr hF hb (λH hO hS=>hsp w H a ns hlen hO hS) λH e s'=>hCX w H s₁ e s'
end L2
namespace L2
open PySem PySem.Spec PyProof.Rows
def znQ (s:Stmt)(j:Nat):Stmt:=match s with
 | .ClassDef _ _ _ body _ _ _ _ _ _ _=>body.getD j (.Pass ⟨0,0,0,0⟩)
 | _=> .Pass ⟨0,0,0,0⟩
def qZ (s:Stmt):Arguments:=match s with
 | .FunctionDef _ a _ _ _ _ _ _ _ _=>a
 | _=> {posonlyargs:= [],args:= [],vararg:=none,kwonlyargs:= [],kw_defaults:= [],kwarg:=none,defaults:= []}
def sL (s:Stmt):List Stmt:=match s with
 | .FunctionDef _ _ b _ _ _ _ _ _ _=>b
 | _=> []
def zV (s:Stmt):Scope:=match s with
 | .FunctionDef _ _ _ _ _ _ sc _ _ _=>sc
 | _=> {kind:= .function,names:= [],isGenerator:=false,isCoroutine:=false}
abbrev y3:u0:=λ_ _ _ _ _ _=>False
abbrev E0:XK:=λ_ _ _=>False
theorem zj3 {X:Cx} :mC y3 X E0:=λ_ _ _ _ _ _ _ h=>h.elim
structure yD (K:Frag)(x qual:Str)(st:Stmt)(f:Addr)(fd:FuncData):Prop where
 ex: ∃(oc:Value) (od:Option Addr) (kV doc pm:Value) (an:Option Addr) (cdv ct:Value) (osl:Array (Option Value)),
  fd=fnOf x qual (qZ st) (sL st) (zV st) .none kV doc pm an cdv ct/\K.lookup f=some ⟨oc,od,.func fd,osl⟩/\codeIn K cdv qual=true
 kp:keepIn K (.ref f)=true
section
variable {P:Program} {w:World} {K:Frag} {mg:Str->Option Value} {base:Heap}
theorem yD.ok {x qual:Str}{st:Stmt}{f:Addr}{fd:FuncData}{N ps:List Str}{k:Nat}{sp:Sp}(F:yD K x qual st f fd)(S:yM N ps (zV st))(len: ∀vs H Q E,sp vs H Q E->vs.length=ps.length)
  (hbody: ∀(cdv:Value) (A:Around) (outer:List Env) (s:Shared) (H:Hp) (vs:List V) (Q:VK) (E:XK),zL k (A.deeper (envOfC qual (zV st) s.heap.objs.size f cdv))->sp vs H Q E->
   ∃t,x8 (t8 y3 P w K mg base N qual (zV st) f cdv A outer s H E).nox (sL st) t/\t {nx:=λ_ H'=>Q .non H',rt:=Q} (start N vs) H):zU P w K mg base y3 (k+1) f fd ps sp:=by
 obtain⟨oc,od,kV,doc,pm,an,cdv,ct,osl,rfl,lk,hcd⟩:=F.ex;refine zig lk hcd S len λA outer s H vs Q E hr hsp=> ?_;obtain⟨t,h,q⟩:=hbody cdv A outer s H vs Q E hr hsp;exact⟨t,h.nox,q⟩
theorem yD.binds {x qual:Str}{st:Stmt}{f:Addr}{fd:FuncData}{ps:List Str}(F:yD K x qual st f fd)
  (h: ∀(kV doc pm:Value) (an:Option Addr) (cdv ct:Value) (us:List Value),us.length=ps.length->bindArgs (fnOf x qual (qZ st) (sL st) (zV st) .none kV doc pm an cdv ct) ⟨us,[]⟩=pure (ps.zip us)):wT K fd ps []:=by
 obtain⟨oc,od,kV,doc,pm,an,cdv,ct,osl,rfl,lk,hcd⟩:=F.ex;exact .all (h kV doc pm an cdv ct)
theorem jH {x qual:Str}{st:Stmt}{f:Addr}{oc:Value}{od an:Option Addr}{osl:Array (Option Value)}{kV doc pm cdv ct:Value}(l:K.lookup f=some ⟨oc,od,.func (fnOf x qual (qZ st) (sL st) (zV st) .none kV doc pm an cdv ct),osl⟩)
  (c:codeIn K cdv qual=true) (k:keepIn K (.ref f)=true):yD K x qual st f (fnOf x qual (qZ st) (sL st) (zV st) .none kV doc pm an cdv ct):=⟨⟨oc,od,kV,doc,pm,an,cdv,ct,osl,rfl,l,c⟩,k⟩
end
section
variable {X:Cx}
theorem pv (i:Nat){x:Str}{pos:Pos}(hN:X.N[i]?=some x:=by rfl)(hv:kS X.env.scope x:=by first | exact Or.inl rfl | exact Or.inr (Or.inl rfl) | exact Or.inr (Or.inr rfl))(hd:(x==("__debug__" :Str))=false:=by decide)
  (hcd:(x==("__classdict__" :Str))=false:=by decide):PE X (.Name x pos) (lU i):=iE hN hv hd hcd
end
theorem zc3 {c A B:Prop}[Decidable c](h1:c->A)(h2: ¬ c->B):if c then A else B:=by
 by_cases h:c
 ·rw[if_pos h]
  exact h1 h
 ·rw[if_neg h]
  exact h2 h
end L2
set_option maxHeartbeats 0
namespace Hd
noncomputable section
open PySem PySem.W L2
abbrev pg:Program:=PySem.Challenge.pw_copiedhouse_k17_programs_let_by
def tp (i:Nat):Stmt:=pg.main.body.getD i (.Pass ⟨0,0,0,0⟩)
def uI (i j:Nat):Stmt:=znQ (tp i) j
def en (P:Params)(x:Str)(t:Nat)(v:Value):DictEntry:=⟨PyData.keyHash P x,.str x t,v⟩
def tu (l:List Value):Obj:=⟨.type "tuple",none,.seq l.toArray 0,#[]⟩
def fl (l:List Value):Obj:=⟨.none,none,.fields l.toArray,#[]⟩
def co (l:List Value):Obj:=⟨.type "code",none,.fields l.toArray,#[]⟩
def fn (n q:Str)(s:Stmt)(g:Nat)(cl:List (Str×Addr))(d k dc pm:Value)(an:Option Addr)(cd ct:Value)(b:Nat):FuncData:= {name:=n,qualname:=q,params:=qZ s,body:= .stmts (sL s),scope:=zV s,globals:=g,closure:=cl,defaults:=d,kwdefaults:=k,doc:=dc,pyModule:=pm,annotations:=an,code:=cd,closureTuple:=ct,builtins:=b}
def fu (f:FuncData):Obj:=⟨.type "function",none,.func f,#[]⟩
def fp (f:FuncData):Obj:=⟨.none,none,.func f,#[]⟩
def li:Life:= {}
abbrev an:Option Value:=some (.ref 6)
def ev:Env:= {scope:=pg.main.scope,locals:=mainNs,globals:=mainNs,cells:= [],code:= .ref 13,frame:=some 14}
abbrev cE:Code:= .body (behindTheImports pg) ev
abbrev B:List Frame:= [topFrame ⟨0,0,0,0⟩]
abbrev gs:Array GenState:=Array.mk []
def yI (n q:Str)(t l a b r r2:Nat)(x y z:Value)(f k:Nat):Obj:=co [.str n t,.str q (t+1),.str "/claim/cut.py" (t+2),.int l 0,.int a 0,.int 0 0,.int 0 0,.int 3 0,.ref r,.bool true,.int b 0,.ref r2,x,y,z,.ref f,.int k 0,.int l 0,.str "/claim/cut.py" (k+1)]
def yJ (n q:Str)(s:Stmt):Obj:=fp (fn n q s 0 [] .none .none .none .none none .none .none 0)
def yK (n q:Str)(s:Stmt)(m:Str)(t c:Nat):Obj:=fu (fn n q s 3 [] .none .none .none (.str m t) none (.ref c) .none 0)
def dc (l:List DictEntry)(n:Nat):Obj:=⟨.type "dict",none,.dict l.toArray n,#[]⟩
abbrev lf (o:Obj):BT:= .node o .nil .nil
def f3 (P:Params):Obj:=dc [en P "__name__" 165 (.str "law_copiedhouse_k17_programs_let_by" 556),en P "__doc__" 166 (.none),en P "__package__" 167 (.none),en P "__loader__" 168 (.builtin "__main__.__loader__#opaque"),en P "__spec__" 169 (.none),en P "__annotations__" 170 (.ref 6),en P "__builtins__" 171 (.ref 4),en P "__file__" 173 (.str "/claim/cut.py" 172),en P "__cached__" 174 (.none),en P "HouseError" 206 (.ref 24),en P "Twice" 231 (.ref 44),en P "NoHand" 254 (.ref 63),en P "NoName" 279 (.ref 82),en P "WrongShelf" 304 (.ref 101),en P "NoSplit" 329 (.ref 120),en P "NotHeld" 354 (.ref 139),en P "Left" 379 (.ref 158),en P "terms_in" 388 (.ref 167),en P "deed_of" 395 (.ref 174),en P "shelf_of" 402 (.ref 181),en P "term_of" 409 (.ref 188),en P "named_by_hands" 417 (.ref 193),en P "in_split_order" 423 (.ref 198),en P "MANNERS_OF_DEEDS" 445 (.ref 199),en P "MANNERS_OF_TERMS" 457 (.ref 206),en P "look" 464 (.ref 216),en P "look_for_twice" 473 (.ref 223),en P "look_at_rows" 479 (.ref 228),en P "look_at_named_hand" 487 (.ref 235),en P "look_at_doing" 496 (.ref 242),en P "look_at_term" 505 (.ref 249),en P "look_at_shelf" 514 (.ref 256),en P "look_at_splits" 520 (.ref 261),en P "look_at_joins" 529 (.ref 268),en P "held_at_ends" 539 (.ref 275),en P "held_behind" 549 (.ref 282),en P "in_order_of_hands" 555 (.ref 287),en P "_law_box" 567 (.ref 294),en P "_law_take" 577 (.ref 301),en P "_law_words" 583 (.ref 306),en P "_law_number" 591 (.ref 313),en P "_law_term" 606 (.ref 320),en P "_law_any_term" 615 (.ref 327),en P "_law_manner" 627 (.ref 334),en P "_law_begin" 633 (.ref 339),en P "_law_leaves" 646 (.ref 346),en P "_law_deed" 661 (.ref 353),en P "_law_row" 674 (.ref 360),en P "_law_join" 685 (.ref 367),en P "_law_hand" 702 (.ref 374),en P "_law_three_words" 715 (.ref 381),en P "_law_program" 721 (.ref 386),en P "_law_refused" 729 (.ref 393),en P "law" 735 (.ref 398)] 54
def jC:Obj:=tu []
def f12:Obj:=fl [.int 2 0,.int 0 0,.ref 20,.int 4 0,.int 0 0,.ref 33,.int 9 0,.int 0 0,.ref 52,.int 13 0,.int 0 0,.ref 71,.int 18 0,.int 0 0,.ref 90,.int 23 0,.int 0 0,.ref 109,.int 28 0,.int 0 0,.ref 128,.int 33 0,.int 0 0,.ref 147,.int 39 0,.int 0 0,.ref 166,.int 45 0,.int 0 0,.ref 173,.int 51 0,.int 0 0,.ref 180,.int 55 0,.int 0 0,.ref 187,.int 62 0,.int 0 0,.ref 192,.int 67 0,.int 0 0,.ref 197,.int 79 0,.int 0 0,.ref 215,.int 88 0,.int 0 0,.ref 222,.int 94 0,.int 0 0,.ref 227,.int 104 0,.int 0 0,.ref 234,.int 111 0,.int 0 0,.ref 241,.int 119 0,.int 0 0,.ref 248,.int 124 0,.int 0 0,.ref 255,.int 129 0,.int 0 0,.ref 260,.int 134 0,.int 0 0,.ref 267,.int 139 0,.int 0 0,.ref 274,.int 145 0,.int 0 0,.ref 281,.int 156 0,.int 0 0,.ref 286,.int 159 0,.int 0 0,.ref 293,.int 167 0,.int 0 0,.ref 300,.int 175 0,.int 0 0,.ref 305,.int 192 0,.int 0 0,.ref 312,.int 199 0,.int 0 0,.ref 319,.int 213 0,.int 0 0,.ref 326,.int 216 0,.int 0 0,.ref 333,.int 225 0,.int 0 0,.ref 338,.int 239 0,.int 0 0,.ref 345,.int 247 0,.int 0 0,.ref 352,.int 262 0,.int 0 0,.ref 359,.int 271 0,.int 0 0,.ref 366,.int 275 0,.int 0 0,.ref 373,.int 296 0,.int 0 0,.ref 380,.int 307 0,.int 0 0,.ref 385,.int 322 0,.int 0 0,.ref 392,.int 328 0,.int 0 0,.ref 397]
def jD:Obj:=co [.str "<module>" 182,.str "<module>" 183,.str "/claim/cut.py" 184,.int 1 0,.int 0 0,.int 0 0,.int 0 0,.int 0 0,.ref 11,.bool false,.int 181 0,.ref 12,.none,.none,.none,.none,.int 185 0,.int 1 0,.str "/claim/cut.py" 186]
def jE:Obj:=⟨.type "frame",none,.plain,#[some (.ref 13),some (.ref 3),some (.ref 3),none,some (.str "__main__" 164),none,some (.ref 0)]⟩
def cJ:Obj:=tu [.type "ValueError"]
def f16:Obj:=⟨.type "builtin_function_or_method",none,.fields #[.builtin "type.__prepare__",.type "type"],#[]⟩
def f17 (P:Params):Obj:=dc [en P "__module__" 196 (.str "copiedhouse.errors" 187),en P "__qualname__" 198 (.str "HouseError" 197),en P "__firstlineno__" 200 (.int 2 199),en P "__static_attributes__" 201 (.ref 22)] 4
def f18:Obj:=tu []
def f19:Obj:=fl []
def f20:Obj:=co [.str "HouseError" 191,.str "HouseError" 192,.str "/claim/cut.py" 193,.int 2 0,.int 0 0,.int 0 0,.int 0 0,.int 0 0,.ref 18,.bool false,.int 181 0,.ref 19,.none,.none,.none,.none,.int 194 0,.int 2 0,.str "/claim/cut.py" 195]
def f21:Obj:=⟨.type "frame",none,.plain,#[some (.ref 20),some (.ref 3),some (.ref 17),none,some (.str "copiedhouse.errors" 187),none,some (.ref 0)]⟩
def a9:Obj:=tu []
def aK (P:Params):Obj:=dc [en P "__module__" 196 (.str "copiedhouse.errors" 187),en P "__firstlineno__" 200 (.int 2 199),en P "__static_attributes__" 201 (.ref 22),en P "__weakref__" 203 (.ref 25),en P "__doc__" 204 (.none)] 3
def aS:Obj:=⟨.type "type",none,.cls (⟨"HouseError",[.type "ValueError"],[.ref 24,.type "ValueError",.type "Exception",.type "BaseException",.type "object"],23,"HouseError",true,[],[.ref 44,.ref 63,.ref 82,.ref 101,.ref 120,.ref 139,.ref 158],false,none,false⟩),#[some (.ref 15),none,some (.str "HouseError" 189),some (.str "HouseError" 197),some (.builtin "ValueError.__new__"),some (.bool true)]⟩
def f25:Obj:=⟨.type "getset_descriptor",none,.fields #[.str "__weakref__" 202,.ref 24,.builtin "ExceptionGroup.__weakref__",.none],#[]⟩
def f26:Obj:=⟨.type "super",none,.fields #[.ref 24,.ref 24,.ref 24],#[]⟩
def f27:Obj:=⟨.type "builtin_function_or_method",none,.fields #[.builtin "object.__init_subclass__",.ref 24],#[]⟩
def f28:Obj:=tu [.ref 24]
def f29:Obj:=⟨.type "builtin_function_or_method",none,.fields #[.builtin "type.__prepare__",.type "type"],#[]⟩
def f30 (P:Params):Obj:=dc [en P "__module__" 214 (.str "copiedhouse.errors" 187),en P "__qualname__" 216 (.str "Twice" 215),en P "__firstlineno__" 218 (.int 4 217),en P "__init__" 226 (.ref 41),en P "__static_attributes__" 228 (.ref 42)] 5
def f31:Obj:=tu []
def f32:Obj:=fl [.int 6 0,.int 4 0,.ref 40]
def f33:Obj:=co [.str "Twice" 209,.str "Twice" 210,.str "/claim/cut.py" 211,.int 4 0,.int 0 0,.int 0 0,.int 0 0,.int 0 0,.ref 31,.bool false,.int 181 0,.ref 32,.none,.none,.none,.none,.int 212 0,.int 4 0,.str "/claim/cut.py" 213]
def f34:Obj:=⟨.type "frame",none,.plain,#[some (.ref 33),some (.ref 3),some (.ref 30),none,some (.str "copiedhouse.errors" 187),none,some (.ref 0)]⟩
def f35:Obj:=tu []
def f36:Obj:=fl []
def f37:Obj:=tu [.str "self" 222,.str "word" 223]
def f38:Obj:=tu []
def f39:Obj:=yJ "__init__" "Twice.__init__" (uI 2 0)
def f40:Obj:=yI "__init__" "Twice.__init__" 219 6 2 181 35 36 .none (.ref 37) (.ref 38) 39 224
def f41:Obj:=yK "__init__" "Twice.__init__" (uI 2 0) "copiedhouse.errors" 187 40
def f42:Obj:=tu [.str "word" 227]
def f43 (P:Params):Obj:=dc [en P "__module__" 214 (.str "copiedhouse.errors" 187),en P "__firstlineno__" 218 (.int 4 217),en P "__init__" 226 (.ref 41),en P "__static_attributes__" 228 (.ref 42),en P "__doc__" 229 (.none)] 2
def f44:Obj:=⟨.type "type",none,.cls (⟨"Twice",[.ref 24],[.ref 44,.ref 24,.type "ValueError",.type "Exception",.type "BaseException",.type "object"],43,"Twice",true,[],[],false,none,false⟩),#[some (.ref 28),none,some (.str "Twice" 207),some (.str "Twice" 215),some (.builtin "ValueError.__new__"),some (.bool true)]⟩
def f45:Obj:=⟨.type "super",none,.fields #[.ref 44,.ref 44,.ref 44],#[]⟩
def f46:Obj:=⟨.type "builtin_function_or_method",none,.fields #[.builtin "object.__init_subclass__",.ref 44],#[]⟩
def f47:Obj:=tu [.ref 24]
def f48:Obj:=⟨.type "builtin_function_or_method",none,.fields #[.builtin "type.__prepare__",.type "type"],#[]⟩
def f49 (P:Params):Obj:=dc [en P "__module__" 239 (.str "copiedhouse.errors" 187),en P "__qualname__" 241 (.str "NoHand" 240),en P "__firstlineno__" 243 (.int 9 242),en P "__init__" 250 (.ref 60),en P "__static_attributes__" 251 (.ref 61)] 5
def f50:Obj:=tu []
def f51:Obj:=fl [.int 11 0,.int 4 0,.ref 59]
def f52:Obj:=co [.str "NoHand" 234,.str "NoHand" 235,.str "/claim/cut.py" 236,.int 9 0,.int 0 0,.int 0 0,.int 0 0,.int 0 0,.ref 50,.bool false,.int 181 0,.ref 51,.none,.none,.none,.none,.int 237 0,.int 9 0,.str "/claim/cut.py" 238]
def f53:Obj:=⟨.type "frame",none,.plain,#[some (.ref 52),some (.ref 3),some (.ref 49),none,some (.str "copiedhouse.errors" 187),none,some (.ref 0)]⟩
def f54:Obj:=tu []
def f55:Obj:=fl []
def f56:Obj:=tu [.str "self" 247]
def f57:Obj:=tu []
def f58:Obj:=yJ "__init__" "NoHand.__init__" (uI 3 0)
def f59:Obj:=yI "__init__" "NoHand.__init__" 244 11 1 181 54 55 .none (.ref 56) (.ref 57) 58 248
def f60:Obj:=yK "__init__" "NoHand.__init__" (uI 3 0) "copiedhouse.errors" 187 59
def f61:Obj:=tu []
def f62 (P:Params):Obj:=dc [en P "__module__" 239 (.str "copiedhouse.errors" 187),en P "__firstlineno__" 243 (.int 9 242),en P "__init__" 250 (.ref 60),en P "__static_attributes__" 251 (.ref 61),en P "__doc__" 252 (.none)] 2
def f63:Obj:=⟨.type "type",none,.cls (⟨"NoHand",[.ref 24],[.ref 63,.ref 24,.type "ValueError",.type "Exception",.type "BaseException",.type "object"],62,"NoHand",true,[],[],false,none,false⟩),#[some (.ref 47),none,some (.str "NoHand" 232),some (.str "NoHand" 240),some (.builtin "ValueError.__new__"),some (.bool true)]⟩
def f64:Obj:=⟨.type "super",none,.fields #[.ref 63,.ref 63,.ref 63],#[]⟩
def f65:Obj:=⟨.type "builtin_function_or_method",none,.fields #[.builtin "object.__init_subclass__",.ref 63],#[]⟩
def f66:Obj:=tu [.ref 24]
def f67:Obj:=⟨.type "builtin_function_or_method",none,.fields #[.builtin "type.__prepare__",.type "type"],#[]⟩
def f68 (P:Params):Obj:=dc [en P "__module__" 262 (.str "copiedhouse.errors" 187),en P "__qualname__" 264 (.str "NoName" 263),en P "__firstlineno__" 266 (.int 13 265),en P "__init__" 274 (.ref 79),en P "__static_attributes__" 276 (.ref 80)] 5
def f69:Obj:=tu []
def f70:Obj:=fl [.int 15 0,.int 4 0,.ref 78]
def f71:Obj:=co [.str "NoName" 257,.str "NoName" 258,.str "/claim/cut.py" 259,.int 13 0,.int 0 0,.int 0 0,.int 0 0,.int 0 0,.ref 69,.bool false,.int 181 0,.ref 70,.none,.none,.none,.none,.int 260 0,.int 13 0,.str "/claim/cut.py" 261]
def f72:Obj:=⟨.type "frame",none,.plain,#[some (.ref 71),some (.ref 3),some (.ref 68),none,some (.str "copiedhouse.errors" 187),none,some (.ref 0)]⟩
def f73:Obj:=tu []
def f74:Obj:=fl []
def f75:Obj:=tu [.str "self" 270,.str "word" 271]
def f76:Obj:=tu []
def f77:Obj:=yJ "__init__" "NoName.__init__" (uI 4 0)
def f78:Obj:=yI "__init__" "NoName.__init__" 267 15 2 181 73 74 .none (.ref 75) (.ref 76) 77 272
def f79:Obj:=yK "__init__" "NoName.__init__" (uI 4 0) "copiedhouse.errors" 187 78
def f80:Obj:=tu [.str "word" 275]
def f81 (P:Params):Obj:=dc [en P "__module__" 262 (.str "copiedhouse.errors" 187),en P "__firstlineno__" 266 (.int 13 265),en P "__init__" 274 (.ref 79),en P "__static_attributes__" 276 (.ref 80),en P "__doc__" 277 (.none)] 2
def f82:Obj:=⟨.type "type",none,.cls (⟨"NoName",[.ref 24],[.ref 82,.ref 24,.type "ValueError",.type "Exception",.type "BaseException",.type "object"],81,"NoName",true,[],[],false,none,false⟩),#[some (.ref 66),none,some (.str "NoName" 255),some (.str "NoName" 263),some (.builtin "ValueError.__new__"),some (.bool true)]⟩
def f83:Obj:=⟨.type "super",none,.fields #[.ref 82,.ref 82,.ref 82],#[]⟩
def f84:Obj:=⟨.type "builtin_function_or_method",none,.fields #[.builtin "object.__init_subclass__",.ref 82],#[]⟩
def f85:Obj:=tu [.ref 24]
def f86:Obj:=⟨.type "builtin_function_or_method",none,.fields #[.builtin "type.__prepare__",.type "type"],#[]⟩
def f87 (P:Params):Obj:=dc [en P "__module__" 287 (.str "copiedhouse.errors" 187),en P "__qualname__" 289 (.str "WrongShelf" 288),en P "__firstlineno__" 291 (.int 18 290),en P "__init__" 299 (.ref 98),en P "__static_attributes__" 301 (.ref 99)] 5
def f88:Obj:=tu []
def f89:Obj:=fl [.int 20 0,.int 4 0,.ref 97]
def f90:Obj:=co [.str "WrongShelf" 282,.str "WrongShelf" 283,.str "/claim/cut.py" 284,.int 18 0,.int 0 0,.int 0 0,.int 0 0,.int 0 0,.ref 88,.bool false,.int 181 0,.ref 89,.none,.none,.none,.none,.int 285 0,.int 18 0,.str "/claim/cut.py" 286]
def f91:Obj:=⟨.type "frame",none,.plain,#[some (.ref 90),some (.ref 3),some (.ref 87),none,some (.str "copiedhouse.errors" 187),none,some (.ref 0)]⟩
def f92:Obj:=tu []
def f93:Obj:=fl []
def f94:Obj:=tu [.str "self" 295,.str "word" 296]
def f95:Obj:=tu []
def f96:Obj:=yJ "__init__" "WrongShelf.__init__" (uI 5 0)
def f97:Obj:=yI "__init__" "WrongShelf.__init__" 292 20 2 181 92 93 .none (.ref 94) (.ref 95) 96 297
def f98:Obj:=yK "__init__" "WrongShelf.__init__" (uI 5 0) "copiedhouse.errors" 187 97
def f99:Obj:=tu [.str "word" 300]
def dP (P:Params):Obj:=dc [en P "__module__" 287 (.str "copiedhouse.errors" 187),en P "__firstlineno__" 291 (.int 18 290),en P "__init__" 299 (.ref 98),en P "__static_attributes__" 301 (.ref 99),en P "__doc__" 302 (.none)] 2
def dQ:Obj:=⟨.type "type",none,.cls (⟨"WrongShelf",[.ref 24],[.ref 101,.ref 24,.type "ValueError",.type "Exception",.type "BaseException",.type "object"],100,"WrongShelf",true,[],[],false,none,false⟩),#[some (.ref 85),none,some (.str "WrongShelf" 280),some (.str "WrongShelf" 288),some (.builtin "ValueError.__new__"),some (.bool true)]⟩
def zfC:Obj:=⟨.type "super",none,.fields #[.ref 101,.ref 101,.ref 101],#[]⟩
def zfD:Obj:=⟨.type "builtin_function_or_method",none,.fields #[.builtin "object.__init_subclass__",.ref 101],#[]⟩
def dR:Obj:=tu [.ref 24]
def zfE:Obj:=⟨.type "builtin_function_or_method",none,.fields #[.builtin "type.__prepare__",.type "type"],#[]⟩
def zfF (P:Params):Obj:=dc [en P "__module__" 312 (.str "copiedhouse.errors" 187),en P "__qualname__" 314 (.str "NoSplit" 313),en P "__firstlineno__" 316 (.int 23 315),en P "__init__" 324 (.ref 117),en P "__static_attributes__" 326 (.ref 118)] 5
def zfG:Obj:=tu []
def zfH:Obj:=fl [.int 25 0,.int 4 0,.ref 116]
def zfI:Obj:=co [.str "NoSplit" 307,.str "NoSplit" 308,.str "/claim/cut.py" 309,.int 23 0,.int 0 0,.int 0 0,.int 0 0,.int 0 0,.ref 107,.bool false,.int 181 0,.ref 108,.none,.none,.none,.none,.int 310 0,.int 23 0,.str "/claim/cut.py" 311]
def zfJ:Obj:=⟨.type "frame",none,.plain,#[some (.ref 109),some (.ref 3),some (.ref 106),none,some (.str "copiedhouse.errors" 187),none,some (.ref 0)]⟩
def dS:Obj:=tu []
def zfK:Obj:=fl []
def dU:Obj:=tu [.str "self" 320,.str "word" 321]
def dW:Obj:=tu []
def zfL:Obj:=yJ "__init__" "NoSplit.__init__" (uI 6 0)
def dX:Obj:=yI "__init__" "NoSplit.__init__" 317 25 2 181 111 112 .none (.ref 113) (.ref 114) 115 322
def dY:Obj:=yK "__init__" "NoSplit.__init__" (uI 6 0) "copiedhouse.errors" 187 116
def dZ:Obj:=tu [.str "word" 325]
def c0 (P:Params):Obj:=dc [en P "__module__" 312 (.str "copiedhouse.errors" 187),en P "__firstlineno__" 316 (.int 23 315),en P "__init__" 324 (.ref 117),en P "__static_attributes__" 326 (.ref 118),en P "__doc__" 327 (.none)] 2
def c3:Obj:=⟨.type "type",none,.cls (⟨"NoSplit",[.ref 24],[.ref 120,.ref 24,.type "ValueError",.type "Exception",.type "BaseException",.type "object"],119,"NoSplit",true,[],[],false,none,false⟩),#[some (.ref 104),none,some (.str "NoSplit" 305),some (.str "NoSplit" 313),some (.builtin "ValueError.__new__"),some (.bool true)]⟩
def zfN:Obj:=⟨.type "super",none,.fields #[.ref 120,.ref 120,.ref 120],#[]⟩
def zfO:Obj:=⟨.type "builtin_function_or_method",none,.fields #[.builtin "object.__init_subclass__",.ref 120],#[]⟩
def c4:Obj:=tu [.ref 24]
def zfP:Obj:=⟨.type "builtin_function_or_method",none,.fields #[.builtin "type.__prepare__",.type "type"],#[]⟩
def zfQ (P:Params):Obj:=dc [en P "__module__" 337 (.str "copiedhouse.errors" 187),en P "__qualname__" 339 (.str "NotHeld" 338),en P "__firstlineno__" 341 (.int 28 340),en P "__init__" 349 (.ref 136),en P "__static_attributes__" 351 (.ref 137)] 5
def zfR:Obj:=tu []
def zfS:Obj:=fl [.int 30 0,.int 4 0,.ref 135]
def zfT:Obj:=co [.str "NotHeld" 332,.str "NotHeld" 333,.str "/claim/cut.py" 334,.int 28 0,.int 0 0,.int 0 0,.int 0 0,.int 0 0,.ref 126,.bool false,.int 181 0,.ref 127,.none,.none,.none,.none,.int 335 0,.int 28 0,.str "/claim/cut.py" 336]
def zfU:Obj:=⟨.type "frame",none,.plain,#[some (.ref 128),some (.ref 3),some (.ref 125),none,some (.str "copiedhouse.errors" 187),none,some (.ref 0)]⟩
def c5:Obj:=tu []
def zfV:Obj:=fl []
def c6:Obj:=tu [.str "self" 345,.str "word" 346]
def c7:Obj:=tu []
def zfW:Obj:=yJ "__init__" "NotHeld.__init__" (uI 7 0)
def c8:Obj:=yI "__init__" "NotHeld.__init__" 342 30 2 181 130 131 .none (.ref 132) (.ref 133) 134 347
def cA:Obj:=yK "__init__" "NotHeld.__init__" (uI 7 0) "copiedhouse.errors" 187 135
def cC:Obj:=tu [.str "word" 350]
def cF (P:Params):Obj:=dc [en P "__module__" 337 (.str "copiedhouse.errors" 187),en P "__firstlineno__" 341 (.int 28 340),en P "__init__" 349 (.ref 136),en P "__static_attributes__" 351 (.ref 137),en P "__doc__" 352 (.none)] 2
def cG:Obj:=⟨.type "type",none,.cls (⟨"NotHeld",[.ref 24],[.ref 139,.ref 24,.type "ValueError",.type "Exception",.type "BaseException",.type "object"],138,"NotHeld",true,[],[],false,none,false⟩),#[some (.ref 123),none,some (.str "NotHeld" 330),some (.str "NotHeld" 338),some (.builtin "ValueError.__new__"),some (.bool true)]⟩
def zfX:Obj:=⟨.type "super",none,.fields #[.ref 139,.ref 139,.ref 139],#[]⟩
def zfY:Obj:=⟨.type "builtin_function_or_method",none,.fields #[.builtin "object.__init_subclass__",.ref 139],#[]⟩
def cH:Obj:=tu [.ref 24]
def zfZ:Obj:=⟨.type "builtin_function_or_method",none,.fields #[.builtin "type.__prepare__",.type "type"],#[]⟩
def zga (P:Params):Obj:=dc [en P "__module__" 362 (.str "copiedhouse.errors" 187),en P "__qualname__" 364 (.str "Left" 363),en P "__firstlineno__" 366 (.int 33 365),en P "__init__" 374 (.ref 155),en P "__static_attributes__" 376 (.ref 156)] 5
def zgb:Obj:=tu []
def zgc:Obj:=fl [.int 35 0,.int 4 0,.ref 154]
def zgd:Obj:=co [.str "Left" 357,.str "Left" 358,.str "/claim/cut.py" 359,.int 33 0,.int 0 0,.int 0 0,.int 0 0,.int 0 0,.ref 145,.bool false,.int 181 0,.ref 146,.none,.none,.none,.none,.int 360 0,.int 33 0,.str "/claim/cut.py" 361]
def zge:Obj:=⟨.type "frame",none,.plain,#[some (.ref 147),some (.ref 3),some (.ref 144),none,some (.str "copiedhouse.errors" 187),none,some (.ref 0)]⟩
def cI:Obj:=tu []
def zgf:Obj:=fl []
def cK:Obj:=tu [.str "self" 370,.str "word" 371]
def cL:Obj:=tu []
def zgg:Obj:=yJ "__init__" "Left.__init__" (uI 8 0)
def cM:Obj:=yI "__init__" "Left.__init__" 367 35 2 181 149 150 .none (.ref 151) (.ref 152) 153 372
def cN:Obj:=yK "__init__" "Left.__init__" (uI 8 0) "copiedhouse.errors" 187 154
def cO:Obj:=tu [.str "word" 375]
def cP (P:Params):Obj:=dc [en P "__module__" 362 (.str "copiedhouse.errors" 187),en P "__firstlineno__" 366 (.int 33 365),en P "__init__" 374 (.ref 155),en P "__static_attributes__" 376 (.ref 156),en P "__doc__" 377 (.none)] 2
def cQ:Obj:=⟨.type "type",none,.cls (⟨"Left",[.ref 24],[.ref 158,.ref 24,.type "ValueError",.type "Exception",.type "BaseException",.type "object"],157,"Left",true,[],[],false,none,false⟩),#[some (.ref 142),none,some (.str "Left" 355),some (.str "Left" 363),some (.builtin "ValueError.__new__"),some (.bool true)]⟩
def zgh:Obj:=⟨.type "super",none,.fields #[.ref 158,.ref 158,.ref 158],#[]⟩
def zgj:Obj:=⟨.type "builtin_function_or_method",none,.fields #[.builtin "object.__init_subclass__",.ref 158],#[]⟩
def cR:Obj:=tu []
def zgk:Obj:=fl []
def cS:Obj:=tu [.str "term" 385]
def cT:Obj:=tu []
def zgl:Obj:=yJ "terms_in" "terms_in" (tp 10)
def cU:Obj:=yI "terms_in" "terms_in" 382 39 1 181 161 162 .none (.ref 163) (.ref 164) 165 386
def cV:Obj:=yK "terms_in" "terms_in" (tp 10) "copiedhouse.forms" 380 166
def cW:Obj:=tu []
def zgm:Obj:=fl []
def cX:Obj:=tu [.str "row" 392]
def cY:Obj:=tu []
def zgo:Obj:=yJ "deed_of" "deed_of" (tp 11)
def cZ:Obj:=yI "deed_of" "deed_of" 389 45 1 181 168 169 .none (.ref 170) (.ref 171) 172 393
def b5:Obj:=yK "deed_of" "deed_of" (tp 11) "copiedhouse.forms" 380 173
def b6:Obj:=tu []
def zgp:Obj:=fl []
def b7:Obj:=tu [.str "deed" 399]
def b8:Obj:=tu []
def zgq:Obj:=yJ "shelf_of" "shelf_of" (tp 12)
def b9:Obj:=yI "shelf_of" "shelf_of" 396 51 1 181 175 176 .none (.ref 177) (.ref 178) 179 400
def bA:Obj:=yK "shelf_of" "shelf_of" (tp 12) "copiedhouse.forms" 380 180
def bB:Obj:=tu []
def zgs:Obj:=fl []
def bC:Obj:=tu [.str "deed" 406]
def bD:Obj:=tu []
def zgt:Obj:=yJ "term_of" "term_of" (tp 13)
def bE:Obj:=yI "term_of" "term_of" 403 55 1 181 182 183 .none (.ref 184) (.ref 185) 186 407
def bF:Obj:=yK "term_of" "term_of" (tp 13) "copiedhouse.forms" 380 187
def bG:Obj:=tu []
def zgv:Obj:=fl []
def zgw:Obj:=yJ "named_by_hands" "named_by_hands" (tp 15)
def bH:Obj:=yI "named_by_hands" "named_by_hands" 412 62 2 181 189 190 .none .none .none 191 415
def bI:Obj:=yK "named_by_hands" "named_by_hands" (tp 15) "copiedhouse.lists" 410 192
def bJ:Obj:=tu []
def zgx:Obj:=fl []
def zgy:Obj:=yJ "in_split_order" "in_split_order" (tp 16)
def bK:Obj:=yI "in_split_order" "in_split_order" 418 67 1 181 194 195 .none .none .none 196 421
def bL:Obj:=yK "in_split_order" "in_split_order" (tp 16) "copiedhouse.lists" 410 197
def bM (P:Params):Obj:=dc [en P "set" 426 (.ref 200),en P "more" 429 (.ref 201),en P "in" 431 (.ref 202),en P "out" 433 (.ref 203),en P "lay" 435 (.ref 204),en P "drop" 437 (.ref 205)] 6
def bN:Obj:=tu [.str "last" 427,.str "told" 428]
def bO:Obj:=tu [.str "sum" 430]
def bP:Obj:=tu [.str "bag" 432]
def bQ:Obj:=tu [.str "bag" 434]
def bR:Obj:=tu [.str "row" 436]
def bS:Obj:=tu [.str "row" 438]
def bT (P:Params):Obj:=dc [en P "shelf" 446 (.ref 207),en P "many" 450 (.ref 208),en P "long" 452 (.ref 209)] 3
def bU:Obj:=tu [.str "last" 447,.str "sum" 448,.str "told" 449]
def bV:Obj:=tu [.str "bag" 451]
def bW:Obj:=tu [.str "row" 453]
def bX:Obj:=tu []
def zg1:Obj:=fl []
def bY:Obj:=tu [.str "program" 461]
def bZ:Obj:=tu []
def zg2:Obj:=yJ "look" "look" (tp 20)
def a5:Obj:=yI "look" "look" 458 79 1 181 210 211 .none (.ref 212) (.ref 213) 214 462
def a6:Obj:=yK "look" "look" (tp 20) "copiedhouse.looker" 424 215
def a7:Obj:=tu []
def zg3:Obj:=fl []
def a8:Obj:=tu [.str "tuples" 468,.str "met" 469,.str "one" 470]
def aA:Obj:=tu []
def zg4:Obj:=yJ "look_for_twice" "look_for_twice" (tp 21)
def aB:Obj:=yI "look_for_twice" "look_for_twice" 465 88 1 181 217 218 .none (.ref 219) (.ref 220) 221 471
def aC:Obj:=yK "look_for_twice" "look_for_twice" (tp 21) "copiedhouse.looker" 424 222
def aF:Obj:=tu []
def zg5:Obj:=fl []
def zg6:Obj:=yJ "look_at_rows" "look_at_rows" (tp 22)
def aG:Obj:=yI "look_at_rows" "look_at_rows" 474 94 1 181 224 225 .none .none .none 226 477
def aI:Obj:=yK "look_at_rows" "look_at_rows" (tp 22) "copiedhouse.looker" 424 227
def aJ:Obj:=tu []
def zg7:Obj:=fl []
def aL:Obj:=tu [.str "row" 483,.str "taken" 484]
def aM:Obj:=tu []
def zg8:Obj:=yJ "look_at_named_hand" "look_at_named_hand" (tp 23)
def aN:Obj:=yI "look_at_named_hand" "look_at_named_hand" 480 104 2 181 229 230 .none (.ref 231) (.ref 232) 233 485
def aO:Obj:=yK "look_at_named_hand" "look_at_named_hand" (tp 23) "copiedhouse.looker" 424 234
def aP:Obj:=tu []
def zg9:Obj:=fl []
def aQ:Obj:=tu [.str "row" 491,.str "manners" 492,.str "deed" 493]
def aR:Obj:=tu []
def zg_:Obj:=yJ "look_at_doing" "look_at_doing" (tp 24)
def aT:Obj:=yI "look_at_doing" "look_at_doing" 488 111 2 181 236 237 .none (.ref 238) (.ref 239) 240 494
def aU:Obj:=yK "look_at_doing" "look_at_doing" (tp 24) "copiedhouse.looker" 424 241
def aV:Obj:=tu []
def zgA:Obj:=fl []
def aW:Obj:=tu [.str "term" 500,.str "manners" 501,.str "inner" 502]
def aX:Obj:=tu []
def zgB:Obj:=yJ "look_at_term" "look_at_term" (tp 25)
def aY:Obj:=yI "look_at_term" "look_at_term" 497 119 2 181 243 244 .none (.ref 245) (.ref 246) 247 503
def aZ:Obj:=yK "look_at_term" "look_at_term" (tp 25) "copiedhouse.looker" 424 248
def zab:Obj:=tu []
def zgC:Obj:=fl []
def zac:Obj:=tu [.str "S" 509,.str "manners" 510,.str "fitting" 511]
def zad:Obj:=tu []
def zgD:Obj:=yJ "look_at_shelf" "look_at_shelf" (tp 26)
def zae:Obj:=yI "look_at_shelf" "look_at_shelf" 506 124 3 181 250 251 .none (.ref 252) (.ref 253) 254 512
def zaf:Obj:=yK "look_at_shelf" "look_at_shelf" (tp 26) "copiedhouse.looker" 424 255
def zag:Obj:=tu []
def zgE:Obj:=fl []
def zgF:Obj:=yJ "look_at_splits" "look_at_splits" (tp 27)
def zah:Obj:=yI "look_at_splits" "look_at_splits" 515 129 1 181 257 258 .none .none .none 259 518
def zai:Obj:=yK "look_at_splits" "look_at_splits" (tp 27) "copiedhouse.looker" 424 260
def zaj:Obj:=tu []
def zgH:Obj:=fl []
def zak:Obj:=tu [.str "program" 524,.str "ends" 525,.str "left" 526]
def zal:Obj:=tu []
def zgI:Obj:=yJ "look_at_joins" "look_at_joins" (tp 28)
def zam:Obj:=yI "look_at_joins" "look_at_joins" 521 134 1 181 262 263 .none (.ref 264) (.ref 265) 266 527
def zan:Obj:=yK "look_at_joins" "look_at_joins" (tp 28) "copiedhouse.looker" 424 267
def zao:Obj:=tu []
def zgK:Obj:=fl []
def zap:Obj:=tu [.str "program" 533,.str "rows_of" 534,.str "ends" 535,.str "word" 536]
def zaq:Obj:=tu []
def zgL:Obj:=yJ "held_at_ends" "held_at_ends" (tp 29)
def zar:Obj:=yI "held_at_ends" "held_at_ends" 530 139 1 181 269 270 .none (.ref 271) (.ref 272) 273 537
def zas:Obj:=yK "held_at_ends" "held_at_ends" (tp 29) "copiedhouse.looker" 424 274
def zat:Obj:=tu []
def zgM:Obj:=fl []
def zau:Obj:=tu [.str "rows" 543,.str "ends" 544,.str "held" 545,.str "row" 546]
def zav:Obj:=tu []
def zgN:Obj:=yJ "held_behind" "held_behind" (tp 30)
def zax:Obj:=yI "held_behind" "held_behind" 540 145 2 181 276 277 .none (.ref 278) (.ref 279) 280 547
def zay:Obj:=yK "held_behind" "held_behind" (tp 30) "copiedhouse.looker" 424 281
def zaz:Obj:=tu []
def zgO:Obj:=fl []
def zgP:Obj:=yJ "in_order_of_hands" "in_order_of_hands" (tp 31)
def za0:Obj:=yI "in_order_of_hands" "in_order_of_hands" 550 156 2 181 283 284 .none .none .none 285 553
def za1:Obj:=yK "in_order_of_hands" "in_order_of_hands" (tp 31) "copiedhouse.looker" 424 286
def za2:Obj:=tu []
def zgQ:Obj:=fl []
def za3:Obj:=tu [.str "_law_script" 561,.str "_law_k" 562,.str "_law_cell" 563,.str "_law_seed" 564]
def za4:Obj:=tu []
def zgS:Obj:=yJ "_law_box" "_law_box" (tp 33)
def za5:Obj:=yI "_law_box" "_law_box" 558 159 2 181 288 289 .none (.ref 290) (.ref 291) 292 565
def za6:Obj:=yK "_law_box" "_law_box" (tp 33) "law_copiedhouse_k17_programs_let_by" 556 293
def za7:Obj:=tu []
def zgT:Obj:=fl []
def za8:Obj:=tu [.str "_law_box_here" 571,.str "_law_many" 572,.str "_law_digit" 573,.str "_law_one" 574]
def za9:Obj:=tu []
def zgU:Obj:=yJ "_law_take" "_law_take" (tp 34)
def za_:Obj:=yI "_law_take" "_law_take" 568 167 2 181 295 296 .none (.ref 297) (.ref 298) 299 575
def zaA:Obj:=yK "_law_take" "_law_take" (tp 34) "law_copiedhouse_k17_programs_let_by" 556 300
def zaB:Obj:=tu []
def zgW:Obj:=fl []
def zgX:Obj:=yJ "_law_words" "_law_words" (tp 35)
def zaC:Obj:=yI "_law_words" "_law_words" 578 175 2 181 302 303 .none .none .none 304 581
def zaD:Obj:=yK "_law_words" "_law_words" (tp 35) "law_copiedhouse_k17_programs_let_by" 556 305
def zaE:Obj:=tu []
def zgY:Obj:=fl []
def zaF:Obj:=tu [.str "_law_box_here" 587,.str "_law_form" 588]
def zaG:Obj:=tu []
def zha:Obj:=yJ "_law_number" "_law_number" (tp 36)
def zaH:Obj:=yI "_law_number" "_law_number" 584 192 1 181 307 308 .none (.ref 309) (.ref 310) 311 589
def zaI:Obj:=yK "_law_number" "_law_number" (tp 36) "law_copiedhouse_k17_programs_let_by" 556 312
def zaJ:Obj:=tu []
def zhb:Obj:=fl []
def zaK:Obj:=tu [.str "_law_box_here" 595,.str "_law_leaves_here" 596,.str "_law_room" 597,.str "_law_deep" 598,.str "_law_form" 599,.str "_law_third" 600,.str "_law_one" 601,.str "_law_other" 602,.str "_law_half" 603]
def zaL:Obj:=tu []
def zhc:Obj:=yJ "_law_term" "_law_term" (tp 37)
def zaM:Obj:=yI "_law_term" "_law_term" 592 199 4 181 314 315 .none (.ref 316) (.ref 317) 318 604
def zaN:Obj:=yK "_law_term" "_law_term" (tp 37) "law_copiedhouse_k17_programs_let_by" 556 319
def zaO:Obj:=tu []
def zhe:Obj:=fl []
def zaP:Obj:=tu [.str "_law_box_here" 610,.str "_law_leaves_here" 611,.str "_law_room" 612]
def zaQ:Obj:=tu []
def zhf:Obj:=yJ "_law_any_term" "_law_any_term" (tp 38)
def zaR:Obj:=yI "_law_any_term" "_law_any_term" 607 213 2 181 321 322 .none (.ref 323) (.ref 324) 325 613
def zaS:Obj:=yK "_law_any_term" "_law_any_term" (tp 38) "law_copiedhouse_k17_programs_let_by" 556 326
def zaT:Obj:=tu []
def zhg:Obj:=fl []
def zaU:Obj:=tu [.str "_law_box_here" 619,.str "_law_kinds" 620,.str "_law_calm" 621,.str "_law_word" 622,.str "_law_three" 623,.str "_law_term_here" 624]
def zaV:Obj:=tu []
def zhi:Obj:=yJ "_law_manner" "_law_manner" (tp 39)
def zaW:Obj:=yI "_law_manner" "_law_manner" 616 216 3 181 328 329 .none (.ref 330) (.ref 331) 332 625
def zaX:Obj:=yK "_law_manner" "_law_manner" (tp 39) "law_copiedhouse_k17_programs_let_by" 556 333
def zaY:Obj:=tu []
def zhj:Obj:=fl []
def zhk:Obj:=yJ "_law_begin" "_law_begin" (tp 40)
def zaZ:Obj:=yI "_law_begin" "_law_begin" 628 225 3 181 335 336 .none .none .none 337 631
def zba:Obj:=yK "_law_begin" "_law_begin" (tp 40) "law_copiedhouse_k17_programs_let_by" 556 338
def zbb:Obj:=tu []
def zhm:Obj:=fl []
def zbc:Obj:=tu [.str "_law_box_here" 637,.str "_law_shelves" 638,.str "_law_things" 639,.str "_law_found" 640,.str "_law_ks" 641,.str "_law_manner_here" 642,.str "_law_begin_here" 643]
def zbd:Obj:=tu []
def zhn:Obj:=yJ "_law_leaves" "_law_leaves" (tp 41)
def zbe:Obj:=yI "_law_leaves" "_law_leaves" 634 239 3 181 340 341 .none (.ref 342) (.ref 343) 344 644
def zbf:Obj:=yK "_law_leaves" "_law_leaves" (tp 41) "law_copiedhouse_k17_programs_let_by" 556 345
def zbg:Obj:=tu []
def zho:Obj:=fl []
def zbh:Obj:=tu [.str "_law_box_here" 650,.str "_law_shelf" 651,.str "_law_leaves_here" 652,.str "_law_things" 653,.str "_law_ks" 654,.str "_law_manner_here" 655,.str "_law_begin_here" 656,.str "_law_word" 657,.str "_law_term_here" 658]
def zbj:Obj:=tu []
def zhp:Obj:=yJ "_law_deed" "_law_deed" (tp 42)
def zbk:Obj:=yI "_law_deed" "_law_deed" 647 247 4 181 347 348 .none (.ref 349) (.ref 350) 351 659
def zbl:Obj:=yK "_law_deed" "_law_deed" (tp 42) "law_copiedhouse_k17_programs_let_by" 556 352
def zbm:Obj:=tu []
def zhq:Obj:=fl []
def zbn:Obj:=tu [.str "_law_box_here" 665,.str "_law_uses" 666,.str "_law_things" 667,.str "_law_own" 668,.str "_law_asked" 669,.str "_law_leaves_here" 670,.str "_law_row_here" 671]
def zbo:Obj:=tu []
def zhr:Obj:=yJ "_law_row" "_law_row" (tp 43)
def zbp:Obj:=yI "_law_row" "_law_row" 662 262 3 181 354 355 .none (.ref 356) (.ref 357) 358 672
def zbq:Obj:=yK "_law_row" "_law_row" (tp 43) "law_copiedhouse_k17_programs_let_by" 556 359
def zbr:Obj:=tu []
def zht:Obj:=fl []
def zbs:Obj:=tu [.str "_law_box_here" 678,.str "_law_plan" 679,.str "_law_rows" 680,.str "_law_held" 681,.str "_law_other" 682]
def zbt:Obj:=tu []
def zhu:Obj:=yJ "_law_join" "_law_join" (tp 44)
def zbu:Obj:=yI "_law_join" "_law_join" 675 271 4 181 361 362 .none (.ref 363) (.ref 364) 365 683
def zbv:Obj:=yK "_law_join" "_law_join" (tp 44) "law_copiedhouse_k17_programs_let_by" 556 366
def zbw:Obj:=tu []
def zhv:Obj:=fl []
def zby:Obj:=tu [.str "_law_script" 689,.str "_law_at" 690,.str "_law_plan" 691,.str "_law_number_here" 692,.str "_law_box_here" 693,.str "_law_uses" 694,.str "_law_rows" 695,.str "_law_held" 696,.str "_law_k" 697,.str "_law_kind" 698,.str "_law_other" 699]
def zbz:Obj:=tu []
def zhw:Obj:=yJ "_law_hand" "_law_hand" (tp 45)
def zb0:Obj:=yI "_law_hand" "_law_hand" 686 275 4 181 368 369 .none (.ref 370) (.ref 371) 372 700
def zb1:Obj:=yK "_law_hand" "_law_hand" (tp 45) "law_copiedhouse_k17_programs_let_by" 556 373
def zb2:Obj:=tu []
def zhx:Obj:=fl []
def zb3:Obj:=tu [.str "_law_box_here" 706,.str "_law_form" 707,.str "_law_some" 708,.str "_law_x" 709,.str "_law_y" 710,.str "_law_z" 711,.str "_law_at" 712]
def zb4:Obj:=tu []
def zhy:Obj:=yJ "_law_three_words" "_law_three_words" (tp 46)
def zb6:Obj:=yI "_law_three_words" "_law_three_words" 703 296 1 181 375 376 .none (.ref 377) (.ref 378) 379 713
def zb7:Obj:=yK "_law_three_words" "_law_three_words" (tp 46) "law_copiedhouse_k17_programs_let_by" 556 380
def zb8:Obj:=tu []
def zhz:Obj:=fl []
def zh0:Obj:=yJ "_law_program" "_law_program" (tp 47)
def zb9:Obj:=yI "_law_program" "_law_program" 716 307 5 181 382 383 .none .none .none 384 719
def zb_:Obj:=yK "_law_program" "_law_program" (tp 47) "law_copiedhouse_k17_programs_let_by" 556 385
def zbA:Obj:=tu []
def zh1:Obj:=fl []
def zbB:Obj:=tu [.str "_law_program_here" 725,.str "e" 726]
def zbC:Obj:=tu []
def zh3:Obj:=yJ "_law_refused" "_law_refused" (tp 48)
def zbD:Obj:=yI "_law_refused" "_law_refused" 722 322 1 181 387 388 .none (.ref 389) (.ref 390) 391 727
def zbE:Obj:=yK "_law_refused" "_law_refused" (tp 48) "law_copiedhouse_k17_programs_let_by" 556 392
def zbF:Obj:=tu []
def zh4:Obj:=fl []
def zh5:Obj:=yJ "law" "law" (tp 49)
def zbG:Obj:=yI "law" "law" 730 328 1 181 394 395 .none .none .none 396 733
def zbH:Obj:=yK "law" "law" (tp 49) "law_copiedhouse_k17_programs_let_by" 556 397
def a12:Obj:=fl []
def Ta (P:Params):BT:=(.node (boot_o_0 P) (.node (boot_o_1 P) (.node (boot_o_3 P) (.node (boot_o_7 P) .nil .nil) (.node jC .nil .nil)) (.node (boot_o_5 P) (.node (boot_o_9 P) .nil .nil) (.node jD .nil .nil))) (.node (boot_o_2 P) (.node (boot_o_4 P) (.node (boot_o_8 P) .nil .nil) (.node a12 .nil .nil)) (.node (boot_o_6 P) (.node (boot_o_10 P) .nil .nil) (.node jE .nil .nil))))
def Tz (P:Params):BT:=(.node (boot_o_0 P) (.node (boot_o_1 P) (.node (f3 P) (.node (boot_o_7 P) (.node cJ (.node f31 (.node f63 (.node zfS (lf zae) (lf zhz)) (.node zgw (lf zaM) .nil)) (.node f95 (.node zgh (lf za1) .nil) (.node aC (lf zhp) .nil))) (.node f47 (.node f79 (.node zfZ (lf zap) .nil) (.node bU (lf zaY) .nil)) (.node dS (.node b6 (lf zgW) .nil) (.node aR (lf zbv) .nil)))) (.node (aK P) (.node f39 (.node f71 (.node c8 (lf zgH) (lf zh3)) (.node (bM P) (lf zaS) .nil)) (.node zfD (.node cV (lf za7) .nil) (.node aL (lf zbp) .nil))) (.node f55 (.node (f87 P) (.node cK (lf zav) .nil) (.node a5 (lf zbd) .nil)) (.node (c0 P) (.node zgs (lf zha) .nil) (.node zgB (lf zb2) .nil))))) (.node jC (.node f19 (.node f35 (.node f67 (.node zfV (lf zgF) (lf zbA)) (.node zgx (lf zaP) .nil)) (.node f99 (.node cS (lf za4) .nil) (.node aG (lf zhq) .nil))) (.node f51 (.node f83 (.node zgd (lf zas) .nil) (.node zg1 (lf zba) .nil)) (.node zfL (.node zgq (lf zaE) .nil) (.node aV (lf zbz) .nil)))) (.node f27 (.node (f43 P) (.node f75 (.node cG (lf zam) (lf zh4)) (.node bQ (lf zaV) .nil)) (.node zfG (.node cY (lf zgU) .nil) (.node aO (lf zbs) .nil))) (.node f59 (.node f91 (.node cN (lf zaz) .nil) (.node a8 (lf zbg) .nil)) (.node c4 (.node bE (lf zhb) .nil) (.node zgC (lf zhy) .nil)))))) (.node (boot_o_5 P) (.node (boot_o_9 P) (.node (f17 P) (.node f33 (.node f65 (.node zfU (lf zag) (lf zb9)) (.node bI (lf zaO) .nil)) (.node f97 (.node cR (lf zgQ) .nil) (.node zg5 (lf zbl) .nil))) (.node (f49 P) (.node (f81 P) (.node zgb (lf zgL) .nil) (.node bW (lf zhk) .nil)) (.node dU (.node b7 (lf zaC) .nil) (.node aT (lf zhv) .nil)))) (.node f25 (.node f41 (.node f73 (.node cC (lf zal) (lf zbE)) (.node bO (lf zhg) .nil)) (.node zfE (.node zgm (lf za8) .nil) (.node zg8 (lf zbr) .nil))) (.node f57 (.node f89 (.node zgg (lf zax) .nil) (.node a7 (lf zbe) .nil)) (.node zfN (.node bD (lf zaI) .nil) (.node aZ (lf zb3) .nil))))) (.node jD (.node f21 (.node f37 (.node f69 (.node c7 (lf zai) (lf zbB)) (.node bK (lf zhf) .nil)) (.node dQ (.node zgl (lf za5) .nil) (.node aJ (lf zbo) .nil))) (.node f53 (.node f85 (.node cI (lf zgM) .nil) (.node bZ (lf zhm) .nil)) (.node dY (.node bA (lf zaF) .nil) (.node aW (lf zb0) .nil)))) (.node f29 (.node f45 (.node f77 (.node zfY (lf zao) (lf zbG)) (.node bS (lf zaW) .nil)) (.node zfI (.node cZ (lf zaA) .nil) (.node zg9 (lf zhu) .nil))) (.node f61 (.node f93 (.node (cP P) (lf zgP) .nil) (.node zg4 (lf zbh) .nil)) (.node (zfQ P) (.node bG (lf zaL) .nil) (.node zad (lf zb7) .nil))))))) (.node (boot_o_2 P) (.node (boot_o_4 P) (.node (boot_o_8 P) (.node f16 (.node f32 (.node f64 (.node zfT (lf zaf) (lf zh0)) (.node bH (lf zaN) .nil)) (.node f96 (.node zgj (lf za2) .nil) (.node aF (lf zbk) .nil))) (.node f48 (.node f80 (.node (zga P) (lf zaq) .nil) (.node bV (lf zhj) .nil)) (.node zfK (.node zgp (lf zgX) .nil) (.node zg_ (lf zbw) .nil)))) (.node aS (.node f40 (.node f72 (.node cA (lf zak) (lf zbD)) (.node bN (lf zaT) .nil)) (.node dR (.node cW (lf zgT) .nil) (.node aM (lf zbq) .nil))) (.node f56 (.node f88 (.node cL (lf zgN) .nil) (.node a6 (lf zhn) .nil)) (.node c3 (.node bC (lf zaH) .nil) (.node aY (lf zhx) .nil))))) (.node f12 (.node f20 (.node f36 (.node (f68 P) (.node c6 (lf zah) (lf zh1)) (.node zgy (lf zaQ) .nil)) (.node (dP P) (.node cT (lf zgS) .nil) (.node aI (lf zbn) .nil))) (.node f52 (.node f84 (.node zge (lf zat) .nil) (.node bY (lf zbb) .nil)) (.node dX (.node b9 (lf zgY) .nil) (.node zgA (lf zhw) .nil)))) (.node f28 (.node f44 (.node f76 (.node zfX (lf zan) (lf zh5)) (.node bR (lf zhi) .nil)) (.node zfH (.node zgo (lf za_) .nil) (.node aP (lf zbt) .nil))) (.node f60 (.node f92 (.node cO (lf zgO) .nil) (.node aA (lf zho) .nil)) (.node zfP (.node bF (lf zaK) .nil) (.node zac (lf zb6) .nil)))))) (.node (boot_o_6 P) (.node (boot_o_10 P) (.node f18 (.node f34 (.node f66 (.node c5 (lf zgE) (lf zb_)) (.node bJ (lf zhe) .nil)) (.node f98 (.node zgk (lf za3) .nil) (.node zg6 (lf zbm) .nil))) (.node f50 (.node f82 (.node zgc (lf zar) .nil) (.node bX (lf zaZ) .nil)) (.node dW (.node b8 (lf zaD) .nil) (.node aU (lf zby) .nil)))) (.node f26 (.node f42 (.node f74 (.node (cF P) (lf zgI) (lf zbF)) (.node bP (lf zaU) .nil)) (.node (zfF P) (.node cX (lf za9) .nil) (.node aN (lf zht) .nil))) (.node f58 (.node f90 (.node cM (lf zay) .nil) (.node zg3 (lf zbf) .nil)) (.node zfO (.node zgt (lf zaJ) .nil) (.node zab (lf zb4) .nil))))) (.node jE (.node a9 (.node f38 (.node f70 (.node zfW (lf zaj) (lf zbC)) (.node bL (lf zaR) .nil)) (.node zfC (.node cU (lf za6) .nil) (.node zg7 (lf zhr) .nil))) (.node f54 (.node f86 (.node zgf (lf zau) .nil) (.node zg2 (lf zbc) .nil)) (.node dZ (.node bB (lf zaG) .nil) (.node aX (lf zb1) .nil)))) (.node (f30 P) (.node f46 (.node f78 (.node cH (lf zgK) (lf zbH)) (.node (bT P) (lf zaX) .nil)) (.node zfJ (.node b5 (lf zaB) .nil) (.node aQ (lf zbu) .nil))) (.node (f62 P) (.node f94 (.node cQ (lf za0) .nil) (.node aB (lf zbj) .nil)) (.node zfR (.node zgv (lf zhc) .nil) (.node zgD (lf zb8) .nil))))))))
def Ha (P:Params):Heap:=⟨⟨[boot_o_0 P,boot_o_1 P,boot_o_2 P,boot_o_3 P,boot_o_4 P,boot_o_5 P,boot_o_6 P,boot_o_7 P,boot_o_8 P,boot_o_9 P,boot_o_10 P,jC,a12,jD,jE]⟩,li⟩
def Hl (P:Params):List Obj:= [boot_o_0 P,boot_o_1 P,boot_o_2 P,f3 P,boot_o_4 P,boot_o_5 P,boot_o_6 P,boot_o_7 P,boot_o_8 P,boot_o_9 P,boot_o_10 P,jC,f12,jD,jE,cJ,f16,f17 P,f18,f19,f20,f21,a9,aK P,aS,f25,f26,f27,f28,f29,f30 P,f31,f32,f33,f34,f35,f36,f37,f38,f39,f40,f41,f42,f43 P,f44,f45,f46,f47,f48,f49 P,f50,f51,f52,f53,f54,f55,f56,f57,f58,f59,f60,f61,f62 P,f63,f64,f65,f66,f67,f68 P,f69,f70,f71,f72,f73,f74,f75,f76,f77,f78,f79,f80,f81 P,f82,f83,f84,f85,f86,f87 P,f88,f89,f90,f91,f92,f93,f94,f95,f96,f97,f98,f99,dP P,dQ,zfC,zfD,dR,zfE,zfF P,zfG,zfH,zfI,zfJ,dS,zfK,dU,dW,zfL,dX,dY,dZ,c0 P,c3,zfN,zfO,c4,zfP,zfQ P,zfR,zfS,zfT,zfU,c5,zfV,c6,c7,zfW,c8,cA,cC,cF P,cG,zfX,zfY,cH,zfZ,zga P,zgb,zgc,zgd,zge,cI,zgf,cK,cL,zgg,cM,cN,cO,cP P,cQ,zgh,zgj,cR,zgk,cS,cT,zgl,cU,cV,cW,zgm,cX,cY,zgo,cZ,b5,b6,zgp,b7,b8,zgq,b9,bA,bB,zgs,bC,bD,zgt,bE,bF,bG,zgv,zgw,bH,bI,bJ,zgx,zgy,bK,bL,bM P,bN,bO,bP,bQ,bR,bS,bT P,bU,bV,bW,bX,zg1,bY,bZ,zg2,a5,a6,a7,zg3,a8,aA,zg4,aB,aC,aF,zg5,zg6,aG,aI,aJ,zg7,aL,aM,zg8,aN,aO,aP,zg9,aQ,aR,zg_,aT,aU,aV,zgA,aW,aX,zgB,aY,aZ,zab,zgC,zac,zad,zgD,zae,zaf,zag,zgE,zgF,zah,zai,zaj,zgH,zak,zal,zgI,zam,zan,zao,zgK,zap,zaq,zgL,zar,zas,zat,zgM,zau,zav,zgN,zax,zay,zaz,zgO,zgP,za0,za1,za2,zgQ,za3,za4,zgS,za5,za6,za7,zgT,za8,za9,zgU,za_,zaA,zaB,zgW,zgX,zaC,zaD,zaE,zgY,zaF,zaG,zha,zaH,zaI,zaJ,zhb,zaK,zaL,zhc,zaM,zaN,zaO,zhe,zaP,zaQ,zhf,zaR,zaS,zaT,zhg,zaU,zaV,zhi,zaW,zaX,zaY,zhj,zhk,zaZ,zba,zbb,zhm,zbc,zbd,zhn,zbe,zbf,zbg,zho,zbh,zbj,zhp,zbk,zbl,zbm,zhq,zbn,zbo,zhr,zbp,zbq,zbr,zht,zbs,zbt,zhu,zbu,zbv,zbw,zhv,zby,zbz,zhw,zb0,zb1,zb2,zhx,zb3,zb4,zhy,zb6,zb7,zb8,zhz,zh0,zb9,zb_,zbA,zh1,zbB,zbC,zh3,zbD,zbE,zbF,zh4,zh5,zbG,zbH]
def Hf (P:Params):Heap:=⟨⟨Hl P⟩,li⟩
theorem pre (w:World)(os:OsState):topGo treeTable pg w 11 an 12 ⟨boot_heap w.params,gs,boot_drawn,boot_toks,os⟩ (topStub pg)=some (⟨Ha w.params,gs,boot_drawn,187,os⟩,⟨denote treeTable cE,cE,⟨0,0,0,0⟩,B⟩):=by
 rw[PySem.W.Fast.te15667345088766844465,fk,PySem.W.Fast.te11892475500146522536];kernel_rfl
theorem zeV (w:World)(os:OsState):segRun treeTable pg w 11 an 1 1 ⟨Ha w.params,gs,boot_drawn,187,os⟩ (blockOf (behindTheImports pg) ev cE ⟨0,0,0,0⟩ B)=some (.next,(SharedT.abs ⟨Ta w.params,15,li,gs,boot_drawn,187,os⟩),cE,⟨0,0,0,0⟩):=by
 rw[PySem.W.Fast.te14374325043358763698,fk];kernel_rfl
def zdE:List Stmt:= [tp 0,tp 1,tp 2,tp 3,tp 4,tp 5,tp 6,tp 7,tp 8,tp 9,tp 10,tp 11,tp 12,tp 13,tp 14,tp 15,tp 16,tp 17,tp 18,tp 19,tp 20,tp 21,tp 22,tp 23,tp 24,tp 25,tp 26,tp 27,tp 28,tp 29,tp 30,tp 31,tp 32,tp 33,tp 34,tp 35,tp 36,tp 37,tp 38,tp 39,tp 40,tp 41,tp 42,tp 43,tp 44,tp 45,tp 46,tp 47,tp 48,tp 49]
def Qz (os:OsState)(w:World):Prop:=segRunT treeTable pg w 11 an 1 3189 ⟨Ta w.params,15,li,gs,boot_drawn,187,os⟩ (piecesOf zdE ev cE ⟨0,0,0,0⟩ B)=some (.next,⟨Tz w.params,399,li,gs,boot_drawn,736,os⟩,cE,⟨328,0,339,51⟩)
theorem zr3 (w:World)(os:OsState):Qz os (w.withFollow "special-get-raises" false):=by
 unfold Qz;rw[PySem.W.Fast.te10110043849684766642,fk];kernel_rfl
theorem zr4 (w:World)(os:OsState):Qz os (w.withFollow "special-get-raises" true):=by
 unfold Qz;rw[PySem.W.Fast.te10110043849684766642,fk];kernel_rfl
theorem zqq (w:World)(os:OsState):segRunT treeTable pg w 11 an 1 3189 ⟨Ta w.params,15,li,gs,boot_drawn,187,os⟩ (piecesOf zdE ev cE ⟨0,0,0,0⟩ B)=some (.next,⟨Tz w.params,399,li,gs,boot_drawn,736,os⟩,cE,⟨328,0,339,51⟩):=byRow2 "special-get-raises" (P:=Qz os) (λw=>zr3 w os) (λw=>zr4 w os) w
theorem fin (w:World)(os:OsState):topRun treeTable pg w 11 an 2 (SharedT.abs ⟨Tz w.params,399,li,gs,boot_drawn,736,os⟩) ⟨doneF .next,cE,⟨328,0,339,51⟩,B⟩=some ⟨Hf w.params,gs,boot_drawn,736,os⟩:=by
 rw[PySem.W.Fast.te14082659384304107361,fk];kernel_rfl
theorem run (w:World)(os:OsState):topRun treeTable pg w 11 an (12+(1+(3189+(2)))) ⟨boot_heap w.params,gs,boot_drawn,boot_toks,os⟩ (topStub pg)=some ⟨Hf w.params,gs,boot_drawn,736,os⟩:=
 go_top (pre w os) (piece_block (env:=ev) (b:=behindTheImports pg) (zeV w os) (piece_app (env:=ev) (l:=zdE) (segRun_of (zqq w os)) (piece_nil (env:=ev) (fin w os))))
def K (P:Params):Frag:=(nat_lit 2,boot_o_2 P)::(nat_lit 3,f3 P)::(nat_lit 15,cJ)::(nat_lit 22,a9)::(nat_lit 23,aK P)::(nat_lit 24,aS)::(nat_lit 25,f25)::(nat_lit 28,f28)::(nat_lit 35,f35)::(nat_lit 37,f37)::(nat_lit 38,f38)::(nat_lit 40,f40)::(nat_lit 41,f41)::(nat_lit 42,f42)::(nat_lit 43,f43 P)::(nat_lit 44,f44)::(nat_lit 47,f47)::(nat_lit 54,f54)::(nat_lit 56,f56)::(nat_lit 57,f57)::(nat_lit 59,f59)::(nat_lit 60,f60)::(nat_lit 61,f61)::(nat_lit 62,f62 P)::(nat_lit 63,f63)::(nat_lit 66,f66)::(nat_lit 73,f73)::(nat_lit 75,f75)::(nat_lit 76,f76)::(nat_lit 78,f78)::(nat_lit 79,f79)::(nat_lit 80,f80)::(nat_lit 81,f81 P)::(nat_lit 82,f82)::(nat_lit 85,f85)::(nat_lit 92,f92)::(nat_lit 94,f94)::(nat_lit 95,f95)::(nat_lit 97,f97)::(nat_lit 98,f98)::(nat_lit 99,f99)::(nat_lit 100,dP P)::(nat_lit 101,dQ)::(nat_lit 104,dR)::(nat_lit 111,dS)::(nat_lit 113,dU)::(nat_lit 114,dW)::(nat_lit 116,dX)::(nat_lit 117,dY)::(nat_lit 118,dZ)::(nat_lit 119,c0 P)::(nat_lit 120,c3)::(nat_lit 123,c4)::(nat_lit 130,c5)::(nat_lit 132,c6)::(nat_lit 133,c7)::(nat_lit 135,c8)::(nat_lit 136,cA)::(nat_lit 137,cC)::(nat_lit 138,cF P)::(nat_lit 139,cG)::(nat_lit 142,cH)::(nat_lit 149,cI)::(nat_lit 151,cK)::(nat_lit 152,cL)::(nat_lit 154,cM)::(nat_lit 155,cN)::(nat_lit 156,cO)::(nat_lit 157,cP P)::(nat_lit 158,cQ)::(nat_lit 161,cR)::(nat_lit 163,cS)::(nat_lit 164,cT)::(nat_lit 166,cU)::(nat_lit 167,cV)::(nat_lit 168,cW)::(nat_lit 170,cX)::(nat_lit 171,cY)::(nat_lit 173,cZ)::(nat_lit 174,b5)::(nat_lit 175,b6)::(nat_lit 177,b7)::(nat_lit 178,b8)::(nat_lit 180,b9)::(nat_lit 181,bA)::(nat_lit 182,bB)::(nat_lit 184,bC)::(nat_lit 185,bD)::(nat_lit 187,bE)::(nat_lit 188,bF)::(nat_lit 189,bG)::(nat_lit 192,bH)::(nat_lit 193,bI)::(nat_lit 194,bJ)::(nat_lit 197,bK)::(nat_lit 198,bL)::(nat_lit 199,bM P)::(nat_lit 200,bN)::(nat_lit 201,bO)::(nat_lit 202,bP)::(nat_lit 203,bQ)::(nat_lit 204,bR)::(nat_lit 205,bS)::(nat_lit 206,bT P)::(nat_lit 207,bU)::(nat_lit 208,bV)::(nat_lit 209,bW)::(nat_lit 210,bX)::(nat_lit 212,bY)::(nat_lit 213,bZ)::(nat_lit 215,a5)::(nat_lit 216,a6)::(nat_lit 217,a7)::(nat_lit 219,a8)::(nat_lit 220,aA)::(nat_lit 222,aB)::(nat_lit 223,aC)::(nat_lit 224,aF)::(nat_lit 227,aG)::(nat_lit 228,aI)::(nat_lit 229,aJ)::(nat_lit 231,aL)::(nat_lit 232,aM)::(nat_lit 234,aN)::(nat_lit 235,aO)::(nat_lit 236,aP)::(nat_lit 238,aQ)::(nat_lit 239,aR)::(nat_lit 241,aT)::(nat_lit 242,aU)::(nat_lit 243,aV)::(nat_lit 245,aW)::(nat_lit 246,aX)::(nat_lit 248,aY)::(nat_lit 249,aZ)::(nat_lit 250,zab)::(nat_lit 252,zac)::(nat_lit 253,zad)::(nat_lit 255,zae)::(nat_lit 256,zaf)::(nat_lit 257,zag)::(nat_lit 260,zah)::(nat_lit 261,zai)::(nat_lit 262,zaj)::(nat_lit 264,zak)::(nat_lit 265,zal)::(nat_lit 267,zam)::(nat_lit 268,zan)::(nat_lit 269,zao)::(nat_lit 271,zap)::(nat_lit 272,zaq)::(nat_lit 274,zar)::(nat_lit 275,zas)::(nat_lit 276,zat)::(nat_lit 278,zau)::(nat_lit 279,zav)::(nat_lit 281,zax)::(nat_lit 282,zay)::(nat_lit 283,zaz)::(nat_lit 286,za0)::(nat_lit 287,za1)::(nat_lit 288,za2)::(nat_lit 290,za3)::(nat_lit 291,za4)::(nat_lit 293,za5)::(nat_lit 294,za6)::(nat_lit 295,za7)::(nat_lit 297,za8)::(nat_lit 298,za9)::(nat_lit 300,za_)::(nat_lit 301,zaA)::(nat_lit 302,zaB)::(nat_lit 305,zaC)::(nat_lit 306,zaD)::(nat_lit 307,zaE)::(nat_lit 309,zaF)::(nat_lit 310,zaG)::(nat_lit 312,zaH)::(nat_lit 313,zaI)::(nat_lit 314,zaJ)::(nat_lit 316,zaK)::(nat_lit 317,zaL)::(nat_lit 319,zaM)::(nat_lit 320,zaN)::(nat_lit 321,zaO)::(nat_lit 323,zaP)::(nat_lit 324,zaQ)::(nat_lit 326,zaR)::(nat_lit 327,zaS)::(nat_lit 328,zaT)::(nat_lit 330,zaU)::(nat_lit 331,zaV)::(nat_lit 333,zaW)::(nat_lit 334,zaX)::(nat_lit 335,zaY)::(nat_lit 338,zaZ)::(nat_lit 339,zba)::(nat_lit 340,zbb)::(nat_lit 342,zbc)::(nat_lit 343,zbd)::(nat_lit 345,zbe)::(nat_lit 346,zbf)::(nat_lit 347,zbg)::(nat_lit 349,zbh)::(nat_lit 350,zbj)::(nat_lit 352,zbk)::(nat_lit 353,zbl)::(nat_lit 354,zbm)::(nat_lit 356,zbn)::(nat_lit 357,zbo)::(nat_lit 359,zbp)::(nat_lit 360,zbq)::(nat_lit 361,zbr)::(nat_lit 363,zbs)::(nat_lit 364,zbt)::(nat_lit 366,zbu)::(nat_lit 367,zbv)::(nat_lit 368,zbw)::(nat_lit 370,zby)::(nat_lit 371,zbz)::(nat_lit 373,zb0)::(nat_lit 374,zb1)::(nat_lit 375,zb2)::(nat_lit 377,zb3)::(nat_lit 378,zb4)::(nat_lit 380,zb6)::(nat_lit 381,zb7)::(nat_lit 382,zb8)::(nat_lit 385,zb9)::(nat_lit 386,zb_)::(nat_lit 387,zbA)::(nat_lit 389,zbB)::(nat_lit 390,zbC)::(nat_lit 392,zbD)::(nat_lit 393,zbE)::(nat_lit 394,zbF)::(nat_lit 397,zbG)::(nat_lit 398,zbH):: []
abbrev hk:Hook:=kmHook K [2,3,15,22,23,24,25,28,35,37,38,40,41,42,43,44,47,54,56,57,59,60,61,62,63,66,73,75,76,78,79,80,81,82,85,92,94,95,97,98,99,100,101,104,111,113,114,116,117,118,119,120,123,130,132,133,135,136,137,138,139,142,149,151,152,154,155,156,157,158,161,163,164,166,167,168,170,171,173,174,175,177,178,180,181,182,184,185,187,188,189,192,193,194,197,198,199,200,201,202,203,204,205,206,207,208,209,210,212,213,215,216,217,219,220,222,223,224,227,228,229,231,232,234,235,236,238,239,241,242,243,245,246,248,249,250,252,253,255,256,257,260,261,262,264,265,267,268,269,271,272,274,275,276,278,279,281,282,283,286,287,288,290,291,293,294,295,297,298,300,301,302,305,306,307,309,310,312,313,314,316,317,319,320,321,323,324,326,327,328,330,331,333,334,335,338,339,340,342,343,345,346,347,349,350,352,353,354,356,357,359,360,361,363,364,366,367,368,370,371,373,374,375,377,378,380,381,382,385,386,387,389,390,392,393,394,397,398] (λ_=>by kernel_rfl) []
def q:Program:= {pg with main:= {pg.main with body:= [tp 1,tp 2,tp 3,tp 4,tp 5,tp 6,tp 7,tp 8,tp 10,tp 11,tp 12,tp 13,tp 15,tp 16,tp 18,tp 19,tp 20,tp 21,tp 22,tp 23,tp 24,tp 25,tp 26,tp 27,tp 28,tp 29,tp 30,tp 31,tp 33,tp 34,tp 35,tp 36,tp 37,tp 38,tp 39,tp 40,tp 41,tp 42,tp 43,tp 44,tp 45,tp 46,tp 47,tp 48,tp 49]}}
abbrev Xt (s:Shared):Bool:=xlAt q [] s&&recOk (RowW.records (OpenRow.toRowW (PySem.Challenge.rw_copiedhouse_k17_programs_let_by).row)) s
theorem sz (w:World):((boot_heap w.params).isNs mainGlobals&&gs.size==0,(boot_heap w.params).objs.size,(boot_heap w.params).nsMap mainGlobals "__annotations__")=(true,11,an):=by
 rw[PySem.W.Fast.te8920871248978507458];kernel_rfl
theorem lk1 (w:World)(os:OsState):(staticsOk (importedModules pg.main.body) (boot_heap w.params) (Hf w.params)&&namesBound pg (Hf w.params)&&gensDone ⟨Hf w.params,gs,boot_drawn,736,os⟩&&laidKept (boot_heap w.params) (Hf w.params))=true:=by
 rw[PySem.W.Fast.te5923862056798008813];kernel_rfl
theorem lk2 (w:World)(os:OsState):openSeen q ["MANNERS_OF_DEEDS","MANNERS_OF_TERMS"] (importedModules pg.main.body) Xt true ⟨Hf w.params,gs,boot_drawn,736,os⟩=openGood q ["MANNERS_OF_DEEDS","MANNERS_OF_TERMS"]:=by
 rw[PySem.W.Fast.te4187177175401517315,PySem.W.Fast.te5923862056798008813];kernel_rfl
theorem lk3 (w:World)(os:OsState):Hook.obs hk ⟨Hf w.params,gs,boot_drawn,736,os⟩=Hook.val hk w:=by kernel_rfl
theorem left:LeftO pg q ["MANNERS_OF_DEEDS","MANNERS_OF_TERMS"] Xt (Hook.obs hk) (Hook.val hk) 6502:=LeftO.of_pieces (H₀:=boot_heap) (H₁:=Hf) (M:=12+(1+(3189+(2)))) (boot_open rfl rfl λ_=>rfl) sz run (by decide) λw=>funext λos=>looks_pair (lk1 w os) (looks_pair (lk2 w os) (lk3 w os))
theorem ws:(PySem.Challenge.rw_copiedhouse_k17_programs_let_by).wellSaid=true:=by kernel_rfl
end
end Hd
namespace L2
open PySem PySem.Spec PyProof.Rows
section
variable {κ:Type} [DecidableEq κ]
def wJ (kvs:List (κ×V))(k:κ):Option V:=(kvs.find? λkv=>decide (kv.1=k)).map (·.2)
def wC (kvs:List (κ×V))(k:κ)(v:V):List (κ×V):=
 if(kvs.any λkv=>decide (kv.1=k))=true then kvs.map (λkv=>if kv.1=k then(kv.1,v)else kv)else kvs++ [(k,v)]
def oH (kvs:List (κ×V))(k:κ):List (κ×V):=kvs.filter λkv=>decide (kv.1≠k)
theorem lX {p:κ×V}{r:List (κ×V)}{k:κ}(e:p.1=k):wJ (p::r) k=some p.2:=by simp[wJ,ci,e]
theorem lW {p:κ×V}{r:List (κ×V)}{k:κ}(e: ¬ p.1=k):wJ (p::r) k=wJ r k:=by simp[wJ,ci,e]
theorem zlo (k:κ): ∀kvs:List (κ×V),(kvs.any λkv=>decide (kv.1=k))=(wJ kvs k).isSome
 | []=>rfl
 | p::r=>by
  rw[ij];by_cases e:p.1=k
  ·simp only[lX e,decide_eq_true e,Bool.true_or,Option.isSome_some]
  ·rw[lW e,decide_eq_false e,Bool.false_or];exact zlo k r
theorem jN (kvs:List (κ×V))(k:κ)(v:V):(wC kvs k v).length<=kvs.length+1:=by
 unfold wC
 split
 ·rw[ac];omega
 ·rw[ai,bq,kq];omega
theorem uY.isSome_eq {o:Option V}{u:Option Value}(r:uY o u):o.isSome=u.isSome:=by
 cases o with
 | none=>cases u with
  | none=>rfl
  | some _=>exact(show False from r).elim
 | some _=>cases u with
  | none=>exact(show False from r).elim
  | some _=>rfl
theorem KV.val {kvs:List (κ×V)}{vs:List (κ×Value)}(r:KV kvs vs)(k:κ):uY (wJ kvs k) (valueAt vs k):=by
 unfold KV at r
 induction r with
 | nil=>exact True.intro
 | @cons p q ps qs h t ih=>
  obtain⟨h1,h2⟩:=h;by_cases e:p.1=k
  ·have e':q.1=k:=h1.symm.trans e
   have b:valueAt (q::qs) k=some q.2:=by simp[valueAt,ci,e']
   rw[lX e,b];exact h2
  ·have e': ¬ q.1=k:=λz=>e (h1.trans z)
   have b:valueAt (q::qs) k=valueAt qs k:=by simp[valueAt,ci,e']
   rw[lW e,b];exact ih
theorem KV.any {kvs:List (κ×V)}{vs:List (κ×Value)}(r:KV kvs vs)(k:κ):(kvs.any λkv=>decide (kv.1=k))=vs.any λkv=>decide (kv.1=k):=by
 unfold KV at r
 induction r with
 | nil=>rfl
 | cons h t ih=>rw[ij,ij,ih,h.1]
theorem KV.repl {kvs:List (κ×V)}{vs:List (κ×Value)}(r:KV kvs vs)(k:κ){y:V}{u:Value}(ry:zN y u):
  KV (kvs.map λkv=>if kv.1=k then(kv.1,y)else kv) (vs.map λkv=>if kv.1=k then(kv.1,u)else kv):=by
 unfold KV at r⊢
 induction r with
 | nil=>exact .nil
 | @cons p q ps qs h t ih=>
  rw[am,am];refine .cons ?_ ih;obtain⟨h1,h2⟩:=h;by_cases e:p.1=k
  ·rw[if_pos e,if_pos (h1.symm.trans e)];exact⟨h1,ry⟩
  ·rw[if_neg e,if_neg (λz=>e (h1.trans z))];exact⟨h1,h2⟩
theorem KV.put {kvs:List (κ×V)}{vs:List (κ×Value)}(r:KV kvs vs)(k:κ){y:V}{u:Value}(ry:zN y u):KV (wC kvs k y) (stored vs k u):=by
 unfold wC stored;rw[r.any k];by_cases e:(vs.any λkv=>decide (kv.1=k))=true
 ·rw[if_pos e,if_pos e];exact r.repl k ry
 ·rw[if_neg e,if_neg e];exact Paired.snoc r ⟨rfl,ry⟩
theorem KV.drop {kvs:List (κ×V)}{vs:List (κ×Value)}(r:KV kvs vs)(k:κ):KV (oH kvs k) (without vs k):=by
 unfold KV at r⊢
 unfold oH without
 induction r with
 | nil=>exact .nil
 | @cons p q ps qs h t ih=>
  obtain⟨h1,h2⟩:=h;rw[jj,jj];by_cases e:p.1=k
  ·have a: ¬ decide (p.1≠k)=true:=by simp[e]
   have b: ¬ decide (q.1≠k)=true:=by simp[h1.symm.trans e]
   rw[if_neg a,if_neg b];exact ih
  ·have e': ¬ q.1=k:=λz=>e (h1.trans z)
   have a:decide (p.1≠k)=true:=by simp[e]
   have b:decide (q.1≠k)=true:=by simp[e']
   rw[if_pos a,if_pos b];exact .cons ⟨h1,h2⟩ ih
theorem KV.length {kvs:List (κ×V)}{vs:List (κ×Value)}(r:KV kvs vs):kvs.length=vs.length:=ii r
theorem zf1 (kvs:List (κ×V))(k:κ):(oH kvs k).length<=kvs.length:=nj _ _
end
theorem sP {P:Program}{w:World}{k:z6}{u:Value}(r:zN (kV k) u):(xB P w).is k u=true:=by
 cases k with
 | inl i=>obtain⟨t,e⟩:=(show ∃t,u=Value.int i t from r);subst e;exact zoL P w i t
 | inr x=>obtain⟨t,e⟩:=(show ∃t,u=Value.str x t from r);subst e;exact zcF P w x t
theorem zi2 {P:Program}{w:World} : ∀{ks:List z6} {us:List Value},zJ (ks.map kV) us->ItemsAre (xB P w) ks us
 | [],_,r=>by rw[ic]at r;cases r;exact .nil
 | k::ks,_,r=>by
  rw[am]at r;cases r with
  | cons h t=>exact .cons (sP h) (zi2 t)
abbrev KT (H:Hp):List (List z6×V)->List (List z6×Addr×Value)->Prop:=Paired λp q=>p.1=q.1/\H q.2.1=some (.tup (p.1.map kV))/\zN p.2 q.2.2
theorem KT.val {H:Hp}{kvs:List (List z6×V)}{xs:List (List z6×Addr×Value)}(r:KT H kvs xs)(k:List z6):uY (wJ kvs k) ((atKey xs k).map (·.2)):=by
 induction r with
 | nil=>exact True.intro
 | @cons p q ps qs h t ih=>
  obtain⟨h1,_,h2⟩:=h;by_cases e:p.1=k
  ·have e':q.1=k:=h1.symm.trans e
   have b:atKey (q::qs) k=some q.2:=by simp[atKey,ci,e']
   rw[lX e,b];exact h2
  ·have e': ¬ q.1=k:=λz=>e (h1.trans z)
   have b:atKey (q::qs) k=atKey qs k:=by simp[atKey,ci,e']
   rw[lW e,b];exact ih
theorem KT.repl {H:Hp}{kvs:List (List z6×V)}{xs:List (List z6×Addr×Value)}(r:KT H kvs xs)(k:List z6){y:V}{u:Value}(ry:zN y u):
  KT H (kvs.map λkv=>if kv.1=k then(kv.1,y)else kv) (xs.map (putAt k u)):=by
 induction r with
 | nil=>exact .nil
 | @cons p q ps qs h t ih=>
  rw[am,am];refine .cons ?_ ih;obtain⟨h1,h2,h3⟩:=h;unfold putAt;by_cases e:p.1=k
  ·rw[if_pos e,if_pos (h1.symm.trans e)];exact⟨h1,h2,ry⟩
  ·rw[if_neg e,if_neg (λz=>e (h1.trans z))];exact⟨h1,h2,h3⟩
theorem KT.put {H:Hp}{kvs:List (List z6×V)}{xs:List (List z6×Addr×Value)}(r:KT H kvs xs)(k:List z6){b:Addr}{y:V}{u:Value}(hb:H b=some (.tup (k.map kV)))(ry:zN y u):
  KT H (wC kvs k y) (storedH xs k b u):=by
 have e:(kvs.any λkv=>decide (kv.1=k))=(atKey xs k).isSome:=by
  rw[zlo,(r.val k).isSome_eq,qd]
 unfold wC storedH;rw[e];by_cases q:(atKey xs k).isSome=true
 ·rw[if_pos q,if_pos q];exact r.repl k ry
 ·rw[if_neg q,if_neg q];exact Paired.snoc r ⟨rfl,hb,ry⟩
theorem KT.keeps {H H':Hp}{kvs:List (List z6×V)}{xs:List (List z6×Addr×Value)}(r:KT H kvs xs)(ht: ∀b ys,H b=some (.tup ys)->H' b=some (.tup ys)):KT H' kvs xs:=
 Paired.mapP r λ_ _ z=>⟨z.1,ht _ _ z.2.1,z.2.2⟩
section
variable {P:Program} {w:World} {H:Hp} {h:Heap} {a:Addr}
theorem zjV {u:HO}(ok:x6 P w H h)(e:Rd H a u):xR P w H h a u:=e.ok ok
theorem oF {kvs:List (z6×V)}(ok:x6 P w H h)(e:Rd H a (.dK kvs)):kvs.length<=sizeLine/\(a==sysModules)=false/\∃vs,KV kvs vs/\h.DictOf (xB P w) a vs:=
 show xR P w H h a (.dK kvs)from zjV ok e
theorem oE {kvs:List (z6×V)}(ok:x6 P w H h)(e:H a=some (.dK kvs)):kvs.length<=sizeLine/\(a==sysModules)=false/\∃vs,KV kvs vs/\h.DictOf (xB P w) a vs:=oF ok (.inl e)
theorem mQ {ks:List z6}(ok:x6 P w H h)(e:H a=some (.tup (ks.map kV))):(tupleKind (xB P w)).is h ks a:=by
 obtain⟨_,its,r,o,h1,h2,n,h3,_⟩:=(show xR P w H h a (.tup (ks.map kV))from ok a _ e);exact⟨o,its.toArray,n,h1,h2,h3,by simpa using zi2 r⟩
theorem mM {kvs:List (List z6×V)}(ok:x6 P w H h)(e:Rd H a (.dT kvs)):kvs.length<=sizeLine/\(a==sysModules)=false/\
  ∃xs,KT H kvs xs/\h.DictOfH (tupleKind (xB P w)) a xs:=by
 obtain⟨z,y,xs,r,o,es,ep,h1,h2,h3,h4,h5⟩:=(show xR P w H h a (.dT kvs)from zjV ok e);refine⟨z,y,xs,r,o,es,ep,h1,h2,h3,h4,λx hx=> ?_,h5⟩;have all: ∀{l:List (List z6×V)} {m:List (List z6×Addr×Value)},KT H l m->∀x∈m,(tupleKind (xB P w)).is h x.1 x.2.1:=by
  intro l m q
  induction q with
  | nil=>intro x hx;exact nomatch hx
  | @cons p q ps qs hq t ih=>
   intro x hx;rcases az.mp hx with e | hx
   ·subst e
    exact mQ ok (by rw[<- hq.1];exact hq.2.1)
   ·exact ih x hx
 exact all r x hx
theorem zni {kvs:List (List z6×V)}(ok:x6 P w H h)(e:H a=some (.dT kvs)):kvs.length<=sizeLine/\(a==sysModules)=false/\
  ∃xs,KT H kvs xs/\h.DictOfH (tupleKind (xB P w)) a xs:=mM ok (.inl e)
end
def nY (H:Hp)(a:Addr)(y:V)(r:Option V):Prop:=
 (∃kvs k,Rd H a (.dK kvs)/\y=kV k/\r=wJ kvs k)∨∃kvs k b,Rd H a (.dT kvs)/\y= .ref b/\H b=some (.tup (k.map kV))/\r=wJ kvs k
def zlv (H:Hp)(a:Addr)(y v:V)(H':Hp):Prop:=
 (∃kvs k,H a=some (.dK kvs)/\y=kV k/\kvs.length < sizeLine/\H'=upd H a (.dK (wC kvs k v)))∨
 ∃kvs k b,H a=some (.dT kvs)/\y= .ref b/\H b=some (.tup (k.map kV))/\kvs.length < sizeLine/\H'=upd H a (.dT (wC kvs k v))
section
variable {X:Cx} {pins:List (Addr×Obj)} {σ:St} {H:Hp} {s:Shared} {a:Addr} {y v:V} {u r:Value} {o:Option V} {A:Around} {E:Value->Shared->Prop}
theorem z5.big (I:z5 X pins σ H s):sysModules < s.heap.objs.size:=by
 have h:mainGlobals < s.heap.objs.size:=(I.mod.glob.keeps I.bk).lt;exact ie (by decide) h
theorem zmX {Q:Value->Shared->Prop}(hu:A.units+1 < cLine)(I:z5 X pins σ H s)(g:nY H a y (some v))(ry:zN y u)(h: ∀w' s',z5 X pins σ H s'->zN v w'->Q w' s'):
  ak (ay X.prog X.w) A (getItem (.ref a) u) Q E s:=by
 rcases g with⟨kvs,k,e,ey,l⟩ | ⟨kvs,k,b,e,ey,eb,l⟩
 ·subst ey
  obtain⟨z,hd,vs,rel,dd⟩:=oF I.hok e;obtain⟨w',hw,rw'⟩:=uY.some_of (v:=v) (o:=valueAt vs k) (by rw[l];exact rel.val k);exact wpAny_getItem_of (sP ry) dd.mapOf hw (h w' _ (I.tok _) rw')
 ·subst ey
  cases(show u=Value.ref b from ry);obtain⟨z,hd,xs,rel,dd⟩:=mM I.hok e;obtain⟨w',hw,rw'⟩:=uY.some_of (v:=v) (o:=(atKey xs k).map (·.2)) (by rw[l];exact rel.val k);obtain⟨p,hp,hp2⟩:=Option.map_eq_some_iff.mp hw;refine wpAny_getItem_heap (ma hu) (mQ I.hok eb) dd hp ?_;rw[hp2];exact h w' _ (I.tok _) rw'
theorem zmY {Q:Value->Shared->Prop}(hu:A.units+1 < cLine)(I:z5 X pins σ H s)(g:nY H a y o)(ry:zN y u)(h: ∀s',z5 X pins σ H s'->Q (.bool o.isSome) s'):
  ak (ay X.prog X.w) A (compareOp .In u (.ref a)) Q E s:=by
 rcases g with⟨kvs,k,e,ey,l⟩ | ⟨kvs,k,b,e,ey,eb,l⟩
 ·subst ey
  obtain⟨z,hd,vs,rel,dd⟩:=oF I.hok e;refine wpAny_in_of (sP ry) hd dd.mapOf ?_;rw[<- (rel.val k).isSome_eq,<- l];exact h _ (I.tok _)
 ·subst ey
  cases(show u=Value.ref b from ry);obtain⟨z,hd,xs,rel,dd⟩:=mM I.hok e;refine wpAny_in_heap (ma hu) (mQ I.hok eb) hd dd ?_;have q:=(rel.val k).isSome_eq;rw[qd]at q;rw[<- q,<- l];exact h _ (I.tok _)
theorem zna {Q:Value->Shared->Prop}(hu:A.units+1 < cLine)(I:z5 X pins σ H s)(g:nY H a y o)(ry:zN y u)(h: ∀s',z5 X pins σ H s'->Q (.bool (!o.isSome)) s'):
  ak (ay X.prog X.w) A (compareOp .NotIn u (.ref a)) Q E s:=by
 rcases g with⟨kvs,k,e,ey,l⟩ | ⟨kvs,k,b,e,ey,eb,l⟩
 ·subst ey
  obtain⟨z,hd,vs,rel,dd⟩:=oF I.hok e;refine wpAny_notIn_of (sP ry) hd dd.mapOf ?_;rw[<- (rel.val k).isSome_eq,<- l];exact h _ (I.tok _)
 ·subst ey
  cases(show u=Value.ref b from ry);obtain⟨z,hd,xs,rel,dd⟩:=mM I.hok e;refine wpAny_notIn_heap (ma hu) (mQ I.hok eb) hd dd ?_;have q:=(rel.val k).isSome_eq;rw[qd]at q;rw[<- q,<- l];exact h _ (I.tok _)
theorem mL {h':Heap}{t':Nat}{ob:HO}(I:z5 X pins σ H s)(mu:mB (H a))(hs:Heap.SameBut a s.heap h')(he: ∃q,h'.get? a=some q)(new:xR X.prog X.w (upd H a ob) h' a ob):
  z5 X pins σ (upd H a ob) {s with heap:=h',toks:=t'} :=
 I.write (x:=a) (e:=a) mu (.inl rfl) (λb q hb z=>(hs.2 b hb).trans z) he new
theorem oB {P:Program}{w:World}{H':Hp}{h':Heap}{kvs:List (z6×V)}{vs:List (z6×Value)}(z:kvs.length<=sizeLine)(hd:(a==sysModules)=false)(rel:KV kvs vs)(dd:h'.DictOf (xB P w) a vs):
  xR P w H' h' a (.dK kvs):=⟨z,hd,vs,rel,dd⟩
theorem zfs {H':Hp}{Q:Unit->Shared->Prop}(hu:A.units+1 < cLine)(I:z5 X pins σ H s)(g:zlv H a y v H')(ry:zN y u)(rv:zN v r)(h: ∀s',z5 X pins σ H' s'->Q () s'):
  ak (ay X.prog X.w) A (setItem (.ref a) u r) Q E s:=by
 rcases g with⟨kvs,k,e,ey,l,eH⟩ | ⟨kvs,k,b,e,ey,eb,l,eH⟩
 ·subst ey eH
  obtain⟨z,hd,vs,rel,dd⟩:=oE I.hok e;have hz:vs.length<=sizeLine:=by rw[<- rel.length];exact z
  have hl:(wC kvs k v).length<=sizeLine:=by have:=jN kvs k v;omega
  refine wpAny_setItem_pairs (hsz:=hz) (sP ry) dd λh' dd' hs=>h _ ?_;have he: ∃q,h'.get? a=some q:=let⟨q,_,_,hq,_⟩:=dd';⟨q,hq⟩;exact mL I (by rw[e];exact True.intro) hs he (oB hl hd (rel.put k rv) dd')
 ·subst ey eH
  cases(show u=Value.ref b from ry);obtain⟨z,hd,xs,rel,dd⟩:=zni I.hok e;have hz:xs.length<=sizeLine:=by rw[<- ii rel];exact z
  have hl:(wC kvs k v).length<=sizeLine:=by have:=jN kvs k v;omega
  refine wpAny_setItem_heap (hsz:=hz) (ma hu) (mQ I.hok eb) dd λh' dd' hs=>h _ ?_;obtain⟨q,es,ep,hq,h2,h3,h4,_,h5⟩:=dd';refine mL I (by rw[e];exact True.intro) hs ⟨q,hq⟩ ⟨hl,hd,_,(rel.put k eb rv).keeps λc ys ec=> ?_,q,es,ep,hq,h2,h3,h4,h5⟩;rw[yN (zph ec e (λz=>nomatch z))];exact ec
end
section
variable {X:Cx} {pins:List (Addr×Obj)} {σ:St} {H:Hp} {s:Shared} {a:Addr} {kvs:List (z6×V)} {k:z6} {u:Value} {A:Around} {E:Value->Shared->Prop}
theorem znb {v:V}{more:List Value}{Q:Value->Shared->Prop}(I:z5 X pins σ H s)(e:H a=some (.dK kvs))(ry:zN (kV k) u)(l:wJ kvs k=some v)(hm:more= []∨∃x,more= [x])
  (h: ∀w' s',z5 X pins σ (upd H a (.dK (oH kvs k))) s'->zN v w'->Q w' s'):ak (ay X.prog X.w) A (call (.builtin "dict.pop") (.ref a::u::more)) Q E s:=by
 obtain⟨z,hd,vs,rel,dd⟩:=oE I.hok e;obtain⟨w',hw,rw'⟩:=uY.some_of (v:=v) (o:=valueAt vs k) (by rw[<- l];exact rel.val k);have hp:(keyPart u).isSome=true:=by
  cases k with
  | inl i=>obtain⟨t,q⟩:=(show ∃t,u=Value.int i t from ry);subst q;rfl
  | inr x=>obtain⟨t,q⟩:=(show ∃t,u=Value.str x t from ry);subst q;rfl
 have ha:argsOk "dict.pop" ⟨.ref a::u::more,[]⟩:=by
  rcases hm with q | ⟨x,q⟩
  ·subst q;exact PySem.F.args_dict_pop_2 _ _
  ·subst q;exact PySem.F.args_dict_pop_3 _ _ _
 refine call_meetsIn uf dd.typeIs PySem.F.entry_dict_pop ha (meets_dict_pop_there (xB X.prog X.w) a (sP ry) more hm hp)
  ⟨vs,w',dd,by rw[<- rel.length];exact z,hw,λh' dd' hs=>h w' _ ?_ rw'⟩
 have he: ∃q,h'.get? a=some q:=let⟨q,_,_,hq,_⟩:=dd';⟨q,hq⟩;exact mL I (by rw[e];exact True.intro) hs he (oB (bf (zf1 kvs k) z) hd (rel.drop k) dd')
theorem zmZ {Q:Value->Shared->Prop}(I:z5 X pins σ H s)(e:Rd H a (.dK kvs))(h: ∀t s',z5 X pins σ H s'->Q (.int kvs.length t) s'):ak (ay X.prog X.w) A (call (.builtin "len") [.ref a]) Q E s:=by
 obtain⟨z,hd,vs,rel,dd⟩:=oF I.hok e;refine call_len_dict hd dd (by rw[<- rel.length];rw[cx]at z;omega) ?_;rw[<- rel.length];exact h _ _ (I.tok _)
end
theorem znf {X:Cx}{pins:List (Addr×Obj)}{σ:St}{H:Hp}{s:Shared}{a:Addr}{y:V}{o:Option V}(I:z5 X pins σ H s)(g:nY H a y o):s.TypeIs (.ref a) "dict" :=by
 rcases g with⟨kvs,k,e,_,_⟩ | ⟨kvs,k,b,e,_,_,_⟩
 ·obtain⟨_,_,vs,_,dd⟩:=oF I.hok e
  exact dd.typeIs
 ·obtain⟨_,_,xs,_,dd⟩:=mM I.hok e
  exact dd.typeIs
section
variable {X:Cx} {o i e value:Expr} {pos pos' tpos:Pos} {td ty tv:TE}
end
theorem zfu {P:Program}{w:World}{H:Hp}(h:Heap)(hb:sysModules < h.objs.size):xR P w H (h.push {cls:= .type "dict",data:= .dict #[]}) h.objs.size (.dK []):=
 ⟨dg _,beq_eq_false_iff_ne.mpr (dk (bb hb)),[],.nil,su h⟩
def zdI:TE:=λ_ H Q=> ∀p,H p=none->Q (.ref p) (upd H p (.dK []))
section
variable {X:Cx} {pos:Pos}
theorem zcP:PE X (.Dict [] [] pos) zdI:=⟨λpins s σ H Q I h=>
 wpAny_Dict_empty ⟨.ref s.heap.objs.size,_,I.laid (a:=s.heap.objs.size) (o:= .dK []) (t':=s.toks) (λ_ _ q=>ae _ q) (ao _) (zfu s.heap I.big),rfl,h _ (I.hok.fresh (ao _))⟩⟩
end
def f6:List (TE×TE)->St->Hp->(List (V×V)->Hp->Prop)->Prop
 | [],_,H,Q=>Q [] H
 | (tk,tv)::r,σ,H,Q=>tk σ H λx H1=>tv σ H1 λy H2=>f6 r σ H2 λps H3=>Q ((x,y)::ps) H3
abbrev VV:List (V×V)->List (Value×Value)->Prop:=Paired λp q=>zN p.1 q.1/\zN p.2 q.2
def qA (X:Cx)(pos:Pos)(keys:List (Option Expr))(values:List Expr)(trs:List (TE×TE)):Prop:=
 ∀(pins:List (Addr×Obj)) (s:Shared) (σ:St) (H:Hp) (Q:List (V×V)->Hp->Prop),z5 X pins σ H s->f6 trs σ H Q->
  ak (ay X.prog X.w) X.A (evalPairs (pairTrees keys values X.env pos)) (λvs s'=> ∃ps H',z5 X pins σ H' s'/\VV ps vs/\Q ps H') X.xe s
theorem zqV {X:Cx}{pos:Pos} :qA X pos [] [] []:=λpins s σ H Q I h=>pairTrees_nil_walk ⟨[],H,I,.nil,h⟩
theorem zqU {X:Cx}{pos:Pos}{k v:Expr}{ks:List (Option Expr)}{vs:List Expr}{tk tv:TE}{trs:List (TE×TE)}(hk:PE X k tk)(hv:PE X v tv)(hr:qA X pos ks vs trs):
  qA X pos (some k::ks) (v::vs) ((tk,tv)::trs):=λpins s σ H Q I h=>
 pairTrees_cons_walk (zM (hk pins s σ H _ I h) λu s1 ⟨x,H1,I1,rx,q1⟩=>zM (hv pins s1 σ H1 _ I1 q1) λw2 s2 ⟨y,H2,I2,ry,q2⟩=>
  zM (hr pins s2 σ H2 _ I2 q2) λws s3 ⟨ps,H3,I3,rel,q3⟩=>⟨(x,y)::ps,H3,I3,.cons ⟨rx,ry⟩ rel,q3⟩)
def vS (kvs more:List (z6×V)):List (z6×V):=more.foldl (λacc kv=>wC acc kv.1 kv.2) kvs
theorem KV.merge: ∀{more:List (z6×V)} {rs:List (z6×Value)} {kvs:List (z6×V)} {vs:List (z6×Value)},KV more rs->KV kvs vs->KV (vS kvs more) (merged vs rs):=by
 intro more rs kvs vs r;unfold KV at r
 induction r generalizing kvs vs with
 | nil=>intro q;exact q
 | @cons p q ps qs h t ih=>
  intro r0;have e:KV (wC kvs p.1 p.2) (stored vs q.1 q.2):=by
   have:=r0.put p.1 h.2;rw[<- h.1];exact this
  exact ih e
theorem oR: ∀(more kvs:List (z6×V)),(vS kvs more).length<=kvs.length+more.length
 | [],kvs=>by show kvs.length<=kvs.length+0;omega
 | p::r,kvs=>by
  have h1:=oR r (wC kvs p.1 p.2);have h2:=jN kvs p.1 p.2;show(vS (wC kvs p.1 p.2) r).length<=_;rw[bq];omega
theorem zfg {P:Program}{w:World} : ∀{kvs:List (z6×V)} {ws:List (Value×Value)},VV (kvs.map λkv=>(kV kv.1,kv.2)) ws->∃rs,Carries (xB P w) ws rs/\KV kvs rs
 | [],_,r=>by rw[ic]at r;cases r;exact⟨[],True.intro,.nil⟩
 | p::kvs,_,r=>by
  rw[am]at r;cases r with
  | @cons a b as bs h t=>
   obtain⟨rs,c,q⟩:=zfg (P:=P) (w:=w) t;obtain⟨b1,b2⟩:=b;exact⟨(p.1,b2)::rs,⟨sP h.1,rfl,c⟩,.cons ⟨rfl,h.2⟩ q⟩
def zsN (trs:List (TE×TE)):TE:=λσ H Q=> ∀p,H p=none->f6 trs σ (upd H p (.dK [])) λps H2=>H2 p=some (.dK [])/\∃kvs:List (z6×V),ps=kvs.map (λkv=>(kV kv.1,kv.2))/\kvs.length<=15/\Q (.ref p) (upd H2 p (.dK (vS [] kvs)))
theorem zqz {X:Cx}{pos:Pos}{keys:List (Option Expr)}{values:List Expr}{trs:List (TE×TE)}(h:qA X pos keys values trs)(hall:keys.all (·.isSome)=true)(hl:keys.length=values.length)(h0:keys≠ [])
  (h15:keys.length<=15):PE X (.Dict keys values pos) (zsN trs):=by
 (first | refine⟨?_⟩ | skip)
 intro pins s σ H Q I q;have hn:=I.hok.fresh (ao s.heap.objs.size);have I1:=I.laid (a:=s.heap.objs.size) (o:= .dK []) (h':=s.heap.push {cls:= .type "dict",data:= .dict #[]}) (t':=s.toks) (λ_ _ q=>ae _ q) (ao _) (zfu s.heap I.big);refine wpAny_Dict_walk (knd:=xB X.prog X.w) hall hl h0 h15 (zM (h pins _ σ _ _ I1 (q _ hn)) λws s2 ⟨ps,H2,I2,rel,e,kvs,ep,lk,q2⟩=> ?_);subst ep;obtain⟨rs,c,rk⟩:=zfg (P:=X.prog) (w:=X.w) rel;obtain⟨z,hd,vs0,r0,dd⟩:=oE I2.hok e;cases r0;refine⟨rs,c,dd,λh' dd' hs=>⟨.ref s.heap.objs.size,_,?_,rfl,q2⟩⟩;have hz:(vS [] kvs).length<=sizeLine:=by
  have h1:=oR kvs [];rw[kq]at h1;rw[cx];omega
 have he: ∃q,h'.get? s.heap.objs.size=some q:=let⟨q,_,_,hq,_⟩:=dd';⟨q,hq⟩;exact mL I2 (by rw[e];exact True.intro) hs he (oB hz hd (rk.merge .nil) dd')
section
variable {X:Cx} {pins:List (Addr×Obj)} {σ:St} {H:Hp} {s:Shared} {a:Addr} {y d:V} {u r:Value} {o:Option V} {A:Around} {E:Value->Shared->Prop}
end
section
variable {X:Cx} {o e f:Expr} {apos cpos:Pos} {td ty tx:TE}
end
section
variable {X:Cx} {pins:List (Addr×Obj)} {σ:St} {H:Hp} {s:Shared} {a:Addr} {kvs:List (z6×V)} {A:Around} {E:Value->Shared->Prop}
end
section
variable {X:Cx} {pins:List (Addr×Obj)} {σ:St} {H:Hp} {s:Shared} {a:Addr} {y:V} {u:Value} {A:Around} {E:Value->Shared->Prop}
end
end L2
namespace L2
open PySem PySem.Spec PyProof.Rows
section
variable {X:Cx}
theorem zmD:w4 X (.builtin "len") (λxs H Q=> ∃a kvs,xs= [V.ref a]/\H a=some (.dK kvs)/\Q (.int kvs.length) H):=by
 (first | refine⟨?_⟩ | skip)
 intro pins s σ H xs us Q I r h;obtain⟨a,kvs,rfl,ha,q⟩:=h;obtain⟨u,rfl,ru⟩:=rY r;cases ru;exact zmZ I (.inl ha) λt s' I'=>⟨.int kvs.length,H,I',⟨t,rfl⟩,q⟩
end
section
variable {κ:Type} [DecidableEq κ]
end
end L2
set_option maxHeartbeats 4000000
namespace L2
open PySem PySem.Spec PyProof.Rows
theorem ziy {X:Cx}{pins:List (Addr×Obj)}{σ:St}{H:Hp}{s:Shared}{D:Addr}{o:HO}(I:z5 X pins σ H s)(hn:H D=none)(hs:X.s₀.heap.objs.size<=D)(hL:D≠X.env.locals)
  (hc: ∀x c,X.env.cells.lookup x=some c->c≠D) (hp: ∀p∈X.pn++pins,p.1≠D) (new:xR X.prog X.w (upd H D o) s.heap D o):z5 X pins σ (upd H D o) s:=by
 have low: ∀{b:Addr} {u:Obj},X.s₀.heap.get? b=some u->b≠D:=λe=>bb (bj (aw e) hs);refine⟨I.ok,I.os,I.bare,⟨I.base.keep,I.base.slot,λb u e n hx=> ?_,I.base.there,λb xs e=> ?_,λb u v e=> ?_,λb ps e=> ?_⟩,I.loc,I.cell,?_,λx c e=> ?_,λp hm=> ?_,λb u e=> ?_,I.len⟩
 ·rw[yN (low e)];exact I.base.free b u e n hx
 ·have q:=I.base.tups b xs e
  rw[yN (tW q hn)];exact q
 ·have q:=I.base.frzs b u v e
  rw[yN (tW q hn)];exact q
 ·obtain⟨more,q⟩:=I.base.tbls b ps e
  exact⟨more,by rw[yN (tW q hn)];exact q⟩
 ·rw[yN (dk hL)];exact I.free
 ·rw[yN (hc x c e)];exact I.freeC x c e
 ·obtain⟨e,n,r⟩:=I.pin p hm
  exact⟨e,by rw[yN (hp p hm)];exact n,r⟩
 ·by_cases hb:b=D
  ·subst hb;rw[yO]at e;cases e;exact new
  ·rw[yN hb]at e
   exact(I.hok b u e).stay (λc v _ q=>q) (λc q=>by rw[yN (tW q hn)];exact q) λc xs q=>by rw[yN (tW q hn)];exact q
theorem zn7 {α β:Type}{l:List α}{f:α->β->Sem (ForInStep β)}{g:α->β->β}(h: ∀x∈l,∀b,f x b=pure (.yield (g x b)))(b:β):forIn l b f=pure (l.foldl (λb x=>g x b) b):=by
 induction l generalizing b with
 | nil=>rfl
 | cons x l ih=>
  rw[List.forIn_cons,h x ar,pure_bind];exact ih (λy hy=>h y (bc _ hy)) _
def qY (cells:List (Str×Addr))(p:Str×NameKind)(cs:List (Str×Addr)):List (Str×Addr):=if p.2== .free then(p.1,(cells.lookup p.1).getD 0)::cs else cs
def u8 (names:List (Str×NameKind))(cells:List (Str×Addr)):List (Str×Addr):=names.foldl (λcs p=>qY cells p cs) []
theorem zfn {scope:Scope}{env:Env}(h: ∀p∈scope.names,p.2= .free->∃c,env.cells.lookup p.1=some c):closureFor scope env=pure (u8 scope.names env.cells):=by
 unfold closureFor;dsimp only;rw[zn7 (g:=λp cs=>qY env.cells p cs) (λp hp cs=> ?_)]
 ·rfl
 ·obtain⟨n,k⟩:=p
  unfold qY;by_cases hk:k= .free
  ·obtain⟨c,e⟩:=h _ hp hk
   subst hk;simp only[cellOf,e,beq_self_eq_true,if_true,Option.getD_some]
   rfl
  ·have:(k==NameKind.free)=false:=by simpa using hk
   simp only[this,ir,if_false]
theorem ziQ {cells:List (Str×Addr)} : ∀(names:List (Str×NameKind)) (acc:List (Str×Addr)) (p:Str×Addr),p∈names.foldl (λcs q=>qY cells q cs) acc->p∈acc∨((p.1,NameKind.free)∈names/\p.2=(cells.lookup p.1).getD 0)
 | [],acc,p,h=> .inl h
 | q::r,acc,p,h=>by
  rw[gb]at h;rcases ziQ r _ p h with h | ⟨h1,h2⟩
  ·unfold qY at h
   obtain⟨n,k⟩:=q
   split at h
   ·rename_i hk
    rcases az.mp h with e | h
    ·refine .inr ⟨?_,by rw[e]⟩
     have hk':k= .free:=by simpa using hk
     rw[e,hk'];exact ar
    ·exact .inl h
   ·exact .inl h
  ·exact .inr ⟨bc _ h1,h2⟩
theorem zfj {cells:List (Str×Addr)}{x:Str} : ∀(names:List (Str×NameKind)) (acc:List (Str×Addr)),((x,NameKind.free)∈names∨∃c,(x,c)∈acc)->∃c,(x,c)∈names.foldl (λcs q=>qY cells q cs) acc
 | [],acc,h=>by
  rcases h with h | h
  ·cases h
  ·exact h
 | q::r,acc,h=>by
  rw[gb];refine zfj r _ ?_;rcases h with h | ⟨c,h⟩
  ·rcases az.mp h with e | h
   ·refine .inr ⟨(cells.lookup x).getD 0,?_⟩
    rw[<- e];show _∈(if(NameKind.free==NameKind.free)=true then _ else _);rw[if_pos (by rfl)];exact ar
   ·exact .inl h
  ·refine .inr ⟨c,?_⟩
   unfold qY
   split
   ·exact bc _ h
   ·exact h
theorem ziK {β:Type}{x:Str} : ∀{l:List (Str×β)} {c:β},(x,c)∈l->∃d,l.lookup x=some d
 | [],_,h=>nomatch h
 | (y,d)::r,c,h=>by
  rw[kc];by_cases e:x=y
  ·subst e;exact⟨d,by simp⟩
  ·rcases az.mp h with q | q
   ·cases q;exact absurd rfl e
   ·obtain⟨d',q'⟩:=ziK q
    have:(x==y)=false:=by simpa using e
    rw[this];exact⟨d',q'⟩
theorem zfk {names:List (Str×NameKind)}{cells:List (Str×Addr)}{x:Str}{c:Addr}(h:(u8 names cells).lookup x=some c):(x,NameKind.free)∈names/\c=(cells.lookup x).getD 0:=by
 rcases ziQ names [] (x,c) (gw h)with h | h
 ·cases h
 ·exact h
theorem zfl {names:List (Str×NameKind)}{cells:List (Str×Addr)}{x:Str}(h:(x,NameKind.free)∈names):(u8 names cells).lookup x=some ((cells.lookup x).getD 0):=by
 obtain⟨c,hc⟩:=zfj (cells:=cells) names [] (.inl h);obtain⟨d,hd⟩:=ziK hc;rw[show(u8 names cells).lookup x=some d from hd,(zfk hd).2]
abbrev xF (X:Cx)(scope:Scope)(Nc:List Str)(C:Addr)(s:Shared)(H:Hp)(fp:List Addr)(pins:List (Addr×Obj)):Cx:=
 {X with N:=Nc,s₀:=s,H₀:=H,env:=compEnvC scope (u8 scope.names X.env.cells) C X.env,outer:=X.stack,stack:=X.stack,ex:=fp,fn:=λ_=>false,pn:=X.pn++pins,xe:=λ_ _=>False}
structure sE (X:Cx)(scope:Scope)(N' own:List Str):Prop where
 kind:scope.kind= .function
 nocell: ∀y∈scope.names,y.2≠ .cell
 names: ∀y∈scope.names,y.2= .local->scope.names.lookup y.1=some .local
 frees: ∀y∈scope.names,y.2= .free->X.env.scope.names.lookup y.1=some .cell∨X.env.scope.names.lookup y.1=some .free
 len:N'.length=X.N.length
 pre: ∀(i:Nat) (y:Str),N'[i]?=some y->X.N[i]?=some y∨(y,NameKind.free)∉scope.names
 nol: ∀y∈N',scope.names.lookup y≠some .local
theorem iT {env:Env}{x:Str} : ∀{names:List (Str×NameKind)} {k:NameKind},
  (names.map λ(n,k)=>if(k==NameKind.free&&env.scope.kind== .function&&env.kindOf n==some .cell)then(n,NameKind.cell)else(n,k)).lookup x=some k->
  names.lookup x=some k∨(k= .cell/\names.lookup x=some .free)
 | [],k,h=>by simp at h
 | (n,j)::r,k,h=>by
  have h':List.lookup x ((if(j==NameKind.free&&env.scope.kind== .function&&env.kindOf n==some .cell)=true then(n,NameKind.cell)else(n,j))::
   r.map λ(n,k)=>if(k==NameKind.free&&env.scope.kind== .function&&env.kindOf n==some .cell)then(n,NameKind.cell)else(n,k))=some k:=h
  cases hx:x==n with
  | true=>
   by_cases hc:(j==NameKind.free&&env.scope.kind== .function&&env.kindOf n==some .cell)=true
   ·rw[if_pos hc]at h'
    simp only[kc,hx]at h'⊢
    simp only[fb,beq_iff_eq]at hc;cases h';exact .inr ⟨rfl,by rw[hc.1.1]⟩
   ·rw[if_neg hc]at h'
    simp only[kc,hx]at h'⊢
    exact .inl h'
  | false=>
   have q:(r.map λ(n,k)=>if(k==NameKind.free&&env.scope.kind== .function&&env.kindOf n==some .cell)then(n,NameKind.cell)else(n,k)).lookup x=some k:=by
    by_cases hc:(j==NameKind.free&&env.scope.kind== .function&&env.kindOf n==some .cell)=true
    ·rw[if_pos hc]at h';simpa only[kc,hx]using h'
    ·rw[if_neg hc]at h';simpa only[kc,hx]using h'
   simp only[kc,hx];exact iT q
section
variable {X:Cx} {pins:List (Addr×Obj)} {σ:St} {H:Hp} {s:Shared} {scope:Scope} {N' own:List Str}
theorem sE.cells (S:sE X scope N' own)(I:z5 X pins σ H s): ∀p∈scope.names,p.2= .free->∃c,X.env.cells.lookup p.1=some c:=λp hp hk=>I.ok.has p.1 (S.frees p hp hk)
theorem rH (S:sE X scope N' own)(I:z5 X pins σ H s){x:Str}{c:Addr}(h:(u8 scope.names X.env.cells).lookup x=some c):X.env.cells.lookup x=some c:=by
 obtain⟨hm,e⟩:=zfk h;obtain⟨d,hd⟩:=S.cells I _ hm rfl;rw[hd]at e;rw[hd,e]
 rfl
theorem zix (S:sE X scope N' own)(I:z5 X pins σ H s){C D:Addr}{oD:Obj}{fp:List Addr}{h4:Heap}{tk:Nat}{m:Str->Option Value}(k: ∀b u,s.heap.get? b=some u->h4.get? b=some u)(hC:s.heap.objs.size<=C)(hD:s.heap.objs.size<=D)(hDC:D≠C)(eD:h4.get? D=some oD)(cD: ∀v,oD.data≠ .cell v)
  (ns:h4.Ns C m) (ff: ∀b∈fp,rA X pins H b) (fl: ∀b∈fp,b < s.heap.objs.size):
  z5 (xF X scope (N'++own) C s H fp pins) [(D,oD)] (σ++List.replicate own.length none) H {s with heap:=h4,toks:=tk} :=by
 have nostk: ∀{b:Addr},s.heap.objs.size<=b->b∉xS X.stack:=λ{b} hb hm=>by
  rcases az.mp (I.stkSub b hm)with e | hm
  ·rw[e]at hb;exact absurd (bj I.lt hb) (eh _)
  ·exact I.nofs hb hm
 have lk: ∀x,((compEnvC scope (u8 scope.names X.env.cells) C X.env).kindOf x=some .cell∨(compEnvC scope (u8 scope.names X.env.cells) C X.env).kindOf x=some .free)->(x,NameKind.free)∈scope.names:=λx hx=>by
  have q:scope.names.lookup x=some .cell∨scope.names.lookup x=some .free:=by
   rcases hx with hx | hx
   ·rcases iT (env:=X.env) (names:=scope.names) hx with q | ⟨_,q⟩
    ·exact .inl q
    ·exact .inr q
   ·rcases iT (env:=X.env) (names:=scope.names) hx with q | ⟨z,_⟩
    ·exact .inr q
    ·cases z
  rcases q with q | q
  ·exact absurd rfl (S.nocell _ (gw q))
  ·exact gw q
 refine⟨⟨I.ok.mod,S.kind,I.ok.glob,I.ok.blt,hC,λx y c h1 h2=> ?_,λx hx=> ?_,λx c h=> ?_,I.ok.hd,I.ok.frames,.inl rfl,λb hb=>⟨?_,λx c h=> ?_⟩,I.bs,bf I.ok.bsz I.sz,λb o e hb=> ?_,λb hb hm=> ?_,I.stack,I.stkFree⟩,
  rfl,I.bare,Un.kept k,⟨m,ns,λi x v e1 e2 e3=> ?_⟩,λx c h=> ?_,I.hok.fresh hC,λx c h=> ?_,λp hp=> ?_,I.hok.kept k,?_⟩
 ·exact I.ok.inj x y c (rH S I h1) (rH S I h2)
 ·exact⟨_,zfl (lk x hx)⟩
 ·cases h
 ·have:=fl b hb;intro e;rw[e]at this;exact absurd (bj this hC) (eh _)
 ·exact(ff b hb).2.2.2.2.1 x c (rH S I h)
 ·rcases(ff b hb).2.2.2.1 with z | z
  ·exact I.ok.noex b o e z
  ·exact absurd (bj (aw e) (bf I.ok.bsz z)) (eh _)
 ·rcases az.mp (I.stkSub b hm)with e | hm
  ·exact(ff b hb).2.1 e
  ·exact(ff b hb).2.2.1 hm
 ·-- names
  have hi:i < σ.length:=by
   by_cases hi:i < σ.length
   ·exact hi
   ·rw[aq (by omega),im]at e2
    split at e2 <;> cases e2
  rw[bo hi]at e2;have hN:N'[i]?=some x:=by
   have e1':(N'++own)[i]?=some x:=e1;rw[bo (by rw[S.len,<- I.len];exact hi)]at e1';exact e1'
  have e3':((compEnvC scope (u8 scope.names X.env.cells) C X.env).kindOf x=some .cell∨(compEnvC scope (u8 scope.names X.env.cells) C X.env).kindOf x=some .free)∨(compEnvC scope (u8 scope.names X.env.cells) C X.env).kindOf x=some .local:=by
   rcases e3 with z | z | z
   ·exact .inr z
   ·exact .inl (.inl z)
   ·exact .inl (.inr z)
  rcases e3' with e3' | e3'
  ·have hm:=lk x e3'
   rcases S.pre i x hN with hX | hX
   ·have fr:=S.frees _ hm rfl
    obtain⟨m0,hn0,hl0⟩:=I.loc;obtain⟨u,r,l⟩:=hl0 i x v hX e2 (by rcases fr with z | z;exact .inr (.inl z);exact .inr (.inr z));refine⟨u,r,.inr ⟨e3',?_⟩⟩;rcases l with⟨z,_⟩ | ⟨_,c,ec,⟨o,ho,hd⟩⟩
    ·rcases fr with f | f <;> (have z':X.env.scope.names.lookup x=some .local:=z;rw[f]at z';cases z')
    ·refine⟨c,?_,⟨o,k _ _ ho,hd⟩⟩
     show(u8 scope.names X.env.cells).lookup x=some c;rw[zfl hm,ec]
     rfl
   ·exact absurd hm hX
  ·-- a local of the zeV among the outer names:hidden
   rcases iT (env:=X.env) (names:=scope.names) e3' with q | ⟨z,_⟩
   ·exact absurd q (S.nol x (ck hN))
   ·cases z
 ·obtain⟨v,o,ho,hd⟩:=I.cell x c (rH S I h)
  exact⟨v,o,k _ _ ho,hd⟩
 ·exact I.freeC x c (rH S I h)
 ·have hp':p∈(X.pn++pins)++ [(D,oD)]:=hp
  rcases au.mp hp' with hp' | hp'
  ·obtain⟨e,n,ne,nf,d⟩:=I.pin p hp'
   refine⟨k _ _ e,n,bb (bj (aw e) hC),λhm=> ?_,d⟩;rcases az.mp (I.stkSub p.1 hm)with z | z
   ·exact ne z
   ·exact nf z
  ·have e:p=(D,oD):=by simpa using hp'
   subst e;exact⟨eD,I.hok.fresh hD,hDC,nostk hD,cD⟩
 ·show(σ++List.replicate own.length none).length=(N'++own).length
  rw[ai,ai,gy,S.len,I.len]
abbrev dG (ifs:List Expr)(env:Env):Sem Bool:=forIn ifs true λc r=>if r=true then do let ok <- isTrue c env (eval c env);pure (ForInStep.yield ok)else pure (ForInStep.yield r)
theorem zfo {prog:Program}{w:World}{A:Around}{R:Result->Shared->Prop}{s:Shared}{elt target iter:Expr}{ifs:List Expr}{scope:Scope}{pos:Pos}{it acc:Value}{env:Env}(I:Nat->Shared->Prop)
  (turn: ∀n s,I n s->ak (ay prog w) A (pyNext it) (λr s₁=>match r with
   | none=>R (.ok .next) s₁
   | some v=>ak (ay prog w) A (letOwnedTupleGo target it v) (λ_ s₁'=>ak (ay prog w) A (assign target env v) (λ_ s₂=>
     ak (ay prog w) A (dG ifs env) (λok s₃=>
      if ok=true then ak (ay prog w) A (eval elt env) (λx s₄=>
       ak (ay prog w) A (call (.builtin "list.append") [acc,x]) (λ_ s₅=> ∃m,m < n/\I m s₅) (notedBy (ay prog w) A env λe s'=>R (.error e) s') s₄) (notedBy (ay prog w) A env λe s'=>R (.error e) s') s₃
      else ∃m,m < n/\I m s₃) (notedBy (ay prog w) A env λe s'=>R (.error e) s') s₂) (notedBy (ay prog w) A env λe s'=>R (.error e) s') s₁') (notedBy (ay prog w) A env λe s'=>R (.error e) s') s₁) (notedBy (ay prog w) A env λe s'=>R (.error e) s') s)
  (n:Nat) (h:I n s):
  codeAny (ay prog w) A (.compLoop (.ListComp elt [⟨target,iter,ifs,0⟩] scope pos) 0 it acc env) R s:=by
 refine codeAny_loop rfl I (λn s hI=> ?_) n h;show ak _ A ((compTurn (.ListComp elt [⟨target,iter,ifs,0⟩] scope pos) 0 it acc env).onRaise (λx=>do noteFrame x env;theTreesLotGoes x)) _ _ s;refine wpAny_noted ?_;rw[compTurn_list];refine aa (ju (aa (jp (turn n s hI) (λr s₁ h₁=> ?_) λ_ _ h'=>h')));cases r with
 | none=>exact ah h₁
 | some v=>
  refine aa (jp h₁ (λ_ s₁' h₁'=> ?_) λ_ _ h'=>h');refine aa (jp h₁' (λ_ s₂ h₂=>aa (jp h₂ (λok s₃ h₃=> ?_) λ_ _ h'=>h')) λ_ _ h'=>h');cases ok with
  | false=>exact ah ⟨rfl,h₃⟩
  | true=>
   exact aa (aa (jp h₃ (λx s₄ h₄=>aa (jp h₄ (λ_ s₅ h₅=>ah (ah ⟨rfl,h₅⟩)) λ_ _ h'=>h')) λ_ _ h'=>h'))
structure PF (X:Cx)(ifs:List Expr)(t:TT):Prop where
 run:
  ∀(pins:List (Addr×Obj)) (s:Shared) (σ:St) (H:Hp) (Q:Bool->Hp->Prop),z5 X pins σ H s->t σ H Q->ak (ay X.prog X.w) X.A (dG ifs X.env) (TP X pins σ Q) X.xe s
instance {X:Cx} {ifs:List Expr} {t:TT} :CoeFun (PF X ifs t) λ_=>
 ∀(pins:List (Addr×Obj)) (s:Shared) (σ:St) (H:Hp) (Q:Bool->Hp->Prop),z5 X pins σ H s->t σ H Q->ak (ay X.prog X.w) X.A (dG ifs X.env) (TP X pins σ Q) X.xe s
  :=⟨PF.run⟩
def zti:TT:=λ_ H Q=>Q true H
theorem zqB {X:Cx} :PF X [] zti:=⟨λ_ _ _ H _ I h=>wpAny_tests_nil ⟨H,I,h⟩⟩
theorem zqC {X:Cx}{c:Expr}{t:TT}(h:PT X c t):PF X [c] t:=⟨λpins s σ H Q I q=>wpAny_tests_one (h pins s σ H Q I q)⟩
theorem oX {α:Type}{M:Model}{A:Around}{E:Value->Shared->Prop}{s:Shared}{t:Sem α}{Q Q':α->Shared->Prop}(h:ak M A t Q (λ_ _=>False) s)(k: ∀a s,Q a s->Q' a s):ak M A t Q' E s:=jp h k λ_ _ z=>z.elim
def zeh (own:Nat)(J:It)(g:TG)(tt:TT)(te:TE)(Q:VK)(σ:St)(H1:Hp):Prop:= ∃W:Nat->Nat->List V->St->Hp->Prop,(∃m,W 0 m [] (σ++List.replicate own none) H1)/\∀i m ys σ' H',W i m ys σ' H'->
 (J.stop i H'/\ys.length<=sizeLine/\∀D,H' D=none->Q (.ref D) (upd H' D (.lst ys)))∨
 (J.go i H'/\ys.length < sizeLine/\∃N:List V->St->Hp->Prop,(∀ys σ3 H3,N ys σ3 H3->∃m',m' < m/\W (i+1) m' ys σ3 H3)/\
  ∀x H2,J.yld i H' x H2->g x σ' H2 λσ3 H3=>tt σ3 H3 λb H4=>if b=true then te σ3 H4 λy H5=>N (ys++ [y]) σ3 H5 else N ys σ3 H4)
def gZ (own:Nat)(wi:TI)(g:TG)(tt:TT)(te:TE):TE:=λσ H Q=>wi σ H λJ H1=>zeh own J g tt te Q σ H1
theorem zqy {elt target iter:Expr}{ifs:List Expr}{pos:Pos}{wi:TI}{g:TG}{tt:TT}{te:TE}(S:sE X scope N' own)(hc:X.calm=true)(hi:PI X target iter wi)
  (hg: ∀C s H fp pins,PG (xF X scope (N'++own) C s H fp pins) target g) (ht: ∀C s H fp pins,PF (xF X scope (N'++own) C s H fp pins) ifs tt) (he: ∀C s H fp pins,PE (xF X scope (N'++own) C s H fp pins) elt te)
  (hs: ∀x,foldedSetIterable iter X.env x=pure x:=by intro _;rfl):
  PE X (.ListComp elt [⟨target,iter,ifs,0⟩] scope pos) (gZ own.length wi g tt te):=by
 (first | refine⟨?_⟩ | skip)
 intro pins s σ H Q I h;rw[eval_ListComp];refine qr (use:=none) rfl hs (zfn (S.cells I)) S.kind S.names ?_;refine zM (hi pins s σ H _ I h) λv s1 h1=>zM h1 λitv s2 h2=> ?_;obtain⟨it,fp,tn,J,H2,e,I2,T,st2,f2,W,⟨m0,w0⟩,turn⟩:=h2;subst e;have fl: ∀b∈fp,b < s2.heap.objs.size:=λb hb=>by obtain⟨o,e,_⟩:=T.obj _ _ st2 b hb;exact aw e
 refine cr (ux S.nocell (by intro y hy;simp at hy) (λh4 ns4 sb4=> ?_) S.kind);dsimp only at ns4 sb4⊢
 generalize hH3:s2.heap.push {cls:= .type "list",dict:=none,data:= .seq ([]:List Value).toArray} =h3 at ns4 sb4⊢
 have hC:h3.objs.size=s2.heap.objs.size+1:=by rw[<- hH3,iu]
 have hDC:s2.heap.objs.size≠h3.objs.size:=by rw[hC];exact bb (nc _)
 have hCle:s2.heap.objs.size<=h3.objs.size:=by rw[hC];exact fz _
 have eD3:h3.get? s2.heap.objs.size=some {cls:= .type "list",data:= .seq ([]:List Value).toArray} :=hH3▸br _ rfl;have k4: ∀b u,s2.heap.get? b=some u->h4.get? b=some u:=λb u e=>
  (sb4.2 b (bb (bj (aw e) hCle))).trans (ae _ (hH3▸ae _ e))
 have eD4:h4.get? s2.heap.objs.size=some {cls:= .type "list",data:= .seq ([]:List Value).toArray} :=(sb4.2 _ hDC).trans (ae _ eD3);generalize hDd:s2.heap.objs.size=D at *;generalize hCd:h3.objs.size=C at *;have I4:=zix S I2 (C:=C) (D:=D) (fp:=fp) (h4:=h4) (tk:=s2.toks+([]:List (Str×Value)).length) k4 (by rw[hDd];exact hCle) (by rw[hDd];exact ao _) hDC eD4 (by intro v z;cases z) ns4 f2 (by rw[hDd];exact fl);have lowC: ∀(b:Addr) (u:Obj),s2.heap.get? b=some u->b≠C:=λb u e=>bb (bj (aw e) (by rw[hDd];exact hCle));have nofp: ∀b∈fp,b∉xS X.stack:=λb hb hm=>by
  rcases az.mp (I2.stkSub b hm)with z | z
  ·exact(f2 b hb).2.1 z
  ·exact(f2 b hb).2.2.1 z
 have fpD: ∀b∈fp,b≠D:=λb hb=>bb (fl b hb);have stat: ∀{H':Hp} {o:Obj},(∀b∈fp,H' b=none)->∀b∈fp,rA (xF X scope (N'++own) C s2 H2 fp pins) [(D,o)] H' b:=λ{H' o} hn b hb=>
  ⟨hn b hb,bb (bj (fl b hb) hCle),nofp b hb,.inl hb,λx c e=>(f2 b hb).2.2.2.2.1 x c (rH S I2 e),λp hp=>by
   have hp':p∈(X.pn++pins)++ [(D,o)]:=hp;rcases au.mp hp' with z | z
   ·exact(f2 b hb).2.2.2.2.2 p z
   ·have e:p=(D,o):=by simpa using z
    rw[e];exact dk (fpD b hb)⟩
 have loop: ∀s3:Shared,z5 (xF X scope (N'++own) C s2 H2 fp pins) [(D,{cls:= .type "list",data:= .seq ([]:List Value).toArray})] (σ++List.replicate own.length none) H2 s3->tn 0 s3.heap->
   codeAny (ay X.prog X.w) X.A (.compLoop (.ListComp elt [⟨target,iter,ifs,0⟩] scope pos) 0 (.ref it) (.ref D) (compEnvC scope (u8 scope.names X.env.cells) C X.env))
    (compPost (ay X.prog X.w) X.A X.xe none (EP X pins σ Q) (.ref D) C) s3:=by
  intro s3 I3 st3;refine zfo (λn s'=> ∃(i:Nat) (ys:List V) (σ':St) (H':Hp) (vals:List Value) (cnt:Nat),z5 (xF X scope (N'++own) C s2 H2 fp pins) [(D,{cls:= .type "list",data:= .seq vals.toArray cnt})] σ' H' s'/\
   tn i s'.heap/\(∀b∈fp,H' b=none)/\zJ ys vals/\W i n ys σ' H') ?_ m0 ⟨0,[],_,H2,[],0,I3,st3,λb hb=>(f2 b hb).1,.nil,w0⟩
  rintro n s3 ⟨i,ys,σ3,H3,vals,cnt,I3,st3,fr3,rv,w3⟩;rcases turn i n ys σ3 H3 w3 with⟨stop,hz,q⟩ | ⟨go,hz,N,hN,step⟩
  ·refine zM (T.done (xF X scope (N'++own) C s2 H2 fp pins) rfl rfl rfl hc i _ s3 σ3 H3 _ I3 (stat fr3) st3 stop) λr s4 ⟨hr,I4⟩=> ?_
   subst hr;obtain⟨m,ns,_⟩:=id I4.loc;refine⟨m,ns,λh' sb=> ?_⟩;have u4:Un (xS X.stack) fp H2 H3 s2.heap s4.heap:=I4.base;have nC:H3 C=none:=I4.free;have keepC: ∀(b:Addr) (u:Obj),b≠C->s4.heap.get? b=some u->h'.get? b=some u:=λb u hb e=>(sb.2 b hb).trans e;have u':Un (xS X.stack) fp H2 H3 s2.heap h':=
    ⟨λb o e n hb hx=>keepC b o (lowC b o e) (u4.keep b o e n hb hx),λb o e n hb hx=>let⟨sl,q⟩:=u4.slot b o e n hb hx;⟨sl,keepC _ _ (lowC b o e) q⟩,u4.free,λb o e hx=>let⟨o',q⟩:=u4.there b o e hx;⟨o',keepC _ _ (lowC b o e) q⟩,u4.tups,u4.frzs,u4.tbls⟩
   have hok':x6 X.prog X.w H3 h':=λb u e=>(I4.hok b u e).stay (λc v hc' q=>keepC c v (by
    rintro rfl;rcases hc' with z | z
    ·rw[<- z,nC]at e;cases e
    ·rw[nC]at z;cases z) q) (λ_ q=>q) λ_ _ q=>q
   have I5:z5 X pins σ H3 {s4 with heap:=h'} :=I2.call' (ch:=fp) (s':= {s4 with heap:=h'}) I4.os u' hok' I4.bare λb hb=>⟨(f2 b hb).2.2.2.1,(f2 b hb).2.1,(f2 b hb).2.2.2.2.1,(f2 b hb).2.2.2.2.2⟩;obtain⟨eD,nD,_⟩:=I4.pin (D,_) (af _ ar);refine⟨.ref D,upd H3 D (.lst ys),ziy I5 nD (by rw[<- hDd];exact I2.sz) ?_ ?_ ?_ ⟨hz,vals,cnt,rv,keepC D _ hDC eD⟩,rfl,q D nD⟩
   ·have:=I2.lt;rw[hDd]at this;exact dz this
   ·intro x c e z
    obtain⟨v,o,ho,_⟩:=I2.cell x c e;have:=aw ho;rw[hDd,z]at this;exact eh _ this
   ·intro p hp z
    have:=aw (I2.pin p hp).1;rw[hDd,z]at this;exact eh _ this
  ·refine zM (T.item (xF X scope (N'++own) C s2 H2 fp pins) rfl rfl rfl hc i _ s3 σ3 H3 _ I3 (stat fr3) st3 go) λr s4 ⟨u,hr,h4⟩=> ?_
   subst hr;refine zM h4 λ_ s5 ⟨x,H5,I5,r5,y5,st5,fr5⟩=> ?_;have I5':=I5.pinned (stat fr5) (T.obj _ _ st5);have keepT: ∀{σ7:St} {H7:Hp} {s7:Shared} {pl:List (Addr×Obj)},z5 (xF X scope (N'++own) C s2 H2 fp pins) (pl++sU fp s5.heap) σ7 H7 s7->tn (i+1) s7.heap/\∀b∈fp,H7 b=none:=λ{σ7 H7 s7 pl} I7=>
    ⟨T.keep _ _ _ st5 λb hb o e=>(I7.pin (b,o) (af _ (af _ (oU hb e)))).1,λb hb=>by
     obtain⟨o,e,d⟩:=T.obj _ _ st5 b hb;exact(I7.pin (b,o) (af _ (af _ (oU hb e)))).2.1⟩
   refine oX (hg C s2 H2 fp pins _ s5 σ3 H5 x u _ I5' r5 (step x H5 y5)) λ_ s6 ⟨σ6,H6,I6,q6⟩=> ?_;refine oX (ht C s2 H2 fp pins _ s6 σ6 H6 _ I6 q6) λb s7 ⟨H7,I7,q7⟩=> ?_;cases b with
   | false=>
    obtain⟨m',hm,w7⟩:=hN _ _ _ q7;obtain⟨t7,fr7⟩:=keepT I7;exact⟨m',hm,i+1,ys,σ6,H7,vals,cnt,I7.unpinned,t7,fr7,rv,w7⟩
   | true=>
    refine oX (he C s2 H2 fp pins _ s7 σ6 H7 _ I7 q7) λy s8 ⟨yv,H8,I8,r8,q8⟩=> ?_;obtain⟨m',hm,w8⟩:=hN _ _ _ q8;obtain⟨eD,nD,neD,nfD,cD⟩:=I8.pin (D,_) (af _ (ax _ ar));have hvl:=rv.length;refine lm pc ⟨_,eD,rfl⟩ oq (ny _ _) (qb D vals.toArray cnt y (by rw[be];omega)) ⟨eD,?_⟩;have I8':z5 (xF X scope (N'++own) C s2 H2 fp pins) (sU fp s5.heap) σ6 H8 s8:=I8.pins_of λp hp=>I8.pin p (af _ (af _ hp));have hno: ∀p∈(X.pn++pins)++sU fp s5.heap,p.1≠D:=λp hp=>by
     rcases au.mp hp with z | z
     ·intro q
      have:=aw (I2.pin p z).1;rw[hDd,q]at this;exact eh _ this
     ·exact fpD _ (zcK z).1
    have I9:=I8'.turned (t':=s8.toks) (it:=D) (h':=s8.heap.update D (Obj.mapSeq λx=>x.push y)) (λb o hb e=>(bp s8.heap _ (dk hb)).trans e) nD neD (.inr (by show s2.heap.objs.size<=D;rw[hDd];exact ao _))
     (λx c e z=>by
      obtain⟨v,o,ho,_⟩:=I2.cell x c (rH S I2 e);have:=aw ho;rw[hDd,z]at this;exact eh _ this) hno
    obtain⟨t9,fr9⟩:=keepT (pl:= []) I9;have qD: ∃n',(s8.heap.update D (Obj.mapSeq λx=>x.push y)).get? D=some {cls:= .type "list",data:= .seq (vals++ [y]).toArray n'} :=by
     have q:=qo (l:=D) (items:=vals.toArray) (n:=cnt) (h:=s8.heap) eD λx=>x.push y;have e:vals.toArray.push y=(vals++ [y]).toArray:=by simp
     rw[<- e];exact⟨_,q⟩
    obtain⟨n',qD⟩:=qD;refine⟨m',hm,i+1,ys++ [yv],σ6,H8,vals++ [y],n',I9.pins_of λp hp=> ?_,t9,fr9,rv.append (.cons r8 .nil),w8⟩;have e:=aj.mp hp;rw[e];exact⟨qD,nD,neD,nfD,by intro v z;cases z⟩
 have t4:tn 0 h4:=T.keep _ _ _ st2 λb _ o e=>k4 b o e;exact tz (loop _ I4 t4) (T.self _ 0 _ _ _ t4 (loop _ I4 t4))
end
end L2
namespace L2
open PySem PySem.Spec PyProof.Rows
def kJ (x:Str):It:=⟨λi _=>i < x.cps.size,λi H v H'=>H'=H/\∃c,x.cps[i]?=some c/\v= .str ⟨#[c]⟩,λi _=>i=x.cps.size⟩
theorem zkO {P:Program}{w:World}{K:Frag}{tg:Expr}{n:String}(it:Addr)(x:Str)(t:Tok)(hn: ["enumerate","zip","dict_itemiterator","dict_reverseitemiterator","odict_iterator","itertools.zip_longest","itertools.pairwise"].contains n=false)
  (W: ∀A:Around,A.handled=none->Walks P w A it [it] [it] x.cps.size (SignAt x) (λi h=>h.IsStrIter it n x t i))
  (hself: ∀(A:Around) (i:Nat) (s:Shared) (Q:Value->Shared->Prop) (E:Value->Shared->Prop),s.heap.IsStrIter it n x t i->Q (.ref it) s->ak (ay P w) A (pyIter (.ref it)) Q E s):
  o5 P w K tg (kJ x) [it] it (λi h=>h.IsStrIter it n x t i) where
 mem:=by simp
 obj:=λi h st b hb=>by
  have e:b=it:=by simpa using hb
  subst e;obtain⟨o,e,c,d⟩:=st;exact⟨o,e,λv z=>by rw[d]at z;cases z⟩
 keep:=λi h h' st k=>by
  obtain⟨o,e,r⟩:=st;exact⟨o,k it (by simp) o e,r⟩
 item:=by
  intro X hP hw hK hc i pins s σ H E I hf st hg;subst hP hw hK;obtain⟨f0,f1,f2,f3,f4,f5⟩:=hf it (by simp);refine(W X.A (I.ok.hd hc)).item i s _ _ hg st λv h' tk hv st' kk=> ?_;obtain⟨c,u,ec,rfl⟩:=hv;have I1:z5 X pins σ H {s with heap:=h',toks:=tk} :=I.turned (λb o hb e=>kk b o (by simpa using hb) e) f0 f1 f3 f4 f5;obtain⟨o,e,c',d⟩:=id st';exact⟨_,rfl,jK (s:= {s with heap:=h',toks:=tk}) e c' d hn ⟨.str ⟨#[c]⟩,H,I1,⟨u,rfl⟩,⟨rfl,c,ec,rfl⟩,st',λb hb=>(hf b hb).1⟩⟩
 done:=by
  intro X hP hw hK hc i pins s σ H E I hf st hg;subst hP hw hK;obtain⟨f0,f1,f2,f3,f4,f5⟩:=hf it (by simp);have hg':i=x.cps.size:=hg;subst hg';exact(W X.A (I.ok.hd hc)).done s _ _ st λh' tk kk=>⟨rfl,I.turned (λb o hb e=>kk b o (by simpa using hb) e) f0 f1 f3 f4 f5⟩
 self:=hself
section
variable {X:Cx} {tg:Expr}
theorem zk7 {bs:List Str} : ∀{us:List Value},zJ (bs.map V.str) us->StrsAre us bs:=by
 induction bs with
 | nil=>intro us r;rw[ic]at r;cases r;exact .nil
 | cons n ns ih=>
  intro us r;rw[am]at r;cases r with
  | cons r1 r2=>
   obtain⟨t,e⟩:=r1;subst e;exact .cons n t (ih r2)
def zrC (K:Frag):V->List V->Hp->VK->Prop:=λx vs H Q=> ∃(sep:Str) (l:Addr) (ys:List Str),x= .str sep/\vs= [.ref l]/\yT K H l (ys.map V.str)/\(ys.map (·.length)).sum+ys.length * sep.length<=16777216/\Q (.str (Txt.join sep ys)) H
theorem zoT:uX X "str.join" (zrC X.K):=by
 (first | refine⟨?_⟩ | skip)
 intro pins s σ H x xs v us Q I rx rv h;obtain⟨sep,l,ys,rfl,rfl,hl,hz,q⟩:=h;obtain⟨t,rfl⟩:=rx;obtain⟨u,rfl,ru⟩:=zJ.one rv;cases ru;obtain⟨its,r,p,_⟩:=I.list hl;exact join_list p.isList (by simpa using zk7 r) hz λt' k=>⟨.str (Txt.join sep ys),H,I.tok _,⟨t',rfl⟩,q⟩
theorem zoh (sep:Str)(ys:List Str):(Txt.join sep ys).length<=(ys.map (·.length)).sum+ys.length * sep.length:=by
 show(Builtin.Str.glued sep ys).length<=_;rw[StrLaws.glued_eq_join];exact StrLaws.join_length_le sep ys
def zrL:V->Option Int->Option Int->Hp->VK->Prop:=λx lo hi H Q=> ∃z,x= .str z/\z.length<=sizeLine/\((Txt.slice z lo hi).length<=z.length->Q (.str (Txt.slice z lo hi)) H)
theorem zsp:mE X zrL:=by
 (first | refine⟨?_⟩ | skip)
 intro pins s σ H x v vl vu lo hi sl Q I rx hs pl pu h;obtain⟨z,rfl,hz,q⟩:=h;obtain⟨t,rfl⟩:=rx;obtain⟨o,e,c,d⟩:=hs;have fin: ∀t' k,EP X pins σ Q (.str (Txt.slice z lo hi) t') {s with toks:=k} :=λt' k=>⟨.str (Txt.slice z lo hi),H,I.tok k,⟨t',rfl⟩,q (nz z _ _)⟩;refine⟨"str",_,F.slot_str_getitem.lookup,typeIs_str _ _ _,?_⟩;cases pl with
 | none=>
  cases pu with
  | none=>exact kf (l:=none) (u:=none) (st:=none) ⟨o,e,c,d⟩ rfl (og ⟨bf (nz z _ _) hz,fin⟩)
  | int j uj=>exact kf (l:=none) (u:=some (j,uj)) (st:=none) ⟨o,e,c,d⟩ rfl (og ⟨bf (nz z _ _) hz,fin⟩)
 | int i ui=>
  cases pu with
  | none=>exact kf (l:=some (i,ui)) (u:=none) (st:=none) ⟨o,e,c,d⟩ rfl (og ⟨bf (nz z _ _) hz,fin⟩)
  | int j uj=>exact kf (l:=some (i,ui)) (u:=some (j,uj)) (st:=none) ⟨o,e,c,d⟩ rfl (og ⟨bf (nz z _ _) hz,fin⟩)
end
end L2
namespace L2
open PySem PySem.Spec PyProof.Rows
def zfi (fsc scope:Scope)(N N':List Str):Bool:=
 scope.kind== .function&&scope.names.all (λy=>y.2 != .cell&&(y.2 != .local||scope.names.lookup y.1==some .local)&&(y.2 != .free||(fsc.names.lookup y.1==some .cell||fsc.names.lookup y.1==some .free)))
  &&N'.length==N.length&&(N'.zip N).all (λp=>p.1==p.2|| !(scope.names.any λq=>q.1==p.1&&q.2== .free))&&N'.all (λy=>scope.names.lookup y !=some .local)
theorem tP {X:Cx}{scope fsc:Scope}{N N' own:List Str}(hX:X.env.scope=fsc)(hN:X.N=N)(h:zfi fsc scope N N'=true):sE X scope N' own:=by
 unfold zfi at h;simp only[fb,ng,beq_iff_eq,bne_iff_ne,Bool.or_eq_true,ne_eq]at h;obtain⟨⟨⟨⟨h1,h2⟩,h3⟩,h4⟩,h5⟩:=h;subst hX hN;refine⟨h1,λy hy=>(h2 y hy).1.1,λy hy e=> ?_,λy hy e=> ?_,h3,λi y e=> ?_,λy hy=>h5 y hy⟩
 ·rcases(h2 y hy).1.2 with z | z
  ·exact absurd e z
  ·exact z
 ·rcases(h2 y hy).2 with z | z
  ·exact absurd e z
  ·exact z
 ·have hi:i < N'.length:=(ad.mp e).1
  have e2:X.N[i]?=some X.N[i]:=bu (by omega);have m:(y,X.N[i])∈N'.zip X.N:=by
   refine bi.mpr ⟨i,?_⟩;rw[List.getElem?_zip_eq_some];exact⟨e,e2⟩
  rcases h4 _ m with z | z
  ·left
   rw[e2];have z':y=X.N[i]:=z;rw[<- z']
  ·right
   intro q;have z':(!(scope.names.any λq=>q.1==y&&q.2== .free))=true:=z;rw[Bool.not_eq_true',List.any_eq_false]at z';exact z' _ q (by simp)
theorem zmo {α:Type}(xs:List α){d:Int}(h0:0<=d)(h1:d < xs.length): ∃y,y∈xs/\atI xs d=some y:=by
 have hn:d.toNat < xs.length:=by omega
 refine⟨xs[d.toNat],iq hn,?_⟩;unfold atI wA;rw[if_pos h0,if_pos h1];exact bu hn
end L2
namespace L2
open PySem PySem.Spec PyProof.Rows
section
variable {X:Cx}
end
section
variable {prog:Program} {w:World} {A:Around} {J:Addr} {fp wr:List Addr} {n:Nat} {P:Nat->Value->Prop} {Sn:Nat->Heap->Prop}
end
end L2
namespace L2
open PySem PySem.Spec PyProof.Rows
section
variable {prog:Program} {w:World} {A:Around} {E:Value->Shared->Prop} {s:Shared}
end
section
variable {X:Cx} {e e2:Expr} {t:TA} {tk:TA} {p pos kpos:Pos}
end
end L2
namespace L2
open PySem PySem.Spec PyProof.Rows
theorem znd:typeLookup (.type "dict") "__len__" =pure (some (.builtin "dict.__len__")):=by rw[fg,di];kernel_rfl
section
variable {prog:Program} {w:World} {A:Around} {E:Value->Shared->Prop} {s:Shared}
theorem zmV {d:Addr}{kvs:List (z6×Value)}{Q:List Value->Shared->Prop}(hh:A.handled=none)(hd:(d==sysModules)=false)(hm:s.heap.DictOf (xB prog w) d kvs)(hn:kvs.length<=sizeLine)
  (hQ: ∀s' acc,(∀b o,s.heap.get? b=some o->s'.heap.get? b=some o)->s'.gens=s.gens->s'.drawn=s.drawn->s'.os=s.os->ItemsOf (λi v=> ∃k x,kvs[i]?=some (k,x)/\(xB prog w).is k v=true) acc kvs.length->Q acc.toList s'):
  ak (ay prog w) A (collect (.ref d)) Q E s:=by
 have hdl:d < s.heap.objs.size:=by obtain⟨o,es,ep,ho,_⟩:=id hm;exact aw ho
 unfold collect;refine aa (wpAny_runValue (iw F.entry_proto_collect ?_));rw[gm F.plain_proto_collect _];show ak _ A.in1 (newList [] >>= λl=>again (.builtin "list.__iadd__" ⟨[l,.ref d],[]⟩)) _ _ s;refine aa (cr ?_);refine ah ⟨gt wp _,iw F.entry_list_iadd ?_⟩;rw[gm wp _];show ak _ A.in1 (Builtin.List.listExtendWith (.ref s.heap.objs.size) (.ref d) (.ref s.heap.objs.size)) _ _ _;generalize hH:s.heap.push {cls:= .type "list",data:= .seq ([]:List Value).toArray} =H;have hHs:H.objs.size=s.heap.objs.size+1:=by rw[<- hH,iu]
 have kH: ∀b o,s.heap.get? b=some o->H.get? b=some o:=λb o e=>hH▸ae _ e;have hm1:H.DictOf (xB prog w) d kvs:=hm.at λo e=>kH d o e;obtain⟨ep,at1⟩:=hm1.dictAt;have hS:H.get? s.heap.objs.size=some {cls:= .type "list",data:= .seq ([]:List Value).toArray} :=hH▸br _ rfl;unfold Builtin.List.listExtendWith;have hT:Shared.TypeIs {s with heap:=H} (.ref d) "dict" :=Heap.DictOf.typeIs (s:= {s with heap:=H}) hm1;refine aa (ib hT ?_);have h1:Builtin.List.listSameRef (.ref s.heap.objs.size) (.ref d)=false:=by
  have:s.heap.objs.size≠d:=dz hdl;simp[Builtin.List.listSameRef,this]
 have h2:(Value.type "dict" ==Value.type "list")=false:=by decide
 have h3:(Value.type "dict" ==Value.type "tuple")=false:=by decide
 simp only[h1,h2,h3,pp,ir,if_false];refine aa (wpAny_pyIter_dict (s:= {s with heap:=H}) hd at1 ?_);refine aa (cq ?_);unfold Builtin.List.listLengthHint;have hT2:Shared.TypeIs {s with heap:=H.push {cls:= .type "dict_keyiterator",data:= .fields #[.ref d,.int 0 0,.int kvs.length 0,.int ep 0]}} (.ref d) "dict" :=by
  obtain⟨o,ho,hc⟩:=hT;exact⟨o,ae _ ho,hc⟩
 refine aa (gd hT2 znd ?_)
 wp_delta
 refine aa (jk (b:=true) hT2 (by rw[il];kernel_rfl) ?_);show ak _ A.in1 (typeOf (Value.ref d) >>= _) _ _ _;refine aa (ib hT2 ?_);refine ah ?_;rw[if_pos (by decide)];refine aa (km ?_);generalize hG:H.push {cls:= .type "dict_keyiterator",data:= .fields #[.ref d,.int 0 0,.int kvs.length 0,.int ep 0]} =G at hT2⊢
 have hI:G.get? H.objs.size=some {cls:= .type "dict_keyiterator",data:= .fields #[.ref d,.int 0 0,.int kvs.length 0,.int ep 0]} :=hG▸br _ rfl;have kG: ∀b o,H.get? b=some o->G.get? b=some o:=λb o e=>hG▸ae _ e;have hS2:=kG _ _ hS;refine aa ?_;show ak _ A.in1 (updateSeq s.heap.objs.size (·.push .none) >>= λ_=>updateSeq s.heap.objs.size (·.pop)) _ _ {s with heap:=G};refine aa (ix (s:= {s with heap:=G}) hS2 rfl ?_);have hS3:=cz (Obj.mapSeq (·.push .none)) hS2 rfl;refine(ix (s:= {s with heap:=G.update s.heap.objs.size (Obj.mapSeq (·.push .none))}) hS3 rfl ?_);have hS4:=cz (Obj.mapSeq (·.pop)) hS3 rfl;generalize hG2:(G.update s.heap.objs.size (Obj.mapSeq (·.push .none))).update s.heap.objs.size (Obj.mapSeq (·.pop))=G2 at hS4⊢
 have kG2: ∀b o,b≠s.heap.objs.size->G.get? b=some o->G2.get? b=some o:=λb o hb e=>by
  rw[<- hG2];exact(bp _ _ (dk hb)).trans ((bp _ _ (dk hb)).trans e)
 have nI:H.objs.size≠s.heap.objs.size:=by rw[hHs];exact Nat.succ_ne_self _
 have nd:d≠s.heap.objs.size:=bb hdl;have ndI:d≠H.objs.size:=by rw[hHs];exact bb (Nat.lt_succ_of_lt hdl)
 have W:=Walks.dictKeys (knd:=xB prog w) (A:=A.in1) hh H.objs.size d ndI kvs ep;have st0:G2.IsKeyIter H.objs.size d 0 kvs.length ep/\G2.DictAt (xB prog w) d kvs ep:=⟨⟨_,kG2 _ _ nI hI,rfl,rfl⟩,at1.at' λo e=>kG2 d o nd (kG d o e)⟩;have hSf:s.heap.objs.size∉ [H.objs.size,d]:=by
  intro z;rcases az.mp z with z | z
  ·exact nI z.symm
  ·exact nd (aj.mp z).symm
 refine ah ⟨gt F.plain_extend_loop _,oh W.toS hn _ hSf _ kvs.length 0 {s with heap:=G2} #[] _ rfl (dg _) st0 hS4 (xa _) λs' acc' c' hm' hS' hacc=> ?_⟩;show ak _ A (load s.heap.objs.size >>= _) _ _ s';refine aa (wpAny_load hS' ?_);refine ah (hQ s' acc' (λb ob e=>hm'.heap b ob (λhb=> ?_) (kG2 b ob (bb (aw e)) (kG b ob (kH b ob e)))) hm'.gens hm'.drawn hm'.os hacc);have hlt:=aw e;rcases az.mp hb with h | h
 ·exact absurd hlt (h▸eh _)
 ·rw[aj.mp h,hHs]at hlt;exact absurd hlt (uy.mpr (fz _))
theorem zmU {d:Addr}{kvs:List (z6×Value)}{Q₁:Value->Shared->Prop}(hh:A.handled=none)(hd:(d==sysModules)=false)(hm:s.heap.DictOf (xB prog w) d kvs)(hn:kvs.length<=sizeLine)
  (h: ∀(s':Shared) (acc:Array Value),(∀b o,s.heap.get? b=some o->s'.heap.get? b=some o)->s'.gens=s.gens->s'.drawn=s.drawn->s'.os=s.os->ItemsOf (λi v=> ∃k x,kvs[i]?=some (k,x)/\(xB prog w).is k v=true) acc kvs.length->
   Q₁ (.ref s'.heap.objs.size) {s' with heap:=s'.heap.push {cls:= .type "tuple",data:= .seq acc}}):
  codeAny (ay prog w) A (.call (.builtin "tuple.__new__") ⟨[.type "tuple",.ref d],[]⟩) (wants Q₁ E) s:=by
 refine sv ?_;show ak _ A.in1 (do checkBuiltinCall "tuple.__new__" ⟨[.type "tuple",.ref d],[]⟩;again (.builtin "tuple.__new__" ⟨[.type "tuple",.ref d],[]⟩)) _ _ s;refine aa (ik (F.newCall_tuple_1 _) (ah ⟨gt wq _,iw F.entry_tuple_new ?_⟩));rw[gm wq _];have hsub:=sub_tuple_self;have hinit:=init_tuple_lookup;have hmh:=madeHere_tuple;have hTI:s.TypeIs (.ref d) "dict" :=hm.typeIs
 wp_walk using ib hTI,zmV (A:=A.in1) hh hd hm hn
 intro s' acc k1 k2 k3 k4 hacc;show ak _ _ (Builtin.Tuple.tupleExact acc.toList.toArray >>= λv=>ret v) _ _ _;unfold Builtin.Tuple.tupleExact;refine aa (cr ?_ (by show acc.toList.toArray.size<=sizeLine;simp only[oi];rw[hacc.1];exact hn));refine ah ?_;have e:acc.toList.toArray=acc:=by simp
 rw[e];exact h s' acc k1 k2 k3 k4 hacc
theorem zmJ {d:Addr}{kvs:List (z6×Value)}{Q:Value->Shared->Prop}(hh:A.handled=none)(hd:(d==sysModules)=false)(hm:s.heap.DictOf (xB prog w) d kvs)(hn:kvs.length<=sizeLine)
  (h: ∀(s':Shared) (acc:Array Value),(∀b o,s.heap.get? b=some o->s'.heap.get? b=some o)->s'.gens=s.gens->s'.drawn=s.drawn->s'.os=s.os->ItemsOf (λi v=> ∃k x,kvs[i]?=some (k,x)/\(xB prog w).is k v=true) acc kvs.length->
   Q (.ref s'.heap.objs.size) {s' with heap:=s'.heap.push {cls:= .type "tuple",data:= .seq acc}}):
  ak (ay prog w) A (call (.type "tuple") [.ref d]) Q E s:=by
 refine lh (Q₁:=λobj s₁=>s₁.TypeIs obj "tuple" /\Q obj s₁) ug (F.typeCall_tuple_1 _) vn
  (zmU hh hd hm hn λs' acc k1 k2 k3 k4 hacc=>⟨⟨_,br _ rfl,rfl⟩,h s' acc k1 k2 k3 k4 hacc⟩) λobj s₁ h₁=> ?_
 exact⟨h₁.1,uz obj _,object_init_meets ug.init.lookup ug.made (by decide) prog w A.in1 _ s₁ ⟨h₁.1,rfl,h₁.2⟩⟩
end
theorem lY: ∀{xs:List V} {us:List Value},xs.length=us.length->(∀(j:Nat) (v:Value) (x:V),us[j]?=some v->xs[j]?=some x->zN x v)->zJ xs us
 | [],[],_,_=> .nil
 | x::xs,u::us,h,r=> .cons (r 0 u x rfl rfl) (lY (by simpa using h) λj v y a b=>r (j+1) v y a b)
theorem zc8 {kvs:List (z6×V)}{vs:List (z6×Value)}(r:KV kvs vs):kvs.length=vs.length:=ii r
theorem ziC: ∀{kvs:List (z6×V)} {vs:List (z6×Value)} {i:Nat} {k:z6} {x:Value},KV kvs vs->vs[i]?=some (k,x)->∃y,kvs[i]?=some (k,y)
 | _,_,0,k,x,.cons (a:=p) r _,h=>by
  rw[jd]at h;rw[ce h]at r;have e:p.1=k:=r.1;exact⟨p.2,by rw[jd,<- e]⟩
 | _,_,i+1,k,x,.cons _ r,h=>by
  obtain⟨y,e⟩:=ziC (i:=i) r (by simpa using h);exact⟨y,by simpa using e⟩
section
variable {X:Cx}
theorem zmI (hc:X.calm=true):w4 X (.type "tuple") (λxs H Q=> ∃(d:Addr) (kvs:List (z6×V)),xs= [.ref d]/\H d=some (.dK kvs)/\∀p,H p=none->Q (.ref p) (upd H p (.tup (kvs.map λq=>kV q.1)))):=by
 intro pins s σ H xs us Q I r h;obtain⟨d,kvs,rfl,hd,q⟩:=h;obtain⟨u,rfl,ru⟩:=rY r;cases ru;obtain⟨hz,hsys,vs,kv,dd⟩:=oE I.hok hd;have hl:=zc8 kv;refine zmJ (I.ok.hd hc) hsys dd (by rw[<- hl];exact hz) λs' acc k1 k2 k3 k4 hacc=> ?_;obtain⟨hp,g,dr,tk,os⟩:=s';obtain⟨hp0,g0,dr0,tk0,os0⟩:=s;dsimp only at k1 k2 k3 k4;subst k2 k3 k4;have I1:z5 X pins σ H ⟨hp,g,dr,tk,os⟩:=I.kept (t':=tk) (h':=hp) k1;refine⟨.ref hp.objs.size,_,I1.laid (t':=tk) (o:= .tup (kvs.map λq=>kV q.1)) (λb o e=>ae _ e) (ao _) ⟨by rw[ac];exact hz,acc.toList,lY ?_ λj v x hv hx=> ?_,by simpa using uJ.new _ _⟩,rfl,q _ I1.fresh⟩
 ·rw[ac,hl];exact hacc.1.symm.trans (fm).symm
 ·obtain⟨k,y,e1,e2⟩:=hacc.2 j v (by simpa using hv)
  obtain⟨z,e3⟩:=ziC kv e1;rw[cg,e3]at hx;have e4:kV k=x:=ce hx;subst e4;rcases sQ e2 with⟨i,t,rfl,rfl⟩ | ⟨z',t,rfl,rfl⟩
  ·exact⟨t,rfl⟩
  ·exact⟨t,rfl⟩
end
end L2
namespace L2
open PySem PySem.Spec PyProof.Rows
namespace RV
theorem owner:Manifest.owners.lookup (String.ofList ['d','e','s','r','e','v','e','r'].reverse)=some Manifest.sig_reversed:=by kernel_rfl
theorem slot_next:Slot "reversed" "__next__" "reversed.__next__" :=
 .of (owner:= "reversed") (n:= "__next__") (by rw[fg,di];kernel_rfl) (by decide+kernel) (by decide+kernel) (by decide+kernel)
  (by first | exact .inl (by decide+kernel) | exact .inr (by decide+kernel)) (by rw[il];kernel_rfl)
theorem entry_next:entryFor table "reversed.__next__" =some Builtin.«reversed.__next__»:=qt (by kernel_rfl)
theorem args_next (a:Value):argsOk "reversed.__next__" ⟨[a],[]⟩:=by
 unfold argsOk;rw[vk (id:= "reversed.__next__") (n:= ['_','_','t','x','e','n','_','_']) (o:= ['d','e','s','r','e','v','e','r']) (by kernel_rfl) owner];kernel_rfl
theorem slot_iter:Slot "reversed" "__iter__" "reversed.__iter__" :=
 .of (owner:= "reversed") (n:= "__iter__") (by rw[fg,di];kernel_rfl) (by decide+kernel) (by decide+kernel) (by decide+kernel)
  (by first | exact .inl (by decide+kernel) | exact .inr (by decide+kernel)) (by rw[il];kernel_rfl)
theorem args_iter (a:Value):argsOk "reversed.__iter__" ⟨[a],[]⟩:=by
 unfold argsOk;rw[vk (id:= "reversed.__iter__") (n:= ['_','_','r','e','t','i','_','_']) (o:= ['d','e','s','r','e','v','e','r']) (by kernel_rfl) owner];kernel_rfl
theorem entry_iter:entryFor table "reversed.__iter__" =some Builtin.«dict_keyiterator.__iter__»:=
 entryFor_alias (id':= "dict_keyiterator.__iter__") (by kernel_rfl) (by first | rfl | decide+kernel | (unfold String.splitOn;simp+decide [String.splitOnAux])) (by decide+kernel) (by kernel_rfl)
theorem zst:Slot "reversed" "__init__" "object.__init__" :=
 .of (owner:= "object") (n:= "__init__") (by rw[fg,di];kernel_rfl) (by decide+kernel) (by decide+kernel) (by decide+kernel)
  (by first | exact .inl (by decide+kernel) | exact .inr (by decide+kernel)) (by rw[il];kernel_rfl)
theorem called:TypeCalled "reversed" "reversed.__new__" "object.__init__" :=
 ⟨by decide+kernel,by decide+kernel,⟨_,_,F.mro_reversed⟩,F.made_reversed,by decide+kernel,by rw[il];kernel_rfl,zst⟩
theorem no_rev:typeLookup (.type "tuple") "__reversed__" =pure none:=by rw[fg,di];kernel_rfl
theorem sub_td:isSubtype (.type "tuple") (.type "dict")=pure false:=by rw[il];kernel_rfl
end RV
def lA (t:Addr)(i:Int):Obj:= {cls:= .type "reversed",data:= .fields #[.ref t,rawInt i]}
section
variable {prog:Program} {w:World} {A:Around} {E:Value->Shared->Prop} {s:Shared}
theorem zmT {t:Addr}{items:Array Value}{Q₁:Value->Shared->Prop}(ht:IsTup s.heap t items)(hz:items.size<=sizeLine)
  (h: ∀tk,Q₁ (.ref s.heap.objs.size) {s with heap:=s.heap.push (lA t ((items.size:Int) - 1)),toks:=tk}):
  codeAny (ay prog w) A (.call (.builtin "reversed.__new__") ⟨[.type "reversed",.ref t],[]⟩) (wants Q₁ E) s:=by
 refine sv ?_;show ak _ A.in1 (do checkBuiltinCall "reversed.__new__" ⟨[.type "reversed",.ref t],[]⟩;again (.builtin "reversed.__new__" ⟨[.type "reversed",.ref t],[]⟩)) _ _ s;refine aa (ik (F.newCall_reversed_1 _) (ah ⟨gt va _,iw F.entry_reversed_new ?_⟩));rw[gm va _];unfold Builtin.«reversed.__new__»;refine aa (ik (newClass_reversed _) ?_)
 try dsimp only
 refine aa (ik (a:=()) (by first | rfl | kernel_rfl) ?_);refine aa (ik (a:=()) (by first | rfl | kernel_rfl) ?_)
 try dsimp only
 refine aa (gd ht.typeIs RV.no_rev ?_)
 try dsimp only
 refine aa ?_;show ak _ A.in1 (isInstance (.ref t) (.type "dict") >>= _) _ _ s;refine aa (jk (b:=false) ht.typeIs RV.sub_td ?_);show ak _ A.in1 (specialOf (.ref t) "__getitem__" >>= _) _ _ s;refine aa (gd ht.typeIs pb.lookup ?_);refine ik (a:=true) (by first | rfl | kernel_rfl) ?_;show ak _ A.in1 (call (.builtin "len") [.ref t] >>= _) _ _ s;refine aa (ua ht (by have:=sR;omega) ?_);refine aa (ik (a:=some (items.size:Int)) (by first | rfl | kernel_rfl) ?_);refine aa (m:=newObj (.type "reversed") (.fields #[.ref t,rawInt ((items.size:Int) - 1)])) (cr (ah (h _)))
theorem zmG {t:Addr}{items:Array Value}{Q:Value->Shared->Prop}(ht:IsTup s.heap t items)(hz:items.size<=sizeLine)
  (h: ∀tk,Q (.ref s.heap.objs.size) {s with heap:=s.heap.push (lA t ((items.size:Int) - 1)),toks:=tk}):ak (ay prog w) A (call (.type "reversed") [.ref t]) Q E s:=by
 refine lh (Q₁:=λobj s₁=>s₁.TypeIs obj "reversed" /\Q obj s₁) RV.called (F.typeCall_reversed_1 _) vn
  (zmT ht hz λtk=>⟨⟨_,br _ rfl,rfl⟩,h tk⟩) λobj s₁ h₁=> ?_
 exact⟨h₁.1,uz obj _,object_init_meets RV.called.init.lookup RV.called.made (by decide) prog w A.in1 _ s₁ ⟨h₁.1,rfl,h₁.2⟩⟩
def uV (h:Heap)(a t:Addr)(i:Int):Prop:=h.get? a=some (lA t i)
theorem zpi {it t:Addr}{i:Nat}{items:Array Value}{x:Value}{Q:Option Value->Shared->Prop}(hit:uV s.heap it t (i:Int))(ht:IsTup s.heap t items)(hz:items.size<=sizeLine)(hx:items[i]?=some x)
  (hQ: ∀h' tk,uV h' it t ((i:Int) - 1)->Heap.SameBut it s.heap h'->Q (some x) {s with heap:=h',toks:=tk}):ak (ay prog w) A (pyNext (.ref it)) Q E s:=by
 have hT:s.TypeIs (.ref it) "reversed" :=⟨_,hit,rfl⟩;have hil:i < items.size:=(jv.mp hx).1;unfold pyNext;refine aa (jw (jb (name:=Str.ofString "__next__") hT RV.slot_next
  (ji RV.slot_next hT RV.entry_next ?_ (RV.args_next _))))
 unfold Builtin.«reversed.__next__»;refine aa (ik (a:=(Value.ref it,[])) rfl ?_)
 try dsimp only
 refine aa (fe hit rfl (x:= .ref t) rfl ?_);refine aa (fe hit rfl (x:=rawInt (i:Int)) rfl ?_);show ak _ _ (if(i:Int) < 0 then _ else _) _ _ s;rw[if_neg (by omega)];refine aa (gd ht.typeIs pb.lookup ?_);show ak _ _ (mkInt (i:Int) >>= _) _ _ s;refine aa (wpAny_mkInt ?_);have hn:=sR;refine aa (jw (PyProof.Rows.getItem_tuple (s:= {s with toks:=s.toks+1}) (j:=i) ht (by omega) (by omega) ?_ hx ?_))
 ·unfold seqIndex?
  have e0: ¬ (i:Int) < 0:=by omega
  simp only[if_neg e0];rw[if_pos (by simp;exact hil)];simp
 ·show ak _ _ (field (.ref it) 1 >>= _) _ _ _
  refine aa (fe hit rfl (x:=rawInt (i:Int)) rfl ?_);refine aa (pd hit (by simp) λh' he' hs'=> ?_);refine ah ⟨x,rfl,ah (hQ h' _ ?_ hs')⟩;exact he'
theorem zpj {it t:Addr}{Q:Option Value->Shared->Prop}(hh:A.handled=none)(hit:uV s.heap it t (-1))
  (hQ: ∀h',Heap.ExtBut it s.heap h'->Q none {s with heap:=h'}):ak (ay prog w) A (pyNext (.ref it)) Q E s:=by
 have hT:s.TypeIs (.ref it) "reversed" :=⟨_,hit,rfl⟩;unfold pyNext;refine aa (jw (jb (name:=Str.ofString "__next__") hT RV.slot_next
  (ji RV.slot_next hT RV.entry_next ?_ (RV.args_next _))))
 unfold Builtin.«reversed.__next__»;refine aa (ik (a:=(Value.ref it,[])) rfl ?_)
 try dsimp only
 refine aa (fe hit rfl (x:= .ref t) rfl ?_);refine aa (fe hit rfl (x:=rawInt (-1)) rfl ?_);show ak _ _ (if(-1:Int) < 0 then _ else _) _ _ s;rw[if_pos (by decide)];refine aa (km ?_);refine aa ?_;show ak _ _ (setField (.ref it) 1 (rawInt (-1)) >>= λ_=>setField (.ref it) 0 .none) _ _ s;refine aa (pd hit (by simp) λh1 he1 hs1=> ?_);refine pd he1 (by simp) λh2 he2 hs2=> ?_
 first
 | show ak _ _ (newExc (.type "StopIteration") [] >>= _) _ _ _
 | (refine aa ?_;show ak _ _ (newExc (.type "StopIteration") [] >>= _) _ _ _)
 refine aa ?_;simp only[newExc,newTuple];refine aa (cr ?_ (by size_fits));refine aa (m:=firstArgMember _ _) (ik (a:=Value.none) (by first | rfl | (simp only[firstArgMember];rfl)) ?_);refine cr ?_ (by size_fits);simp only[raiseNew];refine aa (wpAny_handled ?_)
 first | rw[show A.in1.handled=none from hh] | rw[hh]
 refine aa (ah (wpAny_throw ?_));refine aa (jk (T:= "StopIteration") (b:=true) ⟨_,br _ rfl,rfl⟩ isSubtype_stop ?_);exact ah (hQ _ (((hs1.extBut.trans hs2.extBut).push _).push _))
theorem zi3 {it t:Addr}{i:Int}{Q:Value->Shared->Prop}(hit:uV s.heap it t i)(h:Q (.ref it) s):ak (ay prog w) A (pyIter (.ref it)) Q E s:=by
 have hT:s.TypeIs (.ref it) "reversed" :=⟨_,hit,rfl⟩;refine wpAny_pyIter_slot hT RV.slot_iter (ji RV.slot_iter hT RV.entry_iter ?_ (RV.args_iter _));show ak _ _ (ret (.ref it)) _ _ s;exact ah ⟨_,rfl,"reversed",_,hT,RV.slot_next.lookup,h⟩
end
section
variable {X:Cx} {tg:Expr}
theorem zeX:bootBuiltins "reversed" =some (.type "reversed"):=by decide+kernel
end
end L2
namespace L2
open PySem PySem.Spec PyProof.Rows
section
variable {X:Cx} {pins:List (Addr×Obj)} {σ:St} {H:Hp} {s:Shared}
theorem zjy {α β:Type}{R:α->β->Prop} : ∀{l:List α} {m:List β} {j:Nat} {a:α} {b:β},Paired R l m->l[j]?=some a->m[j]?=some b->R a b
 | _,_,0,a,b,.cons r _,h1,h2=>by
  rw[jd]at h1 h2;rw[<- ce h1,<- ce h2];exact r
 | _,_,j+1,a,b,.cons _ r,h1,h2=>zjy (j:=j) r (by simpa using h1) (by simpa using h2)
theorem zlp {xs:List V}{its:List Value}(r:zJ xs its){j:Nat}(h:j < its.toArray.size): ∃x,xs[j]?=some x/\zN x its.toArray[j]:=by
 have hj:j < xs.length:=by rw[r.length];simpa using h
 obtain⟨u,e,ru⟩:=r.get (i:=j) (x:=xs[j]) (by simp[hj]);refine⟨xs[j],by simp[hj],?_⟩;have:its[j]?=some its.toArray[j]:=by simp
 rw[this]at e;rw[ce e];exact ru
end
end L2
namespace L2
open PySem PySem.Spec PyProof.Rows
section
variable {X:Cx}
theorem zlr: ∀{us:List Value} {ss:List Str},StrsAre us ss->zJ (ss.map V.str) us
 | _,_,.nil=> .nil
 | _,_,.cons _ t r=> .cons ⟨t,rfl⟩ (zlr r)
theorem zmH:w4 X (.builtin "sorted") (λxs H Q=> ∃(l:Addr) (ss:List Str),xs= [.ref l]/\yT X.K H l (ss.map V.str)/\ss.length < 64/\∀p ss',H p=none->ss'.Perm ss->sortedS ss'=true->Q (.ref p) (upd H p (.lst (ss'.map V.str)))):=by
 intro pins s σ H xs us Q I r h;obtain⟨l,ss,rfl,hl,h64,q⟩:=h;obtain⟨u,rfl,ru⟩:=rY r;cases ru;obtain⟨its,rv,p,_⟩:=I.list hl;have hlen:=rv.length;rw[ac]at hlen;refine sorted_strs p.isList (zk7 rv) (by omega) λout ss' h1 h2 h3=> ?_;obtain⟨e,he⟩:=sortedAll_at s.heap its out;have hn:H (s.heap.objs.size+1)=none:=I.hok.fresh (fz _);refine⟨.ref (s.heap.objs.size+1),_,I.laid (t':=s.toks) (o:= .lst (ss'.map V.str)) (λb u z=>sortedAll_old z) (fz _) ⟨?_,out.toList,e,zlr h1,?_⟩,rfl,q _ ss' hn h2 h3⟩
 ·rw[ac,h2.length_eq]
  exact bf (lx h64) (by decide)
 ·rw[oi];exact he
theorem zju:yA X (binaryOp .Mult) (λx y H Q=> ∃(z:Str) (n:Int),x= .str z/\y= .int n/\((n=0/\Q (.str Str.empty) H)∨(n=1/\Q (.str z) H))):=by
 intro pins s σ H x y v u Q I rx ry h;obtain⟨z,n,rfl,rfl,h⟩:=h;obtain⟨t,rfl⟩:=rx;obtain⟨t',rfl⟩:=ry;rcases h with⟨rfl,q⟩ | ⟨rfl,q⟩
 ·exact PySem.P.mul_str_none (by decide) (by decide) ⟨.str Str.empty,H,I.tok _,⟨_,rfl⟩,q⟩
 ·refine PySem.P.mul_str (by decide) (λ_ h=>by cases h) (λ_ h=>by cases h) ?_
  rw[if_neg (by decide),if_pos (show((1:Int)==1||z.length==0)=true from rfl)];exact⟨.str z,H,I,⟨_,rfl⟩,q⟩
end
end L2
namespace L2
open PySem PySem.Spec PyProof.Rows
def Rw (H:Hp)(p:Addr)(xs:List Str):Prop:=H p=some (.tup (xs.map V.str))
section
variable {prog:Program} {w:World} {A:Around} {E:Value->Shared->Prop} {s:Shared}
theorem znC {t sl:Addr}{items:Array Value}{vl vu:Value}{lo hi:Option Int}{Q:Value->Shared->Prop}(ht:IsTup s.heap t items)(hs:s.heap.IsSliceOf sl vl vu .none)(pl:IsPart vl lo)(pu:IsPart vu hi)
  (hw:HT.sIx items.size 0 lo=0/\HT.sIx items.size items.size hi=items.size) (h:Q (.ref t) s):ak (ay prog w) A (getItem (.ref t) (.ref sl)) Q E s:=by
 obtain⟨os,hos,hcs,hds⟩:=id hs;have hTs:s.TypeIs (.ref sl) "slice" :=⟨os,hos,hcs⟩;unfold getItem
 try with_reducible refine cq ?_
 first | refine aa (ah ?_) | skip
 refine aa (pz ht.typeIs (by decide) ?_);refine aa (jb (name:=Str.ofString "__getitem__") ht.typeIs cy
  (ji cy ht.typeIs oo ?_ (ow _ _)))
 show ak _ _ (Builtin.Tuple.tupleItemsOf (.ref t) >>= _) _ _ s;refine aa (vj ht ?_);refine aa (ib hTs ?_);rw[if_pos (by decide)];refine aa (HT.sliceApplied_gen hs pl pu ?_);have hyes:((((HT.sIx items.size 0 lo:Nat):Int)==0&&(1:Int)==1&&(HT.sIx items.size items.size hi - HT.sIx items.size 0 lo)==items.size)=true):=by
  rw[hw.1,hw.2];simp
 show ak _ _ (if(((HT.sIx items.size 0 lo:Nat):Int)==0&&(1:Int)==1&&(HT.sIx items.size items.size hi - HT.sIx items.size 0 lo)==items.size)=true then _ else _) _ _ s;rw[if_pos hyes];unfold Builtin.Tuple.tupleIsExact;refine aa (aa (ib ht.typeIs (ah ?_)));rw[if_pos (by decide)];refine aa (km ?_)
 first
  | exact ah ⟨_,rfl,ah h⟩
  | exact aa (ah (ah ⟨_,rfl,ah h⟩))
  | exact aa (ah ⟨_,rfl,ah h⟩)
end
section
variable {X:Cx}
def zn8 (K:Frag)(n:Nat)(t:u6):TG:=λv σ H Q=> ∃a xs,v= .ref a/\yT K H a xs/\xs.length=n/\t xs σ H Q
theorem zqE {es:List Expr}{k:Nat}{t:u6}{n:Nat}{pos:Pos}(hc:X.calm=true)(h:vL X es t)
  (hn:(assignEach es X.env).length=n:=by rfl) (hst:(assignEach es X.env).findIdx? (·.1)=none:=by rfl):PG X (.Tuple es k pos) (zn8 X.K n t):=⟨by
 intro pins s σ H v u Q I r hw;obtain⟨a,xs,e1,hq,hl,hw⟩:=hw;subst e1;cases r;obtain⟨its,rv,ht,hz⟩:=I.list hq;rw[assign_Tuple];refine aa (ju ?_);unfold unpack;rw[show(assignEach es X.env).length=its.toArray.size from by simp[hn,<- hl,rv.length],hst];refine aa (cq (PySem.W.kun_itemsOf (I.ok.hd hc) ht.isList λh' hx=> ?_));have I1:z5 X pins σ H {s with heap:=h'} :=I.kept (t':=s.toks) λb o e=>hx b o (bb (aw e)) e;exact h pins _ σ H xs _ Q I1 (by simpa using rv) hw⟩
variable {a b c d:Expr} {ta tb tc td:TE} {pos:Pos}
end
end L2
namespace L2
open PySem PySem.Spec PyProof.Rows
namespace RV
theorem no_len:typeLookup (.type "reversed") "__len__" =pure none:=by rw[fg,di];kernel_rfl
theorem slot_hint:Slot "reversed" "__length_hint__" "reversed.__length_hint__" :=
 .of (owner:= "reversed") (n:= "__length_hint__") (by rw[fg,di];kernel_rfl) (by decide+kernel) (by decide+kernel) (by decide+kernel)
  (by first | exact .inl (by decide+kernel) | exact .inr (by decide+kernel)) (by rw[il];kernel_rfl)
theorem entry_hint:entryFor table "reversed.__length_hint__" =some Builtin.«reversed.__length_hint__»:=qt (by kernel_rfl)
theorem args_hint (a:Value):argsOk "reversed.__length_hint__" ⟨[a],[]⟩:=by
 unfold argsOk;rw[vk (id:= "reversed.__length_hint__") (n:= ['_','_','t','n','i','h','_','h','t','g','n','e','l','_','_']) (o:= ['d','e','s','r','e','v','e','r']) (by kernel_rfl) owner];kernel_rfl
end RV
section
variable {prog:Program} {w:World} {A:Around} {E:Value->Shared->Prop} {s:Shared}
theorem zlZ (hh:A.handled=none)(I t:Addr)(hne:t≠I)(items:Array Value)(hz:items.size<=sizeLine):
  Walks prog w A I [I,t] [I] items.size (λi v=>items[items.size - 1 - i]?=some v) (λi h=>i<=items.size/\uV h I t ((items.size:Int) - 1 - (i:Int))/\IsTup h t items) where
 sub:=λb hb=>by simp at hb;simp[hb]
 frame:=λ_ _ _ st hk=>by
  obtain⟨h0,h1,o,e,c,n,d⟩:=st;exact⟨h0,hk I (by simp) _ h1,o,hk t (by simp) o e,c,n,d⟩
 item:=λi s Q E hi st hQ=>by
  obtain⟨h0,h1,ht⟩:=st;have e:(items.size:Int) - 1 - (i:Int)=((items.size - 1 - i:Nat):Int):=by omega
  rw[e]at h1;have hj:items.size - 1 - i < items.size:=by omega
  refine zpi h1 ht hz (x:=items[items.size - 1 - i]) (by simp[hj]) λh' tk hit' sb=> ?_;have e2:((items.size - 1 - i:Nat):Int) - 1=(items.size:Int) - 1 - ((i+1:Nat):Int):=by omega
  rw[e2]at hit';obtain⟨o,eo,c,n,d⟩:=ht;exact hQ _ h' tk (by simp[hj]) ⟨hi,hit',o,(sb.2 t hne).trans eo,c,n,d⟩ λb o hb e=>(sb.2 b λh=>hb (by simp[h])).trans e
 done:=λs Q E st hQ=>by
  obtain⟨h0,h1,ht⟩:=st;have e:(items.size:Int) - 1 - (items.size:Int)= -1:=by omega
  rw[e]at h1;exact zpj hh h1 λh' eb=>hQ h' s.toks λb o hb e=>eb b o (λh=>hb (by simp[h])) e
 self:=λ_ _ _ _ st h=>zi3 st.2.1 h
theorem znL {I t:Addr}{items:Array Value}{Q:Value->Shared->Prop}(hit:uV s.heap I t ((items.size:Int) - 1))(ht:IsTup s.heap t items)(hz:items.size<=sizeLine)
  (h: ∀tk u,s.toks<=tk->Q (.int (items.size:Int) u) {s with toks:=tk}):ak (ay prog w) A (call (.builtin "reversed.__length_hint__") [.ref I]) Q E s:=by
 have hT:s.TypeIs (.ref I) "reversed" :=⟨_,hit,rfl⟩;refine ji RV.slot_hint hT RV.entry_hint ?_ (RV.args_hint _);unfold Builtin.«reversed.__length_hint__»;refine aa (ik (a:=Value.ref I) rfl ?_);refine aa (fe hit rfl (x:= .ref t) rfl ?_);show ak _ _ (call (.builtin "len") [.ref t] >>= _) _ _ s;refine aa (ua ht (by have:=sR;omega) ?_);refine aa (ik (a:=some (items.size:Int)) (by first | rfl | kernel_rfl) ?_);refine aa (fe (s:= {s with toks:=s.toks+1+1}) hit rfl (x:=rawInt ((items.size:Int) - 1)) rfl ?_);show ak _ _ (if(items.size:Int) < (items.size:Int) - 1+1 then _ else _) _ _ _;rw[if_neg (by omega)];unfold retInt;refine aa (wpAny_mkInt ?_);have e:(items.size:Int) - 1+1=items.size:=by omega
 rw[e];exact ah ⟨_,rfl,h _ _ (by show s.toks<=s.toks+1+1+1;omega)⟩
end
section
variable {X:Cx}
end
end L2
namespace L2
open PySem PySem.Spec PyProof.Rows
def zez (f:Addr)(o:Obj):Heap->Prop:=λh=>h.get? f=some o
def zeg (c:Addr)(q:Str):Heap->Prop:=λh=> ∃o vs t,h.get? c=some o/\o.data= .fields vs/\vs[1]?=some (.str q t)
def less (H:Hp)(c:Addr):Hp:=λb=>if b=c then none else H b
def qE (H K:Hp)(c:Addr):Hp:=λb=>if b=c then K c else H b
end L2
namespace L2
open PySem PySem.Spec PyProof.Rows
section
variable {X:Cx}
end
end L2
namespace L2
open PySem PySem.Spec PyProof.Rows
end L2
namespace L2
open PySem PySem.Spec PyProof.Rows
section
variable {X:Cx} {pins:List (Addr×Obj)} {σ:St} {H:Hp} {s:Shared} {scope:Scope} {N' own:List Str}
theorem zjH {elt target iter:Expr}{ifs:List Expr}{pos spos pos':Pos}{i0:Nat}{x:Str}{wi:TI}{g:TG}{tt:TT}{te:TE}(hN:X.N.Nodup)(hi0:X.N[i0]?=some x)(hx:uW X.env.scope x)(S:sE X scope N' own)(hc:X.calm=true)(hi:PI X target iter wi)
  (hg: ∀C s H fp pins,PG (xF X scope (N'++own) C s H fp pins) target g) (ht: ∀C s H fp pins,PF (xF X scope (N'++own) C s H fp pins) ifs tt) (he: ∀C s H fp pins,PE (xF X scope (N'++own) C s H fp pins) elt te)
  (hs: ∀x,foldedSetIterable iter X.env x=pure x:=by intro _;rfl) (hsw:swapsWith (.ListComp elt [⟨target,iter,ifs,0⟩] scope pos) (some (.Name x pos')) spos.line X.env=pure true:=by rfl)
  (hf:X.fn x=true∨X.env.scope.names.lookup x=some .local:=by first | exact .inl rfl | exact .inr rfl | assumption):
  PS X (.Assign [.Name x pos'] (.ListComp elt [⟨target,iter,ifs,0⟩] scope pos) spos) (lT (gZ own.length wi g tt te) (jI i0)):=by
 refine⟨?_⟩;intro pins s σ H D0 I h;rw[exec_Assign_Name_used _ _ _ _ hsw];refine aa (ju (aa ?_));show ak _ X.A (do let _ <- comprehension (.ListComp elt [⟨target,iter,ifs,0⟩] scope pos) scope X.env _ (newList []) false (eval iter X.env) (some (assign (.Name x pos') X.env))) _ _ s;refine aa (jp (qr (use:=some (assign (.Name x pos') X.env)) (Q:=λ_ s'=>SP X pins D0 .next s') rfl hs (zfn (S.cells I)) S.kind S.names ?_) (λ_ s' hq=>ah (ah hq)) λ_ _ e=>e);refine zM (hi pins s σ H _ I h) λv s1 h1=>zM h1 λitv s2 h2=> ?_;obtain⟨it,fp,tn,J,H2,e,I2,T,st2,f2,W,⟨m0,w0⟩,turn⟩:=h2;subst e;have fl: ∀b∈fp,b < s2.heap.objs.size:=λb hb=>by obtain⟨o,e,_⟩:=T.obj _ _ st2 b hb;exact aw e
 refine cr (ux S.nocell (by intro y hy;simp at hy) (λh4 ns4 sb4=> ?_) S.kind);dsimp only at ns4 sb4⊢
 generalize hH3:s2.heap.push {cls:= .type "list",dict:=none,data:= .seq ([]:List Value).toArray} =h3 at ns4 sb4⊢
 have hC:h3.objs.size=s2.heap.objs.size+1:=by rw[<- hH3,iu]
 have hDC:s2.heap.objs.size≠h3.objs.size:=by rw[hC];exact bb (nc _)
 have hCle:s2.heap.objs.size<=h3.objs.size:=by rw[hC];exact fz _
 have eD3:h3.get? s2.heap.objs.size=some {cls:= .type "list",data:= .seq ([]:List Value).toArray} :=hH3▸br _ rfl;have k4: ∀b u,s2.heap.get? b=some u->h4.get? b=some u:=λb u e=>
  (sb4.2 b (bb (bj (aw e) hCle))).trans (ae _ (hH3▸ae _ e))
 have eD4:h4.get? s2.heap.objs.size=some {cls:= .type "list",data:= .seq ([]:List Value).toArray} :=(sb4.2 _ hDC).trans (ae _ eD3);generalize hDd:s2.heap.objs.size=D at *;generalize hCd:h3.objs.size=C at *;have I4:=zix S I2 (C:=C) (D:=D) (fp:=fp) (h4:=h4) (tk:=s2.toks+([]:List (Str×Value)).length) k4 (by rw[hDd];exact hCle) (by rw[hDd];exact ao _) hDC eD4 (by intro v z;cases z) ns4 f2 (by rw[hDd];exact fl);have lowC: ∀(b:Addr) (u:Obj),s2.heap.get? b=some u->b≠C:=λb u e=>bb (bj (aw e) (by rw[hDd];exact hCle));have nofp: ∀b∈fp,b∉xS X.stack:=λb hb hm=>by
  rcases az.mp (I2.stkSub b hm)with z | z
  ·exact(f2 b hb).2.1 z
  ·exact(f2 b hb).2.2.1 z
 have fpD: ∀b∈fp,b≠D:=λb hb=>bb (fl b hb);have stat: ∀{H':Hp} {o:Obj},(∀b∈fp,H' b=none)->∀b∈fp,rA (xF X scope (N'++own) C s2 H2 fp pins) [(D,o)] H' b:=λ{H' o} hn b hb=>
  ⟨hn b hb,bb (bj (fl b hb) hCle),nofp b hb,.inl hb,λx c e=>(f2 b hb).2.2.2.2.1 x c (rH S I2 e),λp hp=>by
   have hp':p∈(X.pn++pins)++ [(D,o)]:=hp;rcases au.mp hp' with z | z
   ·exact(f2 b hb).2.2.2.2.2 p z
   ·have e:p=(D,o):=by simpa using z
    rw[e];exact dk (fpD b hb)⟩
 have loop: ∀s3:Shared,z5 (xF X scope (N'++own) C s2 H2 fp pins) [(D,{cls:= .type "list",data:= .seq ([]:List Value).toArray})] (σ++List.replicate own.length none) H2 s3->tn 0 s3.heap->
   codeAny (ay X.prog X.w) X.A (.compLoop (.ListComp elt [⟨target,iter,ifs,0⟩] scope pos) 0 (.ref it) (.ref D) (compEnvC scope (u8 scope.names X.env.cells) C X.env))
    (compPost (ay X.prog X.w) X.A X.xe (some (assign (.Name x pos') X.env)) (λ_ s'=>SP X pins D0 .next s') (.ref D) C) s3:=by
  intro s3 I3 st3;refine zfo (λn s'=> ∃(i:Nat) (ys:List V) (σ':St) (H':Hp) (vals:List Value) (cnt:Nat),z5 (xF X scope (N'++own) C s2 H2 fp pins) [(D,{cls:= .type "list",data:= .seq vals.toArray cnt})] σ' H' s'/\
   tn i s'.heap/\(∀b∈fp,H' b=none)/\zJ ys vals/\W i n ys σ' H') ?_ m0 ⟨0,[],_,H2,[],0,I3,st3,λb hb=>(f2 b hb).1,.nil,w0⟩
  rintro n s3 ⟨i,ys,σ3,H3,vals,cnt,I3,st3,fr3,rv,w3⟩;rcases turn i n ys σ3 H3 w3 with⟨stop,hz,q⟩ | ⟨go,hz,N,hN,step⟩
  ·refine zM (T.done (xF X scope (N'++own) C s2 H2 fp pins) rfl rfl rfl hc i _ s3 σ3 H3 _ I3 (stat fr3) st3 stop) λr s4 ⟨hr,I4⟩=> ?_
   subst hr;obtain⟨m,ns,_⟩:=id I4.loc;have u4:Un (xS X.stack) fp H2 H3 s2.heap s4.heap:=I4.base;have nC:H3 C=none:=I4.free;have I5:z5 X pins σ H3 s4:=I2.call' (ch:=fp) I4.os u4 I4.hok I4.bare λb hb=>⟨(f2 b hb).2.2.2.1,(f2 b hb).2.1,(f2 b hb).2.2.2.2.1,(f2 b hb).2.2.2.2.2⟩;obtain⟨eD,nD,_⟩:=I4.pin (D,_) (af _ ar);have lL:X.env.locals < D:=by have:=I2.lt;rw[hDd]at this;exact this
   have lcl: ∀x c,X.env.cells.lookup x=some c->c < D:=λx c e=>by
    obtain⟨v,o,ho,_⟩:=I2.cell x c e;have:=aw ho;rw[hDd]at this;exact this
   have lp: ∀p∈X.pn++pins,p.1 < D:=λp hp=>by have:=aw (I2.pin p hp).1;rw[hDd]at this;exact this
   have lDC:D < C:=Nat.lt_of_le_of_ne hCle hDC;have I6:z5 X pins σ (upd H3 D (.lst ys)) s4:=ziy I5 nD (by rw[<- hDd];exact I2.sz) (dz lL) (λx c e=>bb (lcl x c e)) (λp hp=>bb (lp p hp)) ⟨hz,vals,cnt,rv,eD⟩;refine wpAny_assign_Name (zk5 I6 hN hi0 hx (v:= .ref D) rfl (λs5 I7 ⟨a,sba,ha⟩=> ?_) hf);have nCa:C≠a:=by
    rcases ha with z | z
    ·rw[z];exact dz (ie lL lDC)
    ·exact dz (ie (lcl _ _ z) lDC)
   obtain⟨oC,esC,epC,eC,rC⟩:=ns;refine⟨m,⟨oC,esC,epC,(sba.2 C nCa).trans eC,rC⟩,λh' sb=> ?_⟩;refine⟨_,_,I7.turned (t':=s5.toks) (it:=C) (λb o hb e=>(sb.2 b hb).trans e) (by rw[yN (dz lDC)];exact nC) (dz (ie lL lDC)) (.inr (bf (by rw[<- hDd];exact I2.sz) (lx lDC))) (λx c e=>bb (ie (lcl x c e) lDC)) (λp hp=>bb (ie (lp p hp) lDC)),q D nD⟩
  ·refine zM (T.item (xF X scope (N'++own) C s2 H2 fp pins) rfl rfl rfl hc i _ s3 σ3 H3 _ I3 (stat fr3) st3 go) λr s4 ⟨u,hr,h4⟩=> ?_
   subst hr;refine zM h4 λ_ s5 ⟨x,H5,I5,r5,y5,st5,fr5⟩=> ?_;have I5':=I5.pinned (stat fr5) (T.obj _ _ st5);have keepT: ∀{σ7:St} {H7:Hp} {s7:Shared} {pl:List (Addr×Obj)},z5 (xF X scope (N'++own) C s2 H2 fp pins) (pl++sU fp s5.heap) σ7 H7 s7->tn (i+1) s7.heap/\∀b∈fp,H7 b=none:=λ{σ7 H7 s7 pl} I7=>
    ⟨T.keep _ _ _ st5 λb hb o e=>(I7.pin (b,o) (af _ (af _ (oU hb e)))).1,λb hb=>by
     obtain⟨o,e,d⟩:=T.obj _ _ st5 b hb;exact(I7.pin (b,o) (af _ (af _ (oU hb e)))).2.1⟩
   refine oX (hg C s2 H2 fp pins _ s5 σ3 H5 x u _ I5' r5 (step x H5 y5)) λ_ s6 ⟨σ6,H6,I6,q6⟩=> ?_;refine oX (ht C s2 H2 fp pins _ s6 σ6 H6 _ I6 q6) λb s7 ⟨H7,I7,q7⟩=> ?_;cases b with
   | false=>
    obtain⟨m',hm,w7⟩:=hN _ _ _ q7;obtain⟨t7,fr7⟩:=keepT I7;exact⟨m',hm,i+1,ys,σ6,H7,vals,cnt,I7.unpinned,t7,fr7,rv,w7⟩
   | true=>
    refine oX (he C s2 H2 fp pins _ s7 σ6 H7 _ I7 q7) λy s8 ⟨yv,H8,I8,r8,q8⟩=> ?_;obtain⟨m',hm,w8⟩:=hN _ _ _ q8;obtain⟨eD,nD,neD,nfD,cD⟩:=I8.pin (D,_) (af _ (ax _ ar));have hvl:=rv.length;refine lm pc ⟨_,eD,rfl⟩ oq (ny _ _) (qb D vals.toArray cnt y (by rw[be];omega)) ⟨eD,?_⟩;have I8':z5 (xF X scope (N'++own) C s2 H2 fp pins) (sU fp s5.heap) σ6 H8 s8:=I8.pins_of λp hp=>I8.pin p (af _ (af _ hp));have hno: ∀p∈(X.pn++pins)++sU fp s5.heap,p.1≠D:=λp hp=>by
     rcases au.mp hp with z | z
     ·intro q
      have:=aw (I2.pin p z).1;rw[hDd,q]at this;exact eh _ this
     ·exact fpD _ (zcK z).1
    have I9:=I8'.turned (t':=s8.toks) (it:=D) (h':=s8.heap.update D (Obj.mapSeq λx=>x.push y)) (λb o hb e=>(bp s8.heap _ (dk hb)).trans e) nD neD (.inr (by show s2.heap.objs.size<=D;rw[hDd];exact ao _))
     (λx c e z=>by
      obtain⟨v,o,ho,_⟩:=I2.cell x c (rH S I2 e);have:=aw ho;rw[hDd,z]at this;exact eh _ this) hno
    obtain⟨t9,fr9⟩:=keepT (pl:= []) I9;have qD: ∃n',(s8.heap.update D (Obj.mapSeq λx=>x.push y)).get? D=some {cls:= .type "list",data:= .seq (vals++ [y]).toArray n'} :=by
     have q:=qo (l:=D) (items:=vals.toArray) (n:=cnt) (h:=s8.heap) eD λx=>x.push y;have e:vals.toArray.push y=(vals++ [y]).toArray:=by simp
     rw[<- e];exact⟨_,q⟩
    obtain⟨n',qD⟩:=qD;refine⟨m',hm,i+1,ys++ [yv],σ6,H8,vals++ [y],n',I9.pins_of λp hp=> ?_,t9,fr9,rv.append (.cons r8 .nil),w8⟩;have e:=aj.mp hp;rw[e];exact⟨qD,nD,neD,nfD,by intro v z;cases z⟩
 have t4:tn 0 h4:=T.keep _ _ _ st2 λb _ o e=>k4 b o e;exact tz (loop _ I4 t4) (T.self _ 0 _ _ _ t4 (loop _ I4 t4))
end
end L2
namespace L2
open PySem PySem.Spec PyProof.Rows PySem.W
section
variable {n:Nat} {rk:Nat->Nat} {cmp:Nat->Nat->(Bool->Shared->Prop)->Shared->Prop} {s:Shared} {p:Array Nat}
end
end L2
namespace L2
open PySem PySem.Spec PyProof.Rows PySem.W
end L2
namespace L2
open PySem PySem.Spec PyProof.Rows PySem.W
section
variable {prog:Program} {w:World} {A:Around} {E:Value->Shared->Prop} {s:Shared}
end
end L2
namespace L2
open PySem PySem.Spec PyProof.Rows PySem.W
section
variable {X:Cx} {pins:List (Addr×Obj)} {σ:St} {H H':Hp} {s:Shared} {h':Heap}
end
end L2
namespace L2
open PySem PySem.Spec PyProof.Rows PySem.W
section
variable {X:Cx}
end
end L2
namespace L2
open PySem PySem.Spec PyProof.Rows PySem.W
section
variable {prog:Program} {w:World} {A:Around} {E:Value->Shared->Prop} {s:Shared}
theorem ztu:typeLookup (.type "tuple") "keys" =pure none:=by rw[fg,di];kernel_rfl
theorem zoq {a:Addr}{xs:Array Value}{k:Nat}{sl:Array (Option Value)}{u:Tok}{Q:Value->Shared->Prop}
  (hx:s.heap.get? a=some {cls:= .type "tuple",dict:=none,data:= .seq xs k,slots:=sl}) (hA:A.handled=none)
  (h: ∀h' tk e,Heap.NewExcOf s.heap h' e "AttributeError" ->E (.ref e) {s with heap:=h',toks:=tk}):
  ak (ay prog w) A (getAttrBy (.ref a) (.str "keys" u) false) Q E s:=by
 obtain⟨hp,g,d,tk,os⟩:=s;have hT: ∀tk',(⟨hp,g,d,tk',os⟩:Shared).TypeIs (.ref a) "tuple" :=λ_=>⟨_,hx,rfl⟩;have f1:=md;have f3:=lu.lookup;have f4:=lu.bind (.ref a);have f5:=am_tuple_getattr_none;unfold getAttrBy
 repeat(any_goals (first | assumption | exact hT _ | ((with_reducible show ak _ _ (call (Value.builtin "tuple.__getattribute__") _ _) _ _ _);refine lm lu (hT _) am_entry_tuple_getattribute (F.args_tuple_getattribute_2 _ _) (meets_getattribute_miss_tuple a xs k sl "keys" _ ztu (by decide+kernel) (by size_fits)) ⟨hx,hA,λh' tk' e hx'=> ?_⟩) | wp_step))
 obtain⟨t',u',he⟩:=hx'.there;show ak _ _ (getattributeRaised _ _ _ _ _ _ _) _ _ _;unfold getattributeRaised
 repeat(any_goals (first | assumption | wp_step))
 exact h _ _ _ hx'.of
theorem zos {a:Addr}{xs:Array Value}{k:Nat}{sl:Array (Option Value)}{Q:Option Value->Shared->Prop}
  (hx:s.heap.get? a=some {cls:= .type "tuple",dict:=none,data:= .seq xs k,slots:=sl}) (hA:A.handled=none)
  (h: ∀h' tk,(∀b o,s.heap.get? b=some o->h'.get? b=some o)->Q none {s with heap:=h',toks:=tk}):
  ak (ay prog w) A (getAttr? (.ref a) "keys") Q E s:=by
 unfold getAttr? getAttrBy?;refine aa (wb ?_);refine aa (jw ?_);refine zoq hx hA λh' tk e x=> ?_;obtain⟨o,xs',he,hc,_⟩:=x.there;refine aa (jk (T:= "AttributeError") ⟨_,he,hc⟩ md ?_);rw[if_pos rfl];exact ah (h h' tk x.keeps)
end
end L2
namespace L2
open PySem PySem.Spec PyProof.Rows PySem.W
theorem j8:entryFor table "dict.update.loop" =some Builtin.«dict.update.loop»:=qt (by kernel_rfl)
theorem qL:plainId "dict.update.loop" =true:=by decide+kernel
section
variable {prog:Program} {w:World} {A:Around} {E:Value->Shared->Prop} {s:Shared}
theorem zjx {b:Addr}{key x:Value}{Q:List Value->Shared->Prop}(hb:IsTup s.heap b #[key,x])(h:Q [key,x] s):ak (ay prog w) A (Builtin.Dict.pairItems (.ref b)) Q E s:=by
 obtain⟨o,ho,hc,n,hd⟩:=hb;unfold Builtin.Dict.pairItems;refine aa (ib (T:= "tuple") ⟨_,ho,hc⟩ ?_);rw[if_pos (by decide)];exact aa (uh ho hd (ah h))
theorem nV {h h':Heap}{b:Addr}{xs:Array Value}(x:IsTup h b xs)(k: ∀o,h.get? b=some o->h'.get? b=some o):IsTup h' b xs:=let⟨o,ho,r⟩:=x;⟨o,k o ho,r⟩
theorem zfp {K:Type}[DecidableEq K]{knd:KeyKind prog w K}{D I t:Addr}{items:Array Value}{res:Value}{R:Result->Shared->Prop}(hh:A.handled=none)(hIt:I≠t)(hDt:D≠t)(hDI:D≠I):
  ∀(zO:List (K×Addr×Value)) (i:Nat) (kvs:List (K×Value)) (z:Int) (tok:Tok) (s:Shared),IsTupIter s.heap I t i->IsTup s.heap t items->s.heap.DictOf knd D kvs->
   items.toList.drop i=zO.map (λq=>Value.ref q.2.1)->(∀q∈zO,(∃key,knd.is q.1 key=true/\IsTup s.heap q.2.1 #[key,q.2.2])/\q.2.1≠I/\q.2.1≠D)->kvs.length+zO.length<=sizeLine->
   (∀h' tk,h'.DictOf knd D (merged kvs (zO.map λq=>(q.1,q.2.2)))->(∀b o,b≠I->b≠D->s.heap.get? b=some o->h'.get? b=some o)->R (.ok (.ret res)) {s with heap:=h',toks:=tk})->
   codeAny (ay prog w) A (.builtin "dict.update.loop" ⟨[.ref D,.ref I,.int z tok,res],[]⟩) R s
 | [],i,kvs,z,tok,s,hit,ht,hm,hd,hq,hsz,h=>by
  refine iw j8 ?_;rw[gm qL _];have hx:items[i]?=none:=by
   rw[<- gz];have:items.toList.length<=i:=vb.mp hd;exact qg.mpr this
  show ak _ A.in1 (pyNext (.ref I) >>= _) _ _ _;refine aa (next_tuple_end (A:=A.in1) hh hit ht hx λh1 k1=> ?_);show ak _ A.in1 (Builtin.Dict.addKeywords D [] >>= λ_=>ret res) _ _ _;refine aa (ah (ah ?_));exact h h1 s.toks (hm.at λo e=>k1 D o hDI e) λb o b1 _ e=>k1 b o b1 e
 | q::zO,i,kvs,z,tok,s,hit,ht,hm,hd,hq,hsz,h=>by
  refine iw j8 ?_;rw[gm qL _];obtain⟨⟨key,hk,hb⟩,hbI,hbD⟩:=hq q (.head _);have hx:items[i]?=some (Value.ref q.2.1):=by
   rw[<- gz];have:=congrArg (λl=>l[0]?) hd;simpa using this
  have hd':items.toList.drop (i+1)=zO.map (λq=>Value.ref q.2.1):=by
   have:=congrArg List.tail hd;simpa using this
  show ak _ A.in1 (pyNext (.ref I) >>= _) _ _ _;refine aa (next_tuple_item (A:=A.in1) hit ht hx λh1 it1 sb1=> ?_);have hb1:IsTup h1 q.2.1 #[key,q.2.2]:=nV hb λo e=>(sb1.2 _ hbI).trans e;have hm1:h1.DictOf knd D kvs:=hm.at λo e=>(sb1.2 D hDI).trans e;dsimp only;refine aa (cq ?_);refine aa (wpAny_tryCatch (zjx (s:= {s with heap:=h1}) hb1 ?_));dsimp only;refine cq (vo (s:= {s with heap:=h1}) hk hm1 (λh2 hm2 sb2=> ?_) (by have:=hsz;simp only[bq]at this;omega));refine ah ⟨gt qL _,?_⟩;have hlen:(stored kvs q.1 q.2.2).length<=kvs.length+1:=by
   unfold stored
   split <;> simp
  refine zfp hh hIt hDt hDI zO (i+1) (stored kvs q.1 q.2.2) _ _ _ (let⟨o,ho,r⟩:=it1;⟨o,(sb2.2 I (dk hDI)).trans ho,r⟩) ?_ hm2 hd' (λq' m=> ?_) (by simp only[bq]at hsz;omega) λh' tk a b=> ?_
  ·obtain⟨o,ho,r⟩:=ht
   exact⟨o,(sb2.2 t (dk hDt)).trans ((sb1.2 t (dk hIt)).trans ho),r⟩
  ·obtain⟨⟨key',hk',hb'⟩,hbI',hbD'⟩:=hq q' (.tail _ m)
   exact⟨⟨key',hk',nV hb' λo e=>(sb2.2 _ hbD').trans ((sb1.2 _ hbI').trans e)⟩,hbI',hbD'⟩
  ·refine h h' tk a λc o c1 c2 e=>b c o c1 c2 ((sb2.2 c c2).trans ((sb1.2 c c1).trans e))
theorem zmA {K:Type}[DecidableEq K]{knd:KeyKind prog w K}{t:Addr}{n:Nat}{sl:Array (Option Value)}{zO:List (K×Addr×Value)}{Q:Value->Shared->Prop}(hh:A.handled=none)
  (ht:s.heap.get? t=some {cls:= .type "tuple",dict:=none,data:= .seq (zO.map λq=>Value.ref q.2.1).toArray n,slots:=sl})
  (hq: ∀q∈zO,∃key,knd.is q.1 key=true/\IsTup s.heap q.2.1 #[key,q.2.2]) (hsz:zO.length<=sizeLine)
  (h: ∀h' tk,h'.DictOf knd s.heap.objs.size (merged [] (zO.map λq=>(q.1,q.2.2)))->(∀b o,s.heap.get? b=some o->h'.get? b=some o)->Q (.ref s.heap.objs.size) {s with heap:=h',toks:=tk}):
  ak (ay prog w) A (call (.type "dict") [.ref t]) Q E s:=by
 refine lh (Q₁:=λobj s₁=>obj= .ref s.heap.objs.size/\s₁= {s with heap:=s.heap.push {cls:= .type "dict",data:= .dict #[]}}) F.kt_called_dict (vc _) wu (kt_code_dict_new _ ⟨rfl,rfl⟩) ?_;rintro obj s₁ ⟨rfl,rfl⟩;have hnew:(s.heap.push {cls:= .type "dict",data:= .dict #[]}).DictOf knd s.heap.objs.size []:=su s.heap;have ht1:(s.heap.push {cls:= .type "dict",data:= .dict #[]}).get? t=some {cls:= .type "tuple",dict:=none,data:= .seq (zO.map λq=>Value.ref q.2.1).toArray n,slots:=sl} :=ae _ ht;refine⟨hnew.typeIs,wc _ _,?_⟩;unfold Builtin.«dict.__init__»;refine aa ?_;unfold Builtin.Dict.selfAndRest;refine aa (uk hnew.typeIs ?_);show ak _ _ (pure (s.heap.objs.size,[Value.ref t])) _ _ _;refine ah ?_;show ak _ _ (Builtin.Dict.updateFrom "dict.__init__" s.heap.objs.size (.ref t) [] .none) _ _ _;unfold Builtin.Dict.updateFrom;refine aa (ib (T:= "tuple") ⟨_,ht1,rfl⟩ ?_);rw[if_pos (by decide)];refine aa (zos ht1 hh λh1 tk k1=> ?_);rw[if_pos (show(none:Option Value).isNone=true from rfl)];refine aa (km ?_);have ht2:=k1 _ _ ht1;have hD1:h1.DictOf knd s.heap.objs.size []:=hnew.at λo e=>k1 _ o e;refine aa (iter_tuple (s:= {s with heap:=h1,toks:=tk}) ⟨_,ht2,rfl,_,rfl⟩ ?_);have lD:s.heap.objs.size < h1.objs.size:=by obtain⟨o,es,ep,ho,_⟩:=id hD1;exact aw ho
 have lt:t < s.heap.objs.size:=aw ht;refine ah ⟨gt qL _,?_⟩;refine zfp (A:=A.in1) (knd:=knd) (t:=t) (items:=(zO.map λq=>Value.ref q.2.1).toArray) hh (dz (ie lt lD)) (dz lt) (bb lD) zO 0 [] _ _ {s with heap:=h1.push {cls:= .type "tuple_iterator",data:= .fields #[.ref t,.int 0 0]},toks:=tk} ⟨_,br _ rfl,rfl,rfl⟩ ⟨_,ae _ ht2,rfl,_,rfl⟩ (hD1.push _) (by simp) (λq m=> ?_) (by simpa using hsz) λh' tk' a b=> ?_
 ·obtain⟨key,hk,hb⟩:=hq q m
  have lb:q.2.1 < s.heap.objs.size:=hb.lt;exact⟨⟨key,hk,nV hb λo e=>ae _ (k1 _ _ (ae _ e))⟩,bb (ie lb lD),bb lb⟩
 ·refine⟨rfl,h h' tk' a λc o e=> ?_⟩
  have lc:=aw e;exact b c o (bb (ie lc lD)) (bb lc) (ae _ (k1 _ _ (ae _ e)))
end
end L2
namespace L2
open PySem PySem.Spec PyProof.Rows PySem.W
section
variable {X:Cx} {pins:List (Addr×Obj)} {σ:St} {H:Hp} {s:Shared}
def kN (K:Frag)(H:Hp):List Addr->List (z6×V)->Prop:=Paired λa (q:z6×V)=>xI K H a [kV q.1,q.2]
theorem zdt: ∀{as:List Addr} {its:List Value},zJ (as.map V.ref) its->its=as.map Value.ref
 | [],_,.nil=>rfl
 | a::as,_,.cons r t=>by
  cases r;rw[zdt t];rfl
theorem zdu {pins:List (Addr×Obj)}{σ:St}(ok:z5 X pins σ H s): ∀{as:List Addr} {ps:List (z6×V)},kN X.K H as ps->
  ∃zO:List (z6×Addr×Value),zO.map (·.2.1)=as/\KV ps (zO.map λq=>(q.1,q.2.2))/\∀q∈zO,∃key,(xB X.prog X.w).is q.1 key=true/\IsTup s.heap q.2.1 #[key,q.2.2]
 | _,_,.nil=>⟨[],rfl,.nil,λ_ m=>nomatch m⟩
 | a::as,q::ps,.cons e t=>by
  obtain⟨zO,r1,r2,r3⟩:=zdu ok t;obtain⟨its,rv,tp,_⟩:=ok.tuple e;obtain⟨u1,u2,rfl,g1,g2⟩:=rv.two;refine⟨(q.1,a,u2)::zO,by rw[am,r1],.cons ⟨rfl,g2⟩ r2,λq' m=> ?_⟩;rcases az.mp m with rfl | m
  ·exact⟨u1,sP g1,tp⟩
  ·exact r3 q' m
theorem zm_ (hc:X.calm=true):w4 X (.type "dict") (λxs H Q=> ∃(t:Addr) (as:List Addr) (ps:List (z6×V)),xs= [.ref t]/\xI X.K H t (as.map V.ref)/\kN X.K H as ps/\∀p,H p=none->Q (.ref p) (upd H p (.dK (vS [] ps)))):=by
 intro pins s σ H xs us Q I r h;obtain⟨t,as,ps,rfl,ht,hp,q⟩:=h;obtain⟨u,rfl,ru⟩:=rY r;cases ru;obtain⟨its,rv,⟨o,e1,e3,n,e4,hd⟩,hz⟩:=I.tupleD ht;cases zdt rv;obtain⟨zO,r1,r2,r3⟩:=zdu I hp;have hl:=zc8 r2;rw[ac]at hl;have hz':zO.length<=sizeLine:=by
  rw[ac,<- r1,ac]at hz;exact hz
 obtain⟨c,dct,dat,sl⟩:=o;dsimp only at hd e3 e4;subst hd e3 e4;have ea:as.map Value.ref=zO.map λq=>Value.ref q.2.1:=by rw[<- r1,bt];rfl
 rw[ea]at e1;refine zmA (knd:=xB X.prog X.w) (I.ok.hd hc) e1 r3 hz' λh' tk dd k=> ?_;refine⟨.ref s.heap.objs.size,_,I.laid (t':=tk) (o:= .dK (vS [] ps)) k (ao _) ?_,rfl,q _ I.fresh⟩;refine oB ?_ (beq_eq_false_iff_ne.mpr (dk (bb I.big))) (KV.merge r2 .nil) dd;have:=oR ps [];simp only[kq,we]at this;exact bf this (by rw[hl];exact hz')
end
end L2
namespace L2
open PySem PySem.Spec PyProof.Rows PySem.W
section
variable {X:Cx} {es:List Expr} {t:TA} {pos:Pos}
end
end L2
namespace L2
open PySem PySem.Spec PyProof.Rows PySem.W
def zlm:List (Str×Int)->Str->Int
 | [],_=>0
 | q::l,x=>if q.1=x then q.2 else zlm l x
end L2
namespace L2
open PySem PySem.Spec PyProof.Rows PySem.W
end L2
namespace L2
open PySem PySem.Spec PyProof.Rows PySem.W
end L2
namespace L2
open PySem PySem.Spec PyProof.Rows
abbrev vO:List Value:= [.type "ValueError",.type "Exception",.type "BaseException",.type "object"]
abbrev uA (C:Addr)(od:Option Addr)(t:Addr):Obj:= {cls:= .ref C,dict:=od,data:= .fields #[.ref t,.none,.none,.none,.bool false,.none]}
section
variable {prog:Program} {w:World} {A:Around} {h:Heap} {g:Array GenState} {d:Drawn} {t:Nat} {os:OsState}
variable {nm q:Str} {C N f:Addr} {bs bm:List Value} {hdct:Bool} {sn:List Str} {sub:List Value} {ab:Bool} {col:Option Bool} {dd:Option Addr} {k0 k1 k2 k3 k5:Option Value}
theorem znx {R:Result->Shared->Prop}{zO:List Value}(T:OwnTail h vO bm)(hC:h.get? C=some (excClassObj nm q C N bs bm hdct sn sub ab col dd k0 k1 k2 k3 k5 "ValueError.__new__"))
  (hi:PySem.W.Looks (ay prog w) h (typeLookup (.ref C) "__init__") (some (.ref f))) (hb: ∀self,PySem.W.Looks (ay prog w) h (bindSpecial (.ref f) self) (.ref f,[self])) (hrest:zO.length<=sizeLine)
  (hq:codeAny (ay prog w) (A.under (.builtin "type.__call__" ⟨.ref C::zO,[]⟩)) (.call (.ref f) ⟨.ref (h.objs.size+1)::zO,[]⟩) (PySem.W.InitBack (h.objs.size+1) R)
   ⟨(h.push {cls:= .type "tuple",data:= .seq zO.toArray}).push (uA C none h.objs.size),g,d,t,os⟩):
  codeAny (ay prog w) A (.call (.ref C) ⟨zO,[]⟩) R ⟨h,g,d,t,os⟩:=by
 have F:=pq;have c1:=tc_lookup;have c2:=tc_bind (.ref C);have ty:(⟨h,g,d,t,os⟩:Shared).TypeIs (.ref C) "type" :=⟨_,hC,rfl⟩;have self:(Value.ref C::bm).contains (.ref C)=true:=by simp
 refine sv ?_;show ak _ _ (callAny (.ref C) _) _ _ _
 repeat(any_goals (first | assumption | with_reducible refine ja hC ?_ | wp_step))
 refine⟨rfl,codeAny_call_builtin_at (wf _ (by decide+kernel)) entry_typeCall (wpAny_check_type_call_sub hC ?_)⟩
 repeat(first | with_reducible refine ja hC ?_ | with_reducible refine wpAny_madeBy_exc hC ?_ | wp_step)
 refine codeAny_call_builtin_code (wf _ F.quiet) (wpAny_check_new_subT F T hC (codeAny_exc_new_subT F T hC ?_ hrest));have kp: ∀b o,h.get? b=some o->((h.push {cls:= .type "tuple",data:= .seq zO.toArray}).push (uA C none h.objs.size)).get? b=some o:=λb o e=>ae _ (ae _ e);have eC:=kp _ _ hC;have eX:((h.push {cls:= .type "tuple",data:= .seq zO.toArray}).push (uA C none h.objs.size)).get? (h.objs.size+1)=some {cls:= .ref C,data:= .fields #[.ref h.objs.size,.none,.none,.none,.bool false,.none]} :=by heap_get
 have i1:=hi.keeps kp;have b1:=(hb (.ref (h.objs.size+1))).keeps kp;show ak _ _ _ _ _ ⟨(h.push {cls:= .type "tuple",data:= .seq zO.toArray}).push {cls:= .ref C,data:= .fields #[.ref h.objs.size,.none,.none,.none,.bool false,.none]},g,d,t,os⟩;unfold isInstance
 repeat(first | (with_reducible refine ja eX ?_;dsimp only) | (with_reducible refine lr eC ?_;rw[self]) | wp_step)
 show ak _ _ (typeLookup (.ref C) _) _ _ _;refine PySem.W.Looks.at i1 ?_;refine cq (aa (PySem.W.Looks.at b1 ?_));refine aa (ml (ly hq λr s' z=> ?_));rcases r with e | (v | _ | _ | _) <;> first | exact z | exact z.elim | skip
 obtain⟨rfl,z⟩:=z;exact ah (ah z)
end
end L2
namespace L2
open PySem PySem.Spec PyProof.Rows
section
variable {prog:Program} {w:World} {A:Around} {E:Value->Shared->Prop} {h:Heap} {g:Array GenState} {d:Drawn} {t:Nat} {os:OsState}
variable {nm q:Str} {C N f e:Addr} {bs bm:List Value} {hdct:Bool} {sn:List Str} {sub:List Value} {ab:Bool} {col:Option Bool} {dd od:Option Addr} {k0 k1 k2 k3 k5:Option Value} {t0:Addr}
theorem znw {Q:Value->Shared->Prop}{x:Value}(T:OwnTail h vO bm)(hC:h.get? C=some (excClassObj nm q C N bs bm hdct sn sub ab col dd k0 k1 k2 k3 k5 "ValueError.__new__"))
  (he:h.get? e=some (uA C od t0))
  (hq: ∀h',(∀b o,b≠e->h.get? b=some o->h'.get? b=some o)->h'.get? e=some (uA C od h.objs.size)->Q .none ⟨h',g,d,t,os⟩):
  ak (ay prog w) A (call (.builtin "ValueError.__init__") [.ref e,x]) Q E ⟨h,g,d,t,os⟩:=by
 have F:=pq;refine ml (vd F.init.plain F.initEntry (wpAny_check_init_subT F T hC he rfl ?_))
 wp_walk
 refine hq _ (λb o hb eb=> ?_) ?_
 ·rw[bp _ _ (dk hb)]
  exact ae _ eb
 ·rw[cz _ (ae _ he) rfl]
  rfl
end
end L2
namespace L2
open PySem PySem.Spec PyProof.Rows Builtin Builtin.ObjectAttr
section
variable {prog:Program} {w:World} {A:Around} {E:Value->Shared->Prop} {s:Shared} {K:Frag} {C HE e t0:Addr} {cd:ClassData} {name:Str} {v:Value}
end
end L2
namespace L2
open PySem PySem.Spec PyProof.Rows Builtin Builtin.ObjectAttr
theorem zkr:Slot "BaseException" "__getattribute__" "BaseException.__getattribute__" :=
 .of (owner:= "BaseException") (n:= "__getattribute__") (by rw[fg,di];kernel_rfl) (by decide+kernel) (by decide+kernel) (by decide+kernel)
  (by first | exact .inl (by decide+kernel) | exact .inr (by decide+kernel)) (by rw[il];kernel_rfl)
theorem zou:builtinKind "BaseException.__getattribute__" =some .slot:=by decide+kernel
theorem zsE:splitId "BaseException.__getattribute__" =some ("BaseException","__getattribute__"):=by decide+kernel
theorem zpg:(Value.builtin "BaseException.__getattribute__" ==Value.builtin "object.__getattribute__")=false:=by decide+kernel
section
variable {prog:Program} {w:World} {A:Around} {E:Value->Shared->Prop} {s:Shared} {K:Frag} {C HE e t0 dx:Addr} {cd:ClassData} {name:Str} {v:Value} {od:Obj}
end
end L2
namespace L2
open PySem PySem.Spec PyProof.Rows Builtin Builtin.ObjectAttr
section
variable {prog:Program} {w:World} {A:Around} {E:Value->Shared->Prop} {s:Shared} {K:Frag} {C HE e:Addr} {cd:ClassData} {ox:Obj} {odo:Option Obj}
theorem znv {Q:Option Value->Shared->Prop}(X:K.In s.heap)(J:PySem.W.InstAt s.heap e ox C odo)(hcl:clsIn K C=some cd)(hm:cd.mro= .ref C:: .ref HE::vO)
  (hga:findIn K (.ref C) "__getattribute__" =some (some (.builtin "BaseException.__getattribute__"))) (hk:findIn K (.ref C) "__getattr__" =some none)
  (hf:findObj K C odo "__class__" =some (.bind (.builtin "getset_descriptor.__get__") (.builtin "object.__class__"))) (h:Q (some (.ref C)) {s with toks:=s.toks+1}):
  ak (ay prog w) A (getAttr? (.ref e) "__class__") Q E s:=by
 obtain⟨hp,g,d,t,os⟩:=s;have L0:=J.type (M:=ay prog w);have L1:=wg (M:=ay prog w) X hga;have L2':=PySem.W.looks_find (M:=ay prog w) X J hf;have L3:=wg (M:=ay prog w) X hk;have mro: ∀T,vO.contains (.type T)=true->mroIn K C (.type T)=some true:=λT hT=>by
  unfold mroIn;rw[hcl,ln,hm,if_neg (by simp)];rw[kx,kx,hT];simp
 have sub:PySem.W.Looks (ay prog w) hp (isInstance (.ref e) (.type "BaseException")) true:=L0.andThen (PySem.W.looks_mroIn X (mro _ rfl));have hb:PySem.W.Looks (ay prog w) hp (hookBefore (.ref C)) none:=by
  unfold hookBefore;rw[if_pos (by rfl)];exact L3
 unfold getAttr? getAttrBy? getAttrBy;refine aa (wb (aa (jw (cq (aa (L0.at (aa (L1.at ?_))))))));dsimp only;rw[zpg,xq,if_neg (by decide)];refine aa (hb.at (aa (jw (cq ?_))));unfold callGetattribute;rw[xp,if_neg (by decide)];unfold boundAndCalled;rw[zkr.bind];refine aa (ah ?_);show ak _ _ (call (.builtin "BaseException.__getattribute__") [.ref e,.str "__class__" t]) _ _ _;refine ml (vd zkr.plain PySem.F.entry_bexc_ga ?_);refine @PySem.W.check_slot (ay prog w) _ _ ⟨hp,g,d,t+1,os⟩ "BaseException.__getattribute__" "BaseException" "__getattribute__" (.ref e) [.str "__class__" t] [] _ zou zsE sub (PySem.F.args_bexc_ga (.ref e) (.str "__class__" t)) ?_;refine aa (ah (aa (ah (aa (L0.at (aa (L2'.at ?_)))))));show ak _ _ (holding [_] (call (.builtin "getset_descriptor.__get__") [.builtin "object.__class__",.ref e,.ref C]) >>= ret) _ _ _;refine aa (cq (ml (PySem.W.class_get (s:=⟨hp,g,d,t+1,os⟩) (ox:=ox) (od:=odo) X J (mro _ rfl) (ah ?_))));show ak _ _ (handedOut (.ref C)) _ _ _;rw[PySem.W.handedOut_of rfl];exact ah (ah h)
end
end L2
namespace L2
open PySem PySem.Spec PyProof.Rows
abbrev TJ:=St->Hp->Str->VK->Prop
section
variable {X:Cx} {e e2:Expr} {es:List Expr} {te:TE} {t:TJ} {pos:Pos}
end
def zma (e C:Addr)(od:Option Addr):Heap->Prop:=λh=> ∃t,h.get? e=some (uA C od t)
abbrev tL (e C:Addr)(od:Option Addr):HO:= .ext (zma e C od)
theorem xok {P:Program}{w:World}{H:Hp}{h:Heap}{e C t:Addr}{od:Option Addr}(q:h.get? e=some (uA C od t)):xR P w H h e (tL e C od):=
 ⟨⟨t,q⟩,⟨_,q⟩,λh1 h2 ⟨t',q'⟩ k=>⟨t',k _ q'⟩⟩
theorem z5.exc {X:Cx}{pins:List (Addr×Obj)}{σ:St}{H:Hp}{s:Shared}{e C:Addr}{od:Option Addr}(I:z5 X pins σ H s)(h:H e=some (tL e C od)): ∃t,s.heap.get? e=some (uA C od t):=(I.hok e _ h).1
structure qX (K:Frag)(HE:Addr):Prop where
 tail: ∀h:Heap,K.In h->OwnTail h vO (.ref HE::vO)
 reads:readsIn K HE (.type "type")=true
 find:findCls K (.ref HE) (.type "type") "__init__" =some (.val (.builtin "ValueError.__init__"))
 ga:specialIn K (.ref HE) "__getattribute__" =some (some (.builtin "type.__getattribute__"))
 dget:specialIn K (.builtin "object.__class__") "__get__" =some (some (.builtin "getset_descriptor.__get__"))
 dset:takesIn K (.builtin "object.__class__")=some true
theorem ztj {K:Frag}{HE NH:Addr}{oc oc2:Value}{od od2:Option Addr}{cd:ClassData}{sl sl2:Array (Option Value)}{es:Array DictEntry}{ep:Nat}(l:K.lookup HE=some ⟨oc,od,.cls cd,sl⟩)(hn:cd.ns=NH)
  (l2:K.lookup NH=some ⟨oc2,od2,.dict es ep,sl2⟩) (hk:(es.toList.all λe=>match e.key with | .str _ _=>true | _=>false)=true) (hni:nsFind es "__init__" =none) {h:Heap} (X:K.In h):OwnTail h vO (.ref HE::vO):=by
 subst hn;refine .own (X _ _ l) ⟨_,es,ep,X _ _ l2,rfl,λe he=> ?_,λ_=>rfl⟩ hni .base;have q:=ng.mp hk e (Array.mem_toList_iff.mpr he);cases hkey:e.key with
 | str n t=>exact⟨n,t,rfl⟩
 | _=>rw[hkey]at q;cases q
structure u7 (K:Frag)(HE C:Addr):Prop where
 ob: ∃(nm q:Str) (N:Addr) (bs:List Value) (sn:List Str) (sub:List Value) (ab:Bool) (col:Option Bool) (dd:Option Addr) (k0 k1 k2 k3 k5:Option Value),
  K.lookup C=some (excClassObj nm q C N bs (.ref HE::vO) true sn sub ab col dd k0 k1 k2 k3 k5 "ValueError.__new__")
 kp:keepIn K (.ref C)=true
 sa:findIn K (.ref C) "__setattr__" =some (some (.builtin "object.__setattr__"))
 ga:findIn K (.ref C) "__getattribute__" =some (some (.builtin "BaseException.__getattribute__"))
 gg:findIn K (.ref C) "__getattr__" =some none
 cc:findIn K (.ref C) "__class__" =some (some (.builtin "object.__class__"))
theorem u7.cls {K:Frag}{HE C:Addr}(x:u7 K HE C): ∃cd,clsIn K C=some cd/\cd.mro= .ref C:: .ref HE::vO/\cd.hasDict=true:=by
 obtain⟨nm,q,N,bs,sn,sub,ab,col,dd,k0,k1,k2,k3,k5,l⟩:=x.ob;exact⟨_,by unfold clsIn;rw[l],rfl,rfl⟩
structure kT (K:Frag)(C f:Addr):Prop where
 init:findIn K (.ref C) "__init__" =some (some (.ref f))
 fn:isFn K (.ref f)=true
section
variable {X:Cx} {CX:u0} {k:Nat} {f C HE:Addr} {fd:FuncData} {ps:List Str} {sp:Sp} {ds:List Value} {dvs:List V} {E:XK}
variable {x:Str} {p pos apos pos':Pos} {e o value:Expr} {es:List Expr} {te ta tv:TE} {t:TA}
def zsR (K:Frag)(HE:Addr)(t:TA):TE:=λσ H Q=>t σ H λvs H2=> ∃e C od y,vs= [.ref e,y]/\H2 e=some (tL e C od)/\u7 K HE C/\Q .non H2
theorem z5.exc_upd {pins:List (Addr×Obj)}{σ:St}{H:Hp}{s:Shared}{h':Heap}{e0 C0 t1 t':Addr}{od:Option Addr}(I:z5 X pins σ H s)(h:H e0=some (tL e0 C0 od))(kp: ∀b o,b≠e0->s.heap.get? b=some o->h'.get? b=some o)
  (q:h'.get? e0=some (uA C0 od t1)):z5 X pins σ H {s with heap:=h',toks:=t'} :=by
 have z:=I.write (x:=e0) (e:=e0) (o:=tL e0 C0 od) (t':=t') (h':=h') (by rw[h];exact trivial) (.inl rfl) kp ⟨_,q⟩ (xok q);have e1:upd H e0 (tL e0 C0 od)=H:=by
  funext b
  by_cases hb:b=e0
  ·rw[hb,yO,h]
  ·rw[yN hb]
 rw[e1]at z;exact z
theorem zq0 {pl:Sem Bool}(T:qX X.K HE)(hg:Gl X x)(hm:X.mg x=some (.ref HE))(ha:PA X (e::es) t)
  (ht:eval (.Call (.Attribute (.Name x p) "__init__" apos) (e::es) [] pos) X.env=(do
   let ov <- eval (.Name x p) X.env
   standAt apos.atName
   let(f,first) <- holding [ov] (getMethod ov "__init__" pl)
   callWith pos f first (backTo pos (starEach (e::es) X.env)) (backToKw pos (keywordEach [] X.env))):=by rfl)
  (hs:starEach (e::es) X.env=(false,eval e X.env)::starEach es X.env:=by rfl) (hplain:(backTo pos (starEach es X.env)).any (·.1)=false:=by rfl) (hdb:(x==("__debug__" :Str))=false:=by decide):
  PE X (.Call (.Attribute (.Name x p) "__init__" apos) (e::es) [] pos) (zsR X.K HE t):=⟨λpins s σ H Q I h=>by
 refine PySem.W.methodCall_KW (pl:=pl) (oQ I hg hm ?_ hdb) ht;refine PySem.W.method_cls I.kIn T.ga (PySem.W.cls_value I.kIn T.reads T.find rfl ?_);have hA:=ha.run pos pins _ σ H _ (I.tok (s.toks+1)) h;rw[hs]at hA⊢
 refine mw (by show(false||(backTo pos (starEach es X.env)).any (·.1))=false;rw[hplain] <;> rfl) (uv ?_);refine zM hA λus s2 ⟨vs,H2,I2,r2,e0,C0,od,y,ev,he,M,q⟩=> ?_;subst ev;obtain⟨u1,u2,rfl,ru1,ru2⟩:=zJ.two r2;cases ru1;obtain⟨nm,qn,N,bs,sn,sub,ab,col,dd,k0,k1,k2,k3,k5,l⟩:=M.ob;obtain⟨t0,eX⟩:=I2.exc he;obtain⟨hp,g,d,tk,os⟩:=s2;exact znw (T.tail hp I2.kIn) (I2.kIn _ _ l) eX λh' kp q'=>⟨.non,H2,I2.exc_upd (t':=tk) he kp q',rfl,q⟩⟩
def dE:V->Option Value
 | .ref a=>some (.ref a)
 | .ty n=>some (.type n)
 | _=>none
theorem zmS {c:V}{u cv:Value}(h:dE c=some cv)(r:zN c u):u=cv:=by
 cases c with
 | ref a=>cases r;exact ce h
 | ty n=>cases r;exact ce h
 | _=>cases h
end
end L2
namespace L2
open PySem PySem.Spec PyProof.Rows
section
variable {X:Cx} {elts:List Expr} {k:Nat} {pos':Pos}
end
end L2
namespace L3
open PySem PySem.Spec PyProof.Rows L2
abbrev St:=L2.St
structure qT where
 f:Addr
 o:Obj
 q:Str
 c:Addr
 c':Addr
 oz:Obj
 dd:Addr
 kvs:List (List Int×Int)
inductive PV where
 | non | bl (b:Bool) | int (i:Int) | str (x:Str) | ty (n:String)
 | tup (xs:List PV) | lst (xs:List PV) | dct (kvs:List (z6×PV)) | itb (kvs:List (List Int×Int)) | clo (D:qT) | obj (n:Nat)
def zdL (kvs:List (List Int×Int)):List (List z6×V):=kvs.map λp=>(p.1.map Sum.inl,V.int p.2)
inductive PO where
 | lst (xs:List PV) | dct (kvs:List (z6×PV)) | tbl (T:Addr) (pos:Pos) (q:Str) | itb (kvs:List (List Int×Int)) | rcd (kvs:List (z6×PV)) | fd (o:Obj) (kvs:List (z6×PV))
abbrev z7:=List PO
abbrev zG:=List (Option PV)
abbrev K3:=PV->z7->Prop
def zlS (K:Frag)(a:Addr)(vs:List V):Prop:= ∃(o:Obj) (its:Array Value) (n:Nat),K.lookup a=some o/\o.cls= .type "tuple" /\o.dict=none/\o.data= .seq its n/\its.size<=sizeLine/\zJ vs its.toList
def zlR (K:Frag)(a:Addr)(vs:List V):Prop:= ∃(o:Obj) (its:Array Value) (n:Nat),K.lookup a=some o/\o.cls= .type "list" /\o.dict=none/\o.data= .seq its n/\its.size<=sizeLine/\zJ vs its.toList/\o.slots= #[]
def uM (K:Frag)(A:List Addr)(H:Hp)(a:Addr)(vs:List V):Prop:=(Rd H a (.tup vs)/\a∉A)∨zlS K a vs
def sH (K:Frag)(A:List Addr)(H:Hp)(a:Addr)(vs:List V):Prop:=(Rd H a (.lst vs)/\a∉A)∨zlR K a vs
def zlw (A:List Addr)(H:Hp)(a:Addr)(us:List (z6×V)):Prop:=H a=some (.dK us)/\a∉A
structure zlu (A:List Addr)(H:Hp)(D:qT):Prop where
 fn:H D.f=some (.ext (zez D.f D.o))/\D.f∉A
 cd:H D.c'=some (.ext (zeg D.c' D.q))/\D.c'∉A
 cl:H D.c=some (.ext (zez D.c D.oz))/\D.c∉A
 dt:H D.dd=some (.dT (zdL D.kvs))/\D.dd∉A
mutual
inductive RV (K:Frag)(A:List Addr)(H:Hp):PV->V->Prop
 | non:RV K A H .non .non
 | bl (b:Bool):RV K A H (.bl b) (.bl b)
 | int (i:Int):RV K A H (.int i) (.int i)
 | str (x:Str):RV K A H (.str x) (.str x)
 | ty (n:String):RV K A H (.ty n) (.ty n)
 | tup {xs:List PV} {a:Addr} {vs:List V} :uM K A H a vs->vs.length<=sizeLine->RVs K A H xs vs->RV K A H (.tup xs) (.ref a)
 | lst {xs:List PV} {a:Addr} {vs:List V} :sH K A H a vs->vs.length<=sizeLine->RVs K A H xs vs->RV K A H (.lst xs) (.ref a)
 | dct {kvs:List (z6×PV)} {a:Addr} {us:List (z6×V)} :zlw A H a us->us.length<=sizeLine->RKs K A H kvs us->RV K A H (.dct kvs) (.ref a)
 | itb {kvs:List (List Int×Int)} {a:Addr} :H a=some (.dT (zdL kvs))->a∉A->RV K A H (.itb kvs) (.ref a)
 | clo {D:qT} :zlu A H D->RV K A H (.clo D) (.ref D.f)
inductive RVs (K:Frag)(A:List Addr)(H:Hp):List PV->List V->Prop
 | nil:RVs K A H [] []
 | cons {x:PV} {v:V} {xs:List PV} {vs:List V} :RV K A H x v->RVs K A H xs vs->RVs K A H (x::xs) (v::vs)
inductive RKs (K:Frag)(A:List Addr)(H:Hp):List (z6×PV)->List (z6×V)->Prop
 | nil:RKs K A H [] []
 | cons {k:z6} {x:PV} {v:V} {xs:List (z6×PV)} {vs:List (z6×V)} :RV K A H x v->RKs K A H xs vs->RKs K A H ((k,x)::xs) ((k,v)::vs)
end
structure zR (A:List Addr)(H:Hp)(A':List Addr)(H':Hp):Prop where
 ext: ∃B,A'=A++B/\∀b∈B,H b=none
 keep: ∀b o,H b=some o->b∉A->H' b=some o
 live: ∀b,H b≠none->H' b≠none
theorem zR.refl (A:List Addr)(H:Hp):zR A H A H:=⟨⟨[],by simp,by simp⟩,λ_ _ h _=>h,λ_ h=>h⟩
theorem zR.out {A A':List Addr}{H H':Hp}(g:zR A H A' H'){b:Addr}{o:HO}(h:H b=some o)(n:b∉A):b∉A':=by
 obtain⟨B,rfl,hB⟩:=g.ext;intro m;rcases au.mp m with m | m
 ·exact n m
 ·rw[hB b m]at h;cases h
theorem zR.trans {A A1 A2:List Addr}{H H1 H2:Hp}(g:zR A H A1 H1)(g':zR A1 H1 A2 H2):zR A H A2 H2:=by
 refine⟨?_,λb o h n=>g'.keep b o (g.keep b o h n) (g.out h n),λb h=>g'.live b (g.live b h)⟩;obtain⟨B,rfl,hB⟩:=g.ext;obtain⟨C,rfl,hC⟩:=g'.ext;refine⟨B++C,by simp,λb m=> ?_⟩;rcases au.mp m with m | m
 ·exact hB b m
 ·by_cases h:H b=none
  ·exact h
  ·exact absurd (hC b m) (g.live b h)
theorem zR.sub {A A':List Addr}{H H':Hp}(g:zR A H A' H'){i:Nat}{a:Addr}(h:A[i]?=some a):A'[i]?=some a:=by
 obtain⟨B,rfl,_⟩:=g.ext;rw[bo (ad.mp h).1];exact h
theorem zR.new {A:List Addr}{H:Hp}{p:Addr}{o:HO}(h:H p=none):zR A H A (upd H p o):=by
 refine⟨⟨[],by simp,by simp⟩,λb u e _=>by rw[yN (tW e h)];exact e,λb hb=> ?_⟩;by_cases e:b=p
 ·subst e;rw[yO];exact dn _
 ·rw[yN e];exact hb
theorem zR.newObj {A:List Addr}{H:Hp}{p:Addr}{o:HO}(h:H p=none):zR A H (A++ [p]) (upd H p o):=by
 refine⟨⟨[p],rfl,λb m=>by rw[aj.mp m];exact h⟩,(zR.new (A:=A) h).keep,(zR.new (A:=A) h).live⟩
theorem zR.put {A:List Addr}{H:Hp}{p:Addr}{o:HO}(h:p∈A):zR A H A (upd H p o):=by
 refine⟨⟨[],by simp,by simp⟩,λb u e n=>by rw[yN (λz=>n (by rw[z];exact h))];exact e,λb hb=> ?_⟩;by_cases e:b=p
 ·subst e;rw[yO];exact dn _
 ·rw[yN e];exact hb
section
variable {K:Frag} {A A':List Addr} {H H':Hp}
theorem uM.sq {a:Addr}{vs:List V}(h:uM K A H a vs):xI K H a vs:=h.imp And.left id
theorem sH.sq {a:Addr}{vs:List V}(h:sH K A H a vs):yT K H a vs:=h.imp And.left id
theorem Rd.grow {a:Addr}{u:HO}(g:zR A H A' H')(h:Rd H a u/\a∉A):Rd H' a u/\a∉A':=by
 obtain⟨h | ⟨o,h⟩,n⟩:=h
 ·exact⟨.inl (g.keep _ _ h n),g.out h n⟩
 ·exact⟨.inr ⟨o,g.keep _ _ h n⟩,g.out h n⟩
theorem uM.grow {a:Addr}{vs:List V}(g:zR A H A' H')(h:uM K A H a vs):uM K A' H' a vs:=h.imp (Rd.grow g) id
theorem sH.grow {a:Addr}{vs:List V}(g:zR A H A' H')(h:sH K A H a vs):sH K A' H' a vs:=h.imp (Rd.grow g) id
mutual
theorem RV.grow (g:zR A H A' H'){x:PV}{v:V} :RV K A H x v->RV K A' H' x v
 | .non=> .non
 | .bl b=> .bl b
 | .int i=> .int i
 | .str x=> .str x
 | .ty n=> .ty n
 | .tup t z r=> .tup (t.grow g) z (RVs.grow g r)
 | .lst t z r=> .lst (t.grow g) z (RVs.grow g r)
 | .dct t z r=> .dct ⟨g.keep _ _ t.1 t.2,g.out t.1 t.2⟩ z (RKs.grow g r)
 | .itb e n=> .itb (g.keep _ _ e n) (g.out e n)
 | .clo h=> .clo ⟨⟨g.keep _ _ h.fn.1 h.fn.2,g.out h.fn.1 h.fn.2⟩,⟨g.keep _ _ h.cd.1 h.cd.2,g.out h.cd.1 h.cd.2⟩,⟨g.keep _ _ h.cl.1 h.cl.2,g.out h.cl.1 h.cl.2⟩,⟨g.keep _ _ h.dt.1 h.dt.2,g.out h.dt.1 h.dt.2⟩⟩
theorem RVs.grow (g:zR A H A' H'){xs:List PV}{vs:List V} :RVs K A H xs vs->RVs K A' H' xs vs
 | .nil=> .nil
 | .cons r t=> .cons (RV.grow g r) (RVs.grow g t)
theorem RKs.grow (g:zR A H A' H'){xs:List (z6×PV)}{vs:List (z6×V)} :RKs K A H xs vs->RKs K A' H' xs vs
 | .nil=> .nil
 | .cons r t=> .cons (RV.grow g r) (RKs.grow g t)
end
theorem RVs.len {xs:List PV}{vs:List V} :RVs K A H xs vs->xs.length=vs.length
 | .nil=>rfl
 | .cons _ t=>by rw[bq,bq,RVs.len t]
theorem RKs.len {xs:List (z6×PV)}{vs:List (z6×V)} :RKs K A H xs vs->xs.length=vs.length
 | .nil=>rfl
 | .cons _ t=>by rw[bq,bq,RKs.len t]
theorem RVs.append {xs ys:List PV}{vs ws:List V} :RVs K A H xs vs->RVs K A H ys ws->RVs K A H (xs++ys) (vs++ws)
 | .nil,h=>h
 | .cons r t,h=> .cons r (RVs.append t h)
theorem RVs.get {xs:List PV}{vs:List V}{i:Nat}{x:PV}(h:RVs K A H xs vs)(e:xs[i]?=some x): ∃v,vs[i]?=some v/\RV K A H x v:=by
 induction i generalizing xs vs with
 | zero=>cases h with
  | nil=>cases e
  | cons r t=>simp at e;subst e;exact⟨_,rfl,r⟩
 | succ i ih=>cases h with
  | nil=>cases e
  | cons r t=>simpa using ih t (by simpa using e)
theorem RVs.get' {xs:List PV}{vs:List V}{i:Nat}{v:V}(h:RVs K A H xs vs)(e:vs[i]?=some v): ∃x,xs[i]?=some x/\RV K A H x v:=by
 induction i generalizing xs vs with
 | zero=>cases h with
  | nil=>cases e
  | cons r t=>simp at e;subst e;exact⟨_,rfl,r⟩
 | succ i ih=>cases h with
  | nil=>cases e
  | cons r t=>simpa using ih t (by simpa using e)
theorem RVs.drop {xs:List PV}{vs:List V}(h:RVs K A H xs vs)(n:Nat):RVs K A H (xs.drop n) (vs.drop n):=by
 induction n generalizing xs vs with
 | zero=>exact h
 | succ n ih=>cases h with
  | nil=>exact .nil
  | cons r t=>exact ih t
theorem RVs.take {xs:List PV}{vs:List V}(h:RVs K A H xs vs)(n:Nat):RVs K A H (xs.take n) (vs.take n):=by
 induction n generalizing xs vs with
 | zero=>exact .nil
 | succ n ih=>cases h with
  | nil=>exact .nil
  | cons r t=>exact .cons r (ih t)
theorem RVs.reverse {xs:List PV}{vs:List V}(h:RVs K A H xs vs):RVs K A H xs.reverse vs.reverse:=by
 induction xs generalizing vs with
 | nil=>cases h;exact .nil
 | cons x xs ih=>cases h with
  | cons r t=>rw[la,la];exact(ih t).append (.cons r .nil)
inductive RE (K:Frag)(A:List Addr)(H:Hp):PV->V->Prop
 | val {x:PV} {v:V} :RV K A H x v->RE K A H x v
 | obj {i:Nat} {a:Addr} :A[i]?=some a->RE K A H (.obj i) (.ref a)
theorem RE.grow (g:zR A H A' H'){x:PV}{v:V} :RE K A H x v->RE K A' H' x v
 | .val r=> .val (r.grow g)
 | .obj e=> .obj (g.sub e)
abbrev yP (K:Frag)(A:List Addr)(H:Hp):List PV->List V->Prop:=Paired (RE K A H)
theorem yP.grow (g:zR A H A' H'){xs:List PV}{vs:List V} :yP K A H xs vs->yP K A' H' xs vs
 | .nil=> .nil
 | .cons r t=> .cons (r.grow g) (yP.grow g t)
inductive RR (K:Frag)(A:List Addr)(H:Hp)(a:Addr):PV->V->Prop
 | val {x:PV} {v:V} :RV K A H x v->RR K A H a x v
 | obj {i j:Nat} {p:Addr} :A[i]?=some a->j < i->A[j]?=some p->RR K A H a (.obj j) (.ref p)
abbrev xK (K:Frag)(A:List Addr)(H:Hp)(a:Addr):List (z6×PV)->List (z6×V)->Prop:=Paired λp q=>p.1=q.1/\RR K A H a p.2 q.2
theorem RR.grow (g:zR A H A' H'){a:Addr}{x:PV}{v:V} :RR K A H a x v->RR K A' H' a x v
 | .val r=> .val (r.grow g)
 | .obj e l e'=> .obj (g.sub e) l (g.sub e')
theorem xK.grow (g:zR A H A' H'){a:Addr}{xs:List (z6×PV)}{vs:List (z6×V)} :xK K A H a xs vs->xK K A' H' a xs vs
 | .nil=> .nil
 | .cons r t=> .cons ⟨r.1,r.2.grow g⟩ (xK.grow g t)
def OA (K:Frag)(A:List Addr)(H:Hp)(a:Addr):PO->Prop
 | .lst xs=> ∃vs,H a=some (.lst vs)/\RVs K A H xs vs/\vs.length<=sizeLine
 | .dct kvs=> ∃us,H a=some (.dK us)/\RKs K A H kvs us/\us.length<=sizeLine
 | .tbl T pos q=>a=T/\∃ps,H a=some (.tbl ps)/\(ps= #[]∨∃c',ps= #[rawInt pos.line,rawInt pos.col,.ref c']/\H c'=some (.ext (zeg c' q))/\c'∉A)
 | .itb kvs=>H a=some (.dT (zdL kvs))
 | .rcd kvs=> ∃us,H a=some (.dK us)/\xK K A H a kvs us/\us.length<=sizeLine
 | .fd ob kvs=> ∃us,H a=some (.frz ob (.dK us))/\RKs K A H kvs us/\us.length<=sizeLine
structure RS (K:Frag)(A:List Addr)(H:Hp)(st:z7):Prop where
 nd:A.Nodup
 len:A.length=st.length
 at_: ∀(i:Nat) (a:Addr) (o:PO),A[i]?=some a->st[i]?=some o->OA K A H a o
structure yX (K:Frag)(A:List Addr)(H:Hp)(σ:St)(env:zG)(st:z7):Prop where
 rs:RS K A H st
 len:env.length=σ.length
 at_: ∀(i:Nat) (x:PV),env[i]?=some (some x)->∃v,σ[i]?=some (some v)/\RE K A H x v
theorem yX.grow {σ:St}{env:zG}{st st':z7}(r:yX K A H σ env st)(g:zR A H A' H')(s:RS K A' H' st'):yX K A' H' σ env st':=
 ⟨s,r.len,λi x e=>let⟨v,e1,r1⟩:=r.at_ i x e;⟨v,e1,r1.grow g⟩⟩
theorem OA.move {a:Addr}{o:PO}(h:OA K A H a o)(g:zR A H A' H')(e:H' a=H a):OA K A' H' a o:=by
 cases o with
 | lst xs=>obtain⟨vs,h,r,z⟩:=h;exact⟨vs,by rw[e];exact h,r.grow g,z⟩
 | dct xs=>obtain⟨vs,h,r,z⟩:=h;exact⟨vs,by rw[e];exact h,r.grow g,z⟩
 | tbl T pos q=>
  obtain⟨ea,ps,h,r⟩:=h;refine⟨ea,ps,by rw[e];exact h,r.imp id ?_⟩;rintro⟨c',e1,e2,e3⟩;exact⟨c',e1,g.keep _ _ e2 e3,g.out e2 e3⟩
 | itb kvs=>exact e.trans h
 | rcd xs=>obtain⟨vs,h,r,z⟩:=h;exact⟨vs,by rw[e];exact h,xK.grow g r,z⟩
 | fd ob xs=>obtain⟨vs,h,r,z⟩:=h;exact⟨vs,by rw[e];exact h,r.grow g,z⟩
theorem OA.some {a:Addr}{o:PO}(h:OA K A H a o):H a≠none:=by
 cases o with
 | lst xs=>obtain⟨vs,h,r⟩:=h;rw[h];exact dn _
 | dct xs=>obtain⟨vs,h,r⟩:=h;rw[h];exact dn _
 | tbl T pos q=>obtain⟨_,ps,h,r⟩:=h;rw[h];exact dn _
 | itb kvs=>rw[show H a=_ from h];exact dn _
 | rcd xs=>obtain⟨vs,h,r⟩:=h;rw[h];exact dn _
 | fd ob xs=>obtain⟨vs,h,r⟩:=h;rw[h];exact dn _
theorem RS.has {st:z7}(r:RS K A H st){a:Addr}(h:a∈A): ∃(i:Nat) (o:PO),A[i]?=some a/\st[i]?=some o/\OA K A H a o:=by
 obtain⟨i,hi,e⟩:=or h;have hs:i < st.length:=by rw[<- r.len];exact hi
 have e1:A[i]?=some a:=by rw[bu hi,e]
 have e2:st[i]?=some st[i]:=bu hs;exact⟨i,st[i],e1,e2,r.at_ i a _ e1 e2⟩
theorem RS.live {st:z7}(r:RS K A H st){a:Addr}(h:a∈A):H a≠none:=let⟨_,_,_,_,o⟩:=r.has h;o.some
theorem RS.move {st:z7}(r:RS K A H st)(g:zR A H A H')(e: ∀a∈A,H' a=H a):RS K A H' st:=
 ⟨r.nd,r.len,λi a o h1 h2=>(r.at_ i a o h1 h2).move g (e a (ck h1))⟩
theorem RS.fresh {st:z7}(r:RS K A H st){p:Addr}(h:H p=none):p∉A:=λm=>r.live m h
theorem RS.new {st:z7}(r:RS K A H st){p:Addr}{o:HO}(h:H p=none):RS K A (upd H p o) st:=
 r.move (.new h) λa m=>yN λz=>r.fresh h (z▸m)
theorem RS.newObj {st:z7}(r:RS K A H st){p:Addr}{o:HO}{q:PO}(h:H p=none)(hq:OA K (A++ [p]) (upd H p o) p q):RS K (A++ [p]) (upd H p o) (st++ [q]):=by
 refine⟨?_,by rw[ai,ai,r.len];rfl,λi a u h1 h2=> ?_⟩
 ·refine ba.mpr ⟨r.nd,by simp,λa ha b hb=> ?_⟩
  rw[aj.mp hb];exact λz=>r.fresh h (z▸ha)
 ·by_cases hi:i < A.length
  ·rw[bo hi]at h1
   rw[bo (by rw[<- r.len];exact hi)]at h2;exact(r.at_ i a u h1 h2).move (.newObj h) (yN λz=>r.fresh h (z▸ck h1))
  ·have hi':i=A.length:=by
    have:=(ad.mp h1).1;rw[ai,bw]at this;omega
   subst hi';rw[aq (ao _),fq]at h1;rw[r.len,aq (ao _),fq]at h2;cases h1;cases h2;exact hq
theorem RS.put {st:z7}(r:RS K A H st){i:Nat}{p:Addr}{o:HO}{q:PO}(h:A[i]?=some p)(hq:OA K A (upd H p o) p q):RS K A (upd H p o) (st.set i q):=by
 have hp:=ck h;refine⟨r.nd,by rw[dw];exact r.len,λj a u h1 h2=> ?_⟩;by_cases hij:i=j
 ·subst hij
  rw[h]at h1;cases h1;rw[gu (by rw[<- r.len];exact(ad.mp h).1)]at h2;cases h2;exact hq
 ·rw[ka hij]at h2
  refine(r.at_ j a u h1 h2).move (.put hp) (yN λz=>hij ?_);subst z;exact(du (ad.mp h).1 r.nd).mp (h.trans h1.symm)
end
end L3
namespace L3
open PySem PySem.Spec PyProof.Rows L2
abbrev zB:=zG->z7->K3->Prop
abbrev x9:=zG->z7->(Bool->z7->Prop)->Prop
abbrev yE:=zG->z7->(List PV->z7->Prop)->Prop
structure xM where
 nx:zG->z7->Prop
 rt:K3
 bk:zG->z7->Prop:=λ_ _=>False
 ct:zG->z7->Prop:=λ_ _=>False
abbrev yQ:=xM->zG->z7->Prop
abbrev xW:=PV->zG->z7->(zG->z7->Prop)->Prop
abbrev t5:=List PV->zG->z7->(zG->z7->Prop)->Prop
abbrev xO:=Option (Nat×PO)
abbrev uL:=zG->z7->(xO->List PV->z7->Prop)->Prop
abbrev R3:=PV->PV->z7->K3->Prop
abbrev zQ:=List PV->z7->K3->Prop
def xQ (K:Frag)(A:List Addr)(H:Hp)(Q3:K3)(Q:VK):Prop:= ∀A' H' st' r v,zR A H A' H'->RS K A' H' st'->RE K A' H' r v->Q3 r st'->Q v H'
def kC (K:Frag)(A:List Addr)(H:Hp)(Q3:Bool->z7->Prop)(Q:Bool->Hp->Prop):Prop:= ∀A' H' st' b,zR A H A' H'->RS K A' H' st'->Q3 b st'->Q b H'
def zl1 (K:Frag)(A:List Addr)(H:Hp)(Q3:List PV->z7->Prop)(Q:List V->Hp->Prop):Prop:= ∀A' H' st' rs vs,zR A H A' H'->RS K A' H' st'->yP K A' H' rs vs->Q3 rs st'->Q vs H'
def rZ (K:Frag)(A:List Addr)(H:Hp)(P3:zG->z7->Prop)(P:St->Hp->Prop):Prop:= ∀A' H' σ' env' st',zR A H A' H'->yX K A' H' σ' env' st'->P3 env' st'->P σ' H'
structure kB (K:Frag)(A:List Addr)(H:Hp)(D3:xM)(D:sF):Prop where
 nx:rZ K A H D3.nx D.nx
 rt:xQ K A H D3.rt D.rt
 bk:rZ K A H D3.bk D.bk
 ct:rZ K A H D3.ct D.ct
section
variable {K:Frag} {A A1:List Addr} {H H1:Hp}
theorem xQ.after {Q3:K3}{Q:VK}(f:xQ K A H Q3 Q)(g:zR A H A1 H1):xQ K A1 H1 Q3 Q:=λA' H' st' r v g'=>f A' H' st' r v (g.trans g')
theorem kC.after {Q3:Bool->z7->Prop}{Q:Bool->Hp->Prop}(f:kC K A H Q3 Q)(g:zR A H A1 H1):kC K A1 H1 Q3 Q:=λA' H' st' r g'=>f A' H' st' r (g.trans g')
theorem rZ.after {Q3:zG->z7->Prop}{Q:St->Hp->Prop}(f:rZ K A H Q3 Q)(g:zR A H A1 H1):rZ K A1 H1 Q3 Q:=λA' H' σ' e' st' g'=>f A' H' σ' e' st' (g.trans g')
theorem kB.after {D3:xM}{D:sF}(f:kB K A H D3 D)(g:zR A H A1 H1):kB K A1 H1 D3 D:=⟨f.nx.after g,f.rt.after g,f.bk.after g,f.ct.after g⟩
theorem xQ.now {Q3:K3}{Q:VK}(f:xQ K A H Q3 Q){st:z7}{r:PV}{v:V}(s:RS K A H st)(e:RE K A H r v)(q:Q3 r st):Q v H:=f A H st r v (.refl _ _) s e q
end
def zK (K:Frag)(T:zB):TE:=λσ H Q=> ∃A env st Q3,yX K A H σ env st/\T env st Q3/\xQ K A H Q3 Q
def yU (K:Frag)(T:x9):TT:=λσ H Q=> ∃A env st Q3,yX K A H σ env st/\T env st Q3/\kC K A H Q3 Q
def vD (K:Frag)(T:yE):TA:=λσ H Q=> ∃A env st Q3,yX K A H σ env st/\T env st Q3/\zl1 K A H Q3 Q
def xA (K:Frag)(T:yQ):TS:=λD σ H=> ∃A env st D3,yX K A H σ env st/\T D3 env st/\kB K A H D3 D
def vE (K:Frag)(G:xW):TG:=λv σ H Q=> ∃A env st x Q3,yX K A H σ env st/\RE K A H x v/\G x env st Q3/\rZ K A H Q3 Q
def mK (K:Frag)(G:t5):u6:=λvs σ H Q=> ∃A env st xs Q3,yX K A H σ env st/\yP K A H xs vs/\G xs env st Q3/\rZ K A H Q3 Q
def xN (K:Frag)(R:R3):R2:=λv w H Q=> ∃A st x y Q3,RS K A H st/\RE K A H x v/\RE K A H y w/\R x y st Q3/\xQ K A H Q3 Q
def dC (K:Frag)(R:PV->z7->K3->Prop):V->Hp->VK->Prop:=λv H Q=> ∃A st x Q3,RS K A H st/\RE K A H x v/\R x st Q3/\xQ K A H Q3 Q
def tO (K:Frag)(R:zQ):List V->Hp->VK->Prop:=λvs H Q=> ∃A st xs Q3,RS K A H st/\yP K A H xs vs/\R xs st Q3/\xQ K A H Q3 Q
def y2 (K:Frag)(S:zQ):Sp:=λvs H Q _=>tO K S vs H Q
section
variable {X:Cx} {a b c e:Expr} {es:List Expr} {pos p p2:Pos} {Ta Tb Tc:zB} {TA:yE} {tc td:x9}
theorem xL {t t':TE}(h:PE X e t)(w: ∀σ H Q,t' σ H Q->t σ H Q):PE X e t':=⟨λpins s σ H Q I q=>h pins s σ H Q I (w σ H Q q)⟩
theorem iH {t t':TT}(h:PT X e t)(w: ∀σ H Q,t' σ H Q->t σ H Q):PT X e t':=⟨λpins s σ H Q I q=>h pins s σ H Q I (w σ H Q q)⟩
theorem zjL {t t':TT}(h:PW X e t)(w: ∀σ H Q,t' σ H Q->t σ H Q):PW X e t':=⟨λwh pins s σ H Q I q=>h wh pins s σ H Q I (w σ H Q q)⟩
theorem zjw {t t':L2.TA}(h:PA X es t)(w: ∀σ H Q,t' σ H Q->t σ H Q):PA X es t':=⟨λpos pins s σ H Q I q=>h pos pins s σ H Q I (w σ H Q q)⟩
theorem zqD {t t':TT}(h:PF X es t)(w: ∀σ H Q,t' σ H Q->t σ H Q):PF X es t':=⟨λpins s σ H Q I q=>h pins s σ H Q I (w σ H Q q)⟩
theorem tI {st:Stmt}{t t':TS}(h:PS X st t)(w: ∀D σ H,t' D σ H->t D σ H):PS X st t':=⟨λpins s σ H D I q=>h pins s σ H D I (w D σ H q)⟩
theorem iG {st:List Stmt}{t t':TS}(h:x8 X st t)(w: ∀D σ H,t' D σ H->t D σ H):x8 X st t':=⟨λpins s σ H D I q=>h pins s σ H D I (w D σ H q)⟩
theorem zcR {tg:Expr}{t t':TG}(h:PG X tg t)(w: ∀v σ H Q,t' v σ H Q->t v σ H Q):PG X tg t':=⟨λpins s σ H v u Q I r q=>h pins s σ H v u Q I r (w v σ H Q q)⟩
theorem zjB {tg:List Expr}{t t':u6}(h:vL X tg t)(w: ∀v σ H Q,t' v σ H Q->t v σ H Q):vL X tg t':=⟨λpins s σ H v u Q I r q=>h pins s σ H v u Q I r (w v σ H Q q)⟩
def vK (i:Nat):zB:=λenv st Q=>match env[i]? with | some (some x)=>Q x st | _=>False
theorem zmR {K:Frag}{i:Nat}{σ:St}{H:Hp}{Q:VK} :zK K (vK i) σ H Q->lU i σ H Q:=by
 rintro⟨A,env,st,Q3,rel,h,k⟩;unfold vK at h
 split at h
 ·rename_i x e
  obtain⟨v,e1,r⟩:=rel.at_ i x e;exact⟨v,e1,k.now rel.rs r h⟩
 ·exact h.elim
theorem qv (i:Nat){x:Str}{pos:Pos}(hN:X.N[i]?=some x:=by rfl)(hv:kS X.env.scope x:=by first | exact Or.inl rfl | exact Or.inr (Or.inl rfl) | exact Or.inr (Or.inr rfl))(hd:(x==("__debug__" :Str))=false:=by decide)
  (hcd:(x==("__classdict__" :Str))=false:=by decide):PE X (.Name x pos) (zK X.K (vK i)):=xL (iE hN hv hd hcd) λ_ _ _=>zmR
def vC (x:PV):zB:=λ_ st Q=>Q x st
theorem j4 {K:Frag}{x:PV}{v:V}(hr: ∀A H,RE K A H x v){σ:St}{H:Hp}{Q:VK} :zK K (vC x) σ H Q->tC v σ H Q:=by
 rintro⟨A,env,st,Q3,rel,h,k⟩;exact k.now rel.rs (hr A H) h
theorem z9 {i j pos} :PE X (.Constant (.int i) j pos) (zK X.K (vC (.int i))):=xL zq1 λ_ _ _=>j4 λ_ _=> .val (.int i)
theorem zH {x j pos} :PE X (.Constant (.str x) j pos) (zK X.K (vC (.str x))):=xL iD λ_ _ _=>j4 λ_ _=> .val (.str x)
theorem tX {b j pos} :PE X (.Constant (.bool b) j pos) (zK X.K (vC (.bl b))):=xL zj4 λ_ _ _=>j4 λ_ _=> .val (.bl b)
theorem mY {j pos} :PE X (.Constant .none j pos) (zK X.K (vC .non)):=xL zq5 λ_ _ _=>j4 λ_ _=> .val .non
def sD (R:R3)(Ta Tb:zB):zB:=λenv st Q=>Ta env st λx st1=>Tb env st1 λy st2=>R x y st2 Q
theorem j6 {K:Frag}{R:R3}{σ:St}{H:Hp}{Q:VK} :zK K (sD R Ta Tb) σ H Q->nR (xN K R) (zK K Ta) (zK K Tb) σ H Q:=by
 rintro⟨A,env,st,Q3,rel,h,k⟩;exact⟨A,env,st,_,rel,h,λA1 H1 st1 x v g1 s1 e1 h1=>⟨A1,env,st1,_,rel.grow g1 s1,h1,λA2 H2 st2 y w g2 s2 e2 h2=>⟨A2,st2,x,y,Q3,s2,e1.grow g2,e2,h2,k.after (g1.trans g2)⟩⟩⟩
theorem zS {op:Operator}{R:R3}(ho:yA X (binaryOp op) (xN X.K R))(ha:PE X a (zK X.K Ta))(hb:PE X b (zK X.K Tb)):PE X (.BinOp a op b pos) (zK X.K (sD R Ta Tb)):=xL (zq7 ho ha hb) λ_ _ _=>j6
theorem qM {op:CmpOp}{R:R3}(ho:yA X (compareOp op) (xN X.K R))(ha:PE X a (zK X.K Ta))(hb:PE X b (zK X.K Tb))(hm:behindInMarks op b=false):PE X (.Compare a [op] [b] pos) (zK X.K (sD R Ta Tb)):=xL (zqx ho ha hb hm) λ_ _ _=>j6
theorem vF {R:R3}(hr:rB X (xN X.K R))(ha:PE X a (zK X.K Ta))(hb:PE X b (zK X.K Tb))(hs:kP b):PE X (.Subscript a b pos) (zK X.K (sD R Ta Tb)):=xL (zj7 hr ha hb hs) λ_ _ _=>j6
def nX (R:PV->z7->K3->Prop)(Ta:zB):zB:=λenv st Q=>Ta env st λx st1=>R x st1 Q
theorem zmQ {K:Frag}{R:PV->z7->K3->Prop}{σ:St}{H:Hp}{Q:VK} :zK K (nX R Ta) σ H Q->tUn (dC K R) (zK K Ta) σ H Q:=by
 rintro⟨A,env,st,Q3,rel,h,k⟩;exact⟨A,env,st,_,rel,h,λA1 H1 st1 x v g1 s1 e1 h1=>⟨A1,st1,x,Q3,s1,e1,h1,k.after g1⟩⟩
theorem zcY {op:UnaryOp}{R:PV->z7->K3->Prop}(ho:mF X (unaryOp op) (dC X.K R))(ha:PE X a (zK X.K Ta)):PE X (.UnaryOp op a pos) (zK X.K (nX R Ta)):=xL (zqA ho ha) λ_ _ _=>zmQ
def pR (T:zB):x9:=λenv st Q=>T env st λx st1=>match x with | .bl k=>Q k st1 | _=>False
theorem zff {K:Frag}{T:zB}{σ:St}{H:Hp}{Q:Bool->Hp->Prop} :yU K (pR T) σ H Q->zkG (zK K T) σ H Q:=by
 rintro⟨A,env,st,Q3,rel,h,k⟩;refine⟨A,env,st,_,rel,h,λA1 H1 st1 x v g1 s1 e1 h1=> ?_⟩;cases x with
 | bl b=>
  cases e1 with
  | val e1=>cases e1;exact⟨b,rfl,k A1 H1 st1 b g1 s1 h1⟩
 | _=>exact False.elim h1
theorem uH {op:CmpOp}{R:R3}(ho:yA X (compareOp op) (xN X.K R))(ha:PE X a (zK X.K Ta))(hb:PE X b (zK X.K Tb))(hm:behindInMarks op b=false):PT X (.Compare a [op] [b] pos) (yU X.K (pR (sD R Ta Tb))):=by
 refine iH (zjI ho ha hb hm) λσ H Q h=> ?_;have:=zff h;exact j6 this
def tJ:PV->z7->(Bool->Prop)->Prop
 | .non,_,k=>k false
 | .bl b,_,k=>k b
 | .int i,_,k=>k (i !=0)
 | .str x,_,k=>x.length<=sizeLine/\k ((x.length:Int) !=0)
 | .tup xs,_,k=>k (!xs.isEmpty)
 | .lst xs,_,k=>k (!xs.isEmpty)
 | .dct xs,_,k=>k (!xs.isEmpty)
 | .obj i,st,k=>match st[i]? with | some (.lst xs)=>k (!xs.isEmpty) | some (.dct xs)=>k (!xs.isEmpty) | _=>False
 | _,_,_=>False
def zlj (T:zB):x9:=λenv st Q=>T env st λx st1=>tJ x st1 λk=>Q k st1
theorem RVs.empty {K:Frag}{A:List Addr}{H:Hp}{xs:List PV}{vs:List V}(h:RVs K A H xs vs):vs.isEmpty=xs.isEmpty:=by
 cases h <;> rfl
theorem RKs.empty {K:Frag}{A:List Addr}{H:Hp}{xs:List (z6×PV)}{vs:List (z6×V)}(h:RKs K A H xs vs):vs.isEmpty=xs.isEmpty:=by
 cases h <;> rfl
theorem ztq {K:Frag}{A:List Addr}{H:Hp}{st:z7}{x:PV}{v:V}{P:Bool->Prop}(s:RS K A H st)(e:RE K A H x v)(h:tJ x st P): ∃k,eN K v H k/\P k:=by
 cases e with
 | obj e=>
  dsimp only[tJ]at h
  split at h
  ·rename_i xs q
   obtain⟨vs,h1,h2,_⟩:=s.at_ _ _ _ e q;exact⟨_,.inl ⟨vs,.of h1,by rw[h2.empty]⟩,h⟩
  ·rename_i xs q
   obtain⟨vs,h1,h2,_⟩:=s.at_ _ _ _ e q;exact⟨_,.inr (.inr ⟨vs,h1,by rw[h2.empty]⟩),h⟩
  ·exact h.elim
 | val e=>
  cases e with
  | non=>exact⟨_,rfl,h⟩
  | bl b=>exact⟨_,rfl,h⟩
  | int i=>exact⟨_,rfl,h⟩
  | str y=>exact⟨_,⟨h.1,rfl⟩,h.2⟩
  | ty n=>exact False.elim h
  | tup t z r=>exact⟨_,.inr (.inl ⟨_,t.sq,by rw[r.empty]⟩),h⟩
  | lst t z r=>exact⟨_,.inl ⟨_,t.sq,by rw[r.empty]⟩,h⟩
  | dct t z r=>exact⟨_,.inr (.inr ⟨_,t.1,by rw[r.empty]⟩),h⟩
  | itb e n=>exact False.elim h
  | clo e=>exact False.elim h
theorem pF (ha:PE X a (zK X.K Ta))(he: ∀whole,isTrue a X.env whole=(do let v <- whole;standAt a.pos;holding [v] (truthy v)):=by intro _;rfl):PT X a (yU X.K (zlj Ta)):=by
 refine iH (zrf ha he) λσ H Q ⟨A,env,st,Q3,rel,h,k⟩=> ?_;refine⟨A,env,st,_,rel,h,λA1 H1 st1 x v g1 s1 e1 h1=> ?_⟩;obtain⟨b,hb,q⟩:=ztq s1 e1 h1;exact⟨b,hb,k A1 H1 st1 b g1 s1 q⟩
def fB (t u:x9):x9:=λenv st Q=>t env st λc st1=>if c=true then u env st1 Q else Q false st1
def vOr (t u:x9):x9:=λenv st Q=>t env st λc st1=>if c=true then Q true st1 else u env st1 Q
def zld (t:x9):x9:=λenv st Q=>t env st λc st1=>Q (!c) st1
theorem zmN {K:Frag}{t u:x9}{σ:St}{H:Hp}{Q:Bool->Hp->Prop} :yU K (fB t u) σ H Q->zkB (yU K t) (yU K u) σ H Q:=by
 rintro⟨A,env,st,Q3,rel,h,k⟩;refine⟨A,env,st,_,rel,h,λA1 H1 st1 c g1 s1 h1=> ?_⟩;cases c with
 | true=>exact⟨A1,env,st1,Q3,rel.grow g1 s1,h1,k.after g1⟩
 | false=>exact k A1 H1 st1 false g1 s1 h1
theorem zmP {K:Frag}{t u:x9}{σ:St}{H:Hp}{Q:Bool->Hp->Prop} :yU K (vOr t u) σ H Q->tOr (yU K t) (yU K u) σ H Q:=by
 rintro⟨A,env,st,Q3,rel,h,k⟩;refine⟨A,env,st,_,rel,h,λA1 H1 st1 c g1 s1 h1=> ?_⟩;cases c with
 | false=>exact⟨A1,env,st1,Q3,rel.grow g1 s1,h1,k.after g1⟩
 | true=>exact k A1 H1 st1 true g1 s1 h1
variable {zO:List Expr}
theorem qP (ha:PT X a (yU X.K tc)):PW X (.BoolOp .And [a] pos) (yU X.K tc):=zri ha
theorem iL (ha:PT X a (yU X.K tc)):PW X (.BoolOp .Or [a] pos) (yU X.K tc):=zrk ha
theorem qO (ha:PT X a (yU X.K tc))(hb:PW X (.BoolOp .And (b::zO) pos) (yU X.K td)):PW X (.BoolOp .And (a::b::zO) pos) (yU X.K (fB tc td)):=zjL (zrh ha hb) λ_ _ _=>zmN
theorem mZ (ha:PT X a (yU X.K tc))(hb:PW X (.BoolOp .Or (b::zO) pos) (yU X.K td)):PW X (.BoolOp .Or (a::b::zO) pos) (yU X.K (vOr tc td)):=zjL (zrj ha hb) λ_ _ _=>zmP
theorem zda (ha:PT X a (yU X.K tc)):PT X (.UnaryOp .Not a pos) (yU X.K (zld tc)):=iH (zre ha) λσ H Q ⟨A,env,st,Q3,rel,h,k⟩=>⟨A,env,st,_,rel,h,λA1 H1 st1 c g1 s1 h1=>k A1 H1 st1 (!c) g1 s1 h1⟩
def zkS (Ta Tb:zB):zB:=λenv st Q=>Ta env st λx st1=>match x with | .bl c=>if c=true then Tb env st1 Q else Q (.bl false) st1 | _=>False
def ztC (Ta Tb:zB):zB:=λenv st Q=>Ta env st λx st1=>match x with | .bl c=>if c=true then Q (.bl true) st1 else Tb env st1 Q | _=>False
def ztB (Ta:zB):zB:=λenv st Q=>Ta env st λx st1=>match x with | .bl c=>Q (.bl (!c)) st1 | _=>False
theorem zrr {op}(h:PE X a (zK X.K Ta)):PE X (.BoolOp op [a] pos) (zK X.K Ta):=zq6 h
theorem zrl (ha:PE X a (zK X.K Ta))(hb:PE X (.BoolOp .And (b::zO) pos) (zK X.K Tb)):PE X (.BoolOp .And (a::b::zO) pos) (zK X.K (zkS Ta Tb)):=by
 refine xL (zqr ha hb) λσ H Q ⟨A,env,st,Q3,rel,h,k⟩=>⟨A,env,st,_,rel,h,λA1 H1 st1 x v g1 s1 e1 h1=> ?_⟩;cases x with
 | bl c=>
  cases e1 with
  | val e1=>
   cases e1;refine⟨c,rfl,?_⟩;cases c with
   | true=>exact⟨A1,env,st1,Q3,rel.grow g1 s1,h1,k.after g1⟩
   | false=>exact k A1 H1 st1 _ _ g1 s1 (.val (.bl _)) h1
 | _=>exact False.elim h1
def vIf (t:x9)(Ta Tb:zB):zB:=λenv st Q=>t env st λc st1=>if c=true then Ta env st1 Q else Tb env st1 Q
def pQ:yE:=λ_ st Q=>Q [] st
def uT (Ta:zB)(Tr:yE):yE:=λenv st Q=>Ta env st λx st1=>Tr env st1 λxs st2=>Q (x::xs) st2
theorem z8:PA X [] (vD X.K pQ):=zjw mW λσ H Q ⟨A,env,st,Q3,rel,h,k⟩=>k A H st [] [] (.refl _ _) rel.rs .nil h
theorem z4 (ha:PE X e (zK X.K Ta))(hr:PA X es (vD X.K TA))(hs:starEach (e::es) X.env=(false,eval e X.env)::starEach es X.env:=by rfl):PA X (e::es) (vD X.K (uT Ta TA)):=
 zjw (qJ ha hr hs) λσ H Q ⟨A,env,st,Q3,rel,h,k⟩=>⟨A,env,st,_,rel,h,λA1 H1 st1 x v g1 s1 e1 h1=>⟨A1,env,st1,_,rel.grow g1 s1,h1,λA2 H2 st2 xs vs g2 s2 e2 h2=>k A2 H2 st2 _ _ (g1.trans g2) s2 (.cons (e1.grow g2) e2) h2⟩⟩
def yR:PV->Bool
 | .obj _=>false
 | _=>true
def uP (xs:List PV):Bool:=xs.all yR&&Nat.ble xs.length 1000
theorem RE.rv {K:Frag}{A:List Addr}{H:Hp}{x:PV}{v:V}(e:RE K A H x v)(h:yR x=true):RV K A H x v:=by
 cases e with
 | val e=>exact e
 | obj e=>cases h
theorem yP.rvs {K:Frag}{A:List Addr}{H:Hp} : ∀{xs:List PV} {vs:List V},yP K A H xs vs->xs.all yR=true->RVs K A H xs vs
 | _,_,.nil,_=> .nil
 | _,_,.cons r t,h=>by
  rw[ki,fb]at h;exact .cons (r.rv h.1) (yP.rvs t h.2)
theorem uP.both {xs:List PV}(h:uP xs=true):xs.all yR=true/\xs.length<=sizeLine:=by
 unfold uP at h;rw[fb]at h;exact⟨h.1,bf (Nat.le_of_ble_eq_true h.2) (by decide)⟩
def zlk (T:yE):zB:=λenv st Q=>T env st λxs st1=>uP xs=true/\Q (.tup xs) st1
def zkX (T:yE):zB:=λenv st Q=>T env st λxs st1=>uP xs=true/\Q (.lst xs) st1
def zkY (T:yE):zB:=λenv st Q=>T env st λxs st1=>uP xs=true/\Q (.obj st1.length) (st1++ [.lst xs])
theorem y4 {x1}(h:PA X es (vD X.K TA)):PE X (.Tuple es x1 pos) (zK X.K (zlk TA)):=by
 refine xL (zj9 h) λσ H Q ⟨A,env,st,Q3,rel,h,k⟩=>⟨A,env,st,_,rel,h,λA1 H1 st1 xs vs g1 s1 e1 h1=> ?_⟩;obtain⟨o1,o2⟩:=uP.both h1.1;have hr:=e1.rvs o1;have hl:=hr.len;refine⟨by rw[<- hl];exact o2,λp hp=>k A1 _ st1 _ _ (g1.trans (.new hp)) (s1.new hp) (.val (.tup (.inl ⟨.inl yO,s1.fresh hp⟩) (by rw[<- hl];exact o2) (hr.grow (.new hp)))) h1.2⟩
theorem vU (h:PA X es (vD X.K TA)):PE X (.List es pos) (zK X.K (zkX TA)):=by
 refine xL (zj8 h) λσ H Q ⟨A,env,st,Q3,rel,h,k⟩=>⟨A,env,st,_,rel,h,λA1 H1 st1 xs vs g1 s1 e1 h1=> ?_⟩;obtain⟨o1,o2⟩:=uP.both h1.1;have hr:=e1.rvs o1;have hl:=hr.len;refine⟨by rw[<- hl];exact o2,λp hp=>k A1 _ st1 _ _ (g1.trans (.new hp)) (s1.new hp) (.val (.lst (.inl ⟨.inl yO,s1.fresh hp⟩) (by rw[<- hl];exact o2) (hr.grow (.new hp)))) h1.2⟩
theorem jY {A:List Addr}{n:Nat}{p:Addr}(h:A.length=n):(A++ [p])[n]?=some p:=by
 subst h;rw[aq (ao _),fq];rfl
theorem rS (h:PA X es (vD X.K TA)):PE X (.List es pos) (zK X.K (zkY TA)):=by
 refine xL (zj8 h) λσ H Q ⟨A,env,st,Q3,rel,h,k⟩=>⟨A,env,st,_,rel,h,λA1 H1 st1 xs vs g1 s1 e1 h1=> ?_⟩;obtain⟨o1,o2⟩:=uP.both h1.1;have hr:=e1.rvs o1;have hl:=hr.len;refine⟨by rw[<- hl];exact o2,λp hp=>k (A1++ [p]) _ _ _ _ (g1.trans (.newObj hp)) (s1.newObj (q:= .lst xs) hp ⟨vs,yO,hr.grow (.newObj hp),by rw[<- hl];exact o2⟩) (.obj (jY s1.len)) h1.2⟩
def r6 (R:zQ)(T:yE):zB:=λenv st Q=>T env st λxs st1=>R xs st1 Q
theorem dD {K:Frag}{R:zQ}{σ:St}{H:Hp}{Q:VK} :zK K (r6 R TA) σ H Q->tCB (tO K R) (vD K TA) σ H Q:=by
 rintro⟨A,env,st,Q3,rel,h,k⟩;exact⟨A,env,st,_,rel,h,λA1 H1 st1 xs vs g1 s1 e1 h1=>⟨A1,st1,xs,Q3,s1,e1,h1,k.after g1⟩⟩
theorem wH {x:Str}{id:String}{R:zQ}(hc:w4 X (.builtin id) (tO X.K R))(hg:Gl X x)(hm:X.mg x=none)(hv:bootBuiltins x=some (.builtin id))(ha:PA X (e::es) (vD X.K TA))(hn:x≠ "__name__" :=by decide)(hdb:(x==("__debug__" :Str))=false:=by decide)
  (he:starEach (e::es) X.env=(false,eval e X.env)::starEach es X.env:=by rfl) (hpl:(backTo pos (starEach es X.env)).any (·.1)=false:=by rfl):PE X (.Call (.Name x p) (e::es) [] pos) (zK X.K (r6 R TA)):=
 xL (zj5 hc hg hm hv ha hn hdb he hpl) λ_ _ _=>dD
theorem wP {x:Str}{T:String}{R:zQ}(hc:w4 X (.type T) (tO X.K R))(hg:Gl X x)(hm:X.mg x=none)(hv:bootBuiltins x=some (.type T))(ha:PA X (e::es) (vD X.K TA))(hn:x≠ "__name__" :=by decide)(hdb:(x==("__debug__" :Str))=false:=by decide)
  (he:starEach (e::es) X.env=(false,eval e X.env)::starEach es X.env:=by rfl) (hpl:(backTo pos (starEach es X.env)).any (·.1)=false:=by rfl):PE X (.Call (.Name x p) (e::es) [] pos) (zK X.K (r6 R TA)):=
 xL (zqw hc hg hm hv ha hn hdb he hpl) λ_ _ _=>dD
theorem zrn {x:Str}{S:zQ}{k:Nat}{f:Addr}{fd:FuncData}{ps:List Str}(F:zU X.prog X.w X.K X.mg X.base y3 k f fd ps (y2 X.K S))(hr:zL k X.A)(hg:Gl X x)(hm:X.mg x=some (.ref f))(hk:keepIn X.K (.ref f)=true)(hb:wT X.K fd ps [])
  (ha:PA X (e::es) (vD X.K TA)) (hdb:(x==("__debug__" :Str))=false:=by decide) (he:starEach (e::es) X.env=(false,eval e X.env)::starEach es X.env:=by rfl) (hpl:(backTo pos (starEach es X.env)).any (·.1)=false:=by rfl):
  PE X (.Call (.Name x p) (e::es) [] pos) (zK X.K (r6 S TA)):=by
 refine xL (zqv F hr hg hm hk hb .nil zj3 ha hdb he hpl) λσ H Q h=> ?_;obtain⟨A,env,st,Q3,rel,h,k⟩:=dD h;refine⟨A,env,st,Q3,rel,h,λA1 H1 st1 rs vs g1 s1 e1 h1=> ?_⟩;show y2 X.K S (vs++ []) H1 Q E0;rw[cn];exact k A1 H1 st1 rs vs g1 s1 e1 h1
variable {sts rst:List Stmt} {stm:Stmt} {Ts Tu:yQ}
def zdY:yQ:=λD env st=>D.nx env st
def vY (t u:yQ):yQ:=λD env st=>t {D with nx:=u D} env st
theorem yC:x8 X [] (xA X.K zdY):=iG zrd λD σ H ⟨A,env,st,D3,rel,h,k⟩=>k.nx A H σ env st (.refl _ _) rel h
theorem zF (h:PS X stm (xA X.K Ts)):x8 X [stm] (xA X.K Ts):=iF h
theorem zA (h1:PS X stm (xA X.K Ts))(h2:x8 X rst (xA X.K Tu)):x8 X (stm::rst) (xA X.K (vY Ts Tu)):=
 iG (nB h1 h2) λD σ H ⟨A,env,st,D3,rel,h,k⟩=>⟨A,env,st,_,rel,h,λA1 H1 σ1 env1 st1 g1 r1 h1=>⟨A1,env1,st1,D3,r1,h1,k.after g1⟩,k.rt,k.bk,k.ct⟩
def zt5:yQ:=λD env st=>D.bk env st
def zt8:yQ:=λD env st=>D.ct env st
def fD (T:zB):yQ:=λD env st=>T env st λ_ st1=>D.nx env st1
theorem xC (he:PE X e (zK X.K Ta))(hs:swapsWith e none pos.line X.env=pure false:=by rfl):PS X (.Expr e pos) (xA X.K (fD Ta)):=
 tI (zjF he hs) λD σ H ⟨A,env,st,D3,rel,h,k⟩=>⟨A,env,st,_,rel,h,λA1 H1 st1 x v g1 s1 e1 h1=>k.nx A1 H1 σ env st1 g1 (rel.grow g1 s1) h1⟩
def zlf (T:zB):yQ:=λD env st=>T env st D.rt
theorem yB (he:PE X e (zK X.K Ta)):PS X (.Return (some e) pos) (xA X.K (zlf Ta)):=tI (zcV he) λD σ H ⟨A,env,st,D3,rel,h,k⟩=>⟨A,env,st,_,rel,h,k.rt⟩
def ztF:yQ:=λD _ st=>D.rt .non st
def fE (c:x9)(t u:yQ):yQ:=λD env st=>c env st λb st1=>if b=true then t D env st1 else u D env st1
theorem y9 (hc:PT X c (yU X.K tc))(ha:x8 X sts (xA X.K Ts))(hb:x8 X rst (xA X.K Tu)):PS X (.If c sts rst pos) (xA X.K (fE tc Ts Tu)):=by
 refine tI (zqX hc ha hb) λD σ H ⟨A,env,st,D3,rel,h,k⟩=>⟨A,env,st,_,rel,h,λA1 H1 st1 b g1 s1 h1=> ?_⟩;cases b with
 | true=>exact⟨A1,env,st1,D3,rel.grow g1 s1,h1,k.after g1⟩
 | false=>exact⟨A1,env,st1,D3,rel.grow g1 s1,h1,k.after g1⟩
variable {Tg:xW} {Tgs:t5}
def gN (i:Nat):xW:=λx env st Q=>Q (env.set i (some x)) st
theorem yX.set {K:Frag}{A:List Addr}{H:Hp}{σ:St}{env:zG}{st:z7}(r:yX K A H σ env st)(i:Nat){x:PV}{v:V}(e:RE K A H x v):yX K A H (σ.set i (some v)) (env.set i (some x)) st:=by
 refine⟨r.rs,by rw[dw,dw];exact r.len,λj y h=> ?_⟩;by_cases hij:i=j
 ·subst hij
  have hl:i < env.length:=by have:=(ad.mp h).1;simpa using this
  rw[gu hl]at h;cases h;exact⟨v,gu (by rw[<- r.len];exact hl),e⟩
 ·rw[ka hij]at h
  rw[ka hij];exact r.at_ j y h
theorem j5 {K:Frag}{i:Nat}{v:V}{σ:St}{H:Hp}{Q:St->Hp->Prop} :vE K (gN i) v σ H Q->jI i v σ H Q:=by
 rintro⟨A,env,st,x,Q3,rel,e,h,k⟩;exact k A H _ _ st (.refl _ _) (rel.set i e) h
theorem zrt {i:Nat}{x:Str}(hN:X.N.Nodup)(hi:X.N[i]?=some x)(hx:uW X.env.scope x)(hf:X.fn x=true∨X.env.scope.names.lookup x=some .local:=by first | exact .inl rfl | exact .inr rfl | assumption):PG X (.Name x pos) (vE X.K (gN i)):=
 zcR (zqF hN hi hx hf) λ_ _ _ _=>j5
def gsN:t5:=λxs env st Q=>match xs with | []=>Q env st | _=>False
def gsC (g:xW)(gs:t5):t5:=λxs env st Q=>match xs with | x::r=>g x env st λenv1 st1=>gs r env1 st1 Q | []=>False
theorem pE:vL X [] (mK X.K gsN):=by
 refine zjB zjA λvs σ H Q ⟨A,env,st,xs,Q3,rel,e,h,k⟩=> ?_;cases e with
 | nil=>exact⟨rfl,k A H σ env st (.refl _ _) rel h⟩
 | cons r t=>exact False.elim h
theorem wW (h1:PG X e (vE X.K Tg))(h2:vL X es (mK X.K Tgs))(hs:(assignEach (e::es) X.env).map (·.2)=assign e X.env::(assignEach es X.env).map (·.2):=by rfl):vL X (e::es) (mK X.K (gsC Tg Tgs)):=by
 refine zjB (zcS h1 h2 hs) λvs σ H Q ⟨A,env,st,xs,Q3,rel,e,h,k⟩=> ?_;cases e with
 | nil=>exact False.elim h
 | cons r t=>exact⟨_,_,rfl,A,env,st,_,_,rel,r,h,λA1 H1 σ1 env1 st1 g1 r1 h1=>⟨A1,env1,st1,_,Q3,r1,yP.grow g1 t,h1,k.after g1⟩⟩
def gT (n:Nat)(gs:t5):xW:=λx env st Q=>match x with | .tup xs=>xs.length=n/\gs xs env st Q | .lst xs=>xs.length=n/\gs xs env st Q | _=>False
theorem RVs.res {K:Frag}{A:List Addr}{H:Hp}{xs:List PV}{vs:List V} :RVs K A H xs vs->yP K A H xs vs
 | .nil=> .nil
 | .cons r t=> .cons (.val r) (RVs.res t)
theorem nF {k:Nat}{n:Nat}(hc:X.calm=true)(h:vL X es (mK X.K Tgs))(hn:(assignEach es X.env).length=n:=by rfl)(hst:(assignEach es X.env).findIdx? (·.1)=none:=by rfl)
  (hn2:(assignEach es X.env).length=n:=by rfl) (hst2:(assignEach es X.env).findIdx? (·.1)=none:=by rfl):PG X (.Tuple es k pos) (vE X.K (gT n Tgs)):=by
 refine⟨λpins s σ H v u Q I r ⟨A,env,st,x,Q3,rel,e,q,k⟩=> ?_⟩;cases e with
 | obj e=>exact False.elim q
 | val e=>
  cases e with
  | tup t z rs=>exact(zj_ hc h hn hst) pins s σ H _ u Q I r ⟨_,_,rfl,t.sq,by rw[<- rs.len];exact q.1,A,env,st,_,Q3,rel,rs.res,q.2,k⟩
  | lst t z rs=>exact(zqE hc h hn hst) pins s σ H _ u Q I r ⟨_,_,rfl,t.sq,by rw[<- rs.len];exact q.1,A,env,st,_,Q3,rel,rs.res,q.2,k⟩
  | _=>exact False.elim q
def pP (T:zB)(g:xW):yQ:=λD env st=>T env st λx st1=>g x env st1 D.nx
theorem j3 {K:Frag}{D:sF}{σ:St}{H:Hp} :xA K (pP Ta Tg) D σ H->lT (zK K Ta) (vE K Tg) D σ H:=by
 rintro⟨A,env,st,D3,rel,h,k⟩;exact⟨A,env,st,_,rel,h,λA1 H1 st1 x v g1 s1 e1 h1=>⟨A1,env,st1,x,D3.nx,rel.grow g1 s1,e1,h1,k.nx.after g1⟩⟩
theorem vI {tg:Expr}(he:PE X e (zK X.K Ta))(hg:PG X tg (vE X.K Tg))(hs:swapsWithSole [tg] e pos.line X.env=pure false:=by rfl)(hw:swappedStores [tg] e X.env=pure none:=by rfl)
  (h1:(assignEach [tg] X.env).map (·.2)= [assign tg X.env]:=by rfl):PS X (.Assign [tg] e pos) (xA X.K (pP Ta Tg)):=tI (zjE he hg hs hw h1) λ_ _ _=>j3
theorem zcZ {i:Nat}{x:Str}{pos':Pos}(hN:X.N.Nodup)(hi:X.N[i]?=some x)(hx:uW X.env.scope x)(he:PE X e (zK X.K Ta))(hs:swapsWith e (some (.Name x pos')) pos.line X.env=pure false:=by rfl)(hf:X.fn x=true∨X.env.scope.names.lookup x=some .local:=by first | exact .inl rfl | exact .inr rfl | assumption):
  PS X (.Assign [.Name x pos'] e pos) (xA X.K (pP Ta (gN i))):=by
 refine tI (zjG hN hi hx he hs hf) λD σ H h=> ?_;obtain⟨A,env,st,Q3,rel,h,k⟩:=j3 h;exact⟨A,env,st,Q3,rel,h,λA1 H1 st1 r v g s e q=>j5 (k A1 H1 st1 r v g s e q)⟩
def zle (i j:Nat)(T:yE):yQ:=λD env st=>T env st λxs st1=>match xs with | [x,y]=>D.nx ((env.set i (some x)).set j (some y)) st1 | _=>False
theorem zrx {i j:Nat}{x y:Str}{px py pt:Pos}{kt k2 pt2}(hc:X.calm=true)(hN:X.N.Nodup)(hi:X.N[i]?=some x)(hj:X.N[j]?=some y)(hij:i≠j)
  (hx:X.env.scope.names.lookup x=some .local) (hy:X.env.scope.names.lookup y=some .local) (ha:PA X [a,b] (vD X.K TA))
  (hw:swappedStores [.Tuple [.Name x px,.Name y py] kt pt] (.Tuple [a,b] k2 pt2) X.env=pure (some [x,y]))
  (hs:swapsWithSole [.Tuple [.Name x px,.Name y py] kt pt] (.Tuple [a,b] k2 pt2) pos.line X.env=pure false:=by rfl):
  PS X (.Assign [.Tuple [.Name x px,.Name y py] kt pt] (.Tuple [a,b] k2 pt2) pos) (xA X.K (zle i j TA)):=by
 refine tI (zqZ hc hN hi hj hij hx hy ha hw hs) λD σ H ⟨A,env,st,D3,rel,h,k⟩=>⟨A,env,st,_,rel,h,λA1 H1 st1 xs vs g1 s1 e1 h1=> ?_⟩
 split at h1
 ·rename_i x y
  cases e1 with
  | cons r1 t=>
   cases t with
   | cons r2 t2=>
    cases t2;exact⟨_,_,rfl,k.nx A1 H1 _ _ st1 g1 (((rel.grow g1 s1).set i r1).set j r2) h1⟩
 ·exact h1.elim
end
end L3
namespace L3
open PySem PySem.Spec PyProof.Rows L2
def tK:xO->z7->Prop->Prop
 | none,_,P=>P
 | some (i,o),st,P=>st[i]?=some o/\P
theorem tK.of {src:xO}{st:z7}{P:Prop}(h:tK src st P):P:=by
 cases src with
 | none=>exact h
 | some q=>exact h.2
def jZ:xO->z7->Prop
 | none,_=>True
 | some (i,o),st=>st[i]?=some o
theorem tK.ok {src:xO}{st:z7}{P:Prop}(h:tK src st P):jZ src st:=by
 cases src with
 | none=>exact trivial
 | some q=>exact h.1
structure qU (K:Frag)(A:List Addr)(H:Hp)(src:xO)(J:It)(xs:List PV):Prop where
 go: ∀(i:Nat) A' H' st,zR A H A' H'->RS K A' H' st->jZ src st->i < xs.length->J.go i H'
 yld: ∀(i:Nat) (x:PV) A' H' st v H2,xs[i]?=some x->zR A H A' H'->RS K A' H' st->jZ src st->J.yld i H' v H2->zR A' H' A' H2/\RS K A' H2 st/\RE K A' H2 x v
 stop: ∀A' H' st,zR A H A' H'->RS K A' H' st->jZ src st->J.stop xs.length H'
 small:xs.length<=sizeLine
def rF (K:Frag)(I:uL):TI:=λσ H R=> ∃A env st Q3,yX K A H σ env st/\I env st Q3/\∀A' H' st' src xs J,zR A H A' H'->RS K A' H' st'->qU K A' H' src J xs->Q3 src xs st'->R J H'
def fM (g:xW)(b:yQ)(src:xO)(xs:List PV)(D:xM)(env:zG)(st:z7):Prop:= ∃P:Nat->zG->z7->Prop,P 0 env st/\
 (∀i x env st,xs[i]?=some x->P i env st->tK src st (g x env st λe s=>b {D with nx:=P (i+1),ct:=P (i+1),bk:=D.nx} e s))/\(∀env st,P xs.length env st->tK src st (D.nx env st))
def zkV (I:uL)(g:xW)(b:yQ):yQ:=λD env st=>I env st λsrc xs st1=>fM g b src xs D env st1
def ztI (c:x9)(b:yQ):yQ:=λD env st=> ∃W:Nat->zG->z7->Prop,(∃m,W m env st)/\∀m env st,W m env st->
 c env st λt st1=>if t=true then ∃N:zG->z7->Prop,(∀e s,N e s->∃m',m' < m/\W m' e s)/\b {D with nx:=N,ct:=N,bk:=D.nx} env st1 else D.nx env st1
section
variable {X:Cx} {a b c e tg iter:Expr} {es:List Expr} {pos p:Pos} {Ta Tb:zB} {TA:yE} {tc:x9} {Ti:uL} {Tg:xW} {Ts:yQ} {body:List Stmt}
theorem zcT {wi wi':TI}(h:PI X tg iter wi)(w: ∀σ H R,wi' σ H R->wi σ H R):PI X tg iter wi':=⟨λpins s σ H R I q=>h pins s σ H R I (w σ H R q)⟩
theorem vV (hp:PassesOwn (ay X.prog X.w) X.A X.env X.xe)(hc:X.calm=true)(hi:PI X tg iter (rF X.K Ti))(hg:PG X tg (vE X.K Tg))(hb:x8 X body (xA X.K Ts))
  (hs: ∀x,foldedSetIterable iter X.env x=pure x:=by intro _;rfl):PS X (.For tg iter body [] pos) (xA X.K (zkV Ti Tg Ts)):=by
 refine tI (zqW hp hc hi hg hb hs) λD σ H ⟨A,env,st,D3,rel,h,k⟩=>⟨A,env,st,_,rel,h,λA1 H1 st1 src xs J g1 s1 it h1=> ?_⟩;obtain⟨P,p0,hP,hE⟩:=h1;refine⟨λi m σ' H'=>m=xs.length - i/\i<=xs.length/\∃A' env' st',zR A1 H1 A' H'/\yX X.K A' H' σ' env' st'/\P i env' st',⟨_,rfl,dg _,A1,env,st1,.refl _ _,rel.grow g1 s1,p0⟩,?_⟩;rintro i m σ' H' ⟨rfl,hi,A',env',st',g',rel',p'⟩;by_cases hlt:i < xs.length
 ·have hx:xs[i]?=some xs[i]:=bu hlt
  have hw:=hP i _ env' st' hx p';refine .inr ⟨it.go i A' H' st' g' rel'.rs hw.ok hlt,λσ2 H2=>i+1<=xs.length/\∃A' env' st',zR A1 H1 A' H2/\yX X.K A' H2 σ2 env' st'/\P (i+1) env' st',λσ2 H2 q=>⟨_,by omega,rfl,q⟩,λv H2 y=> ?_⟩;obtain⟨g2,s2,e2⟩:=it.yld i _ A' H' st' v H2 hx g' rel'.rs hw.ok y;refine⟨A',env',st',_,_,rel'.grow g2 s2,e2,hw.of,λA3 H3 σ3 env3 st3 g3 r3 h3=> ?_⟩;have gg:=g'.trans (g2.trans g3);have k3:=k.after (g1.trans gg);exact⟨A3,env3,st3,_,r3,h3,λA4 H4 σ4 env4 st4 g4 r4 h4=>⟨hlt,A4,env4,st4,gg.trans g4,r4,h4⟩,k3.rt,k3.nx,λA4 H4 σ4 env4 st4 g4 r4 h4=>⟨hlt,A4,env4,st4,gg.trans g4,r4,h4⟩⟩
 ·have e:i=xs.length:=by omega
  subst e;have hw:=hE env' st' p';exact .inl ⟨it.stop A' H' st' g' rel'.rs hw.ok,k.nx A' H' σ' env' st' (g1.trans g') rel' hw.of⟩
theorem zjP (hp:PassesOwn (ay X.prog X.w) X.A X.env X.xe)(hc:PT X c (yU X.K tc))(hb:x8 X body (xA X.K Ts)):PS X (.While c body [] pos) (xA X.K (ztI tc Ts)):=by
 refine tI (zrc hp hc hb) λD σ H ⟨A,env,st,D3,rel,h,k⟩=> ?_;obtain⟨W,⟨m0,w0⟩,hW⟩:=h;refine⟨λm σ' H'=> ∃A' env' st',zR A H A' H'/\yX X.K A' H' σ' env' st'/\W m env' st',⟨m0,A,env,st,.refl _ _,rel,w0⟩,?_⟩;rintro m σ' H' ⟨A',env',st',g',rel',w'⟩;refine⟨A',env',st',_,rel',hW m env' st' w',λA1 H1 st1 t g1 s1 h1=> ?_⟩;have gg:=g'.trans g1;have kk:=k.after gg;cases t with
 | false=>exact k.nx A1 H1 σ' env' st1 gg (rel'.grow g1 s1) h1
 | true=>
  obtain⟨N,hN,hb1⟩:=h1;refine⟨λσ2 H2=> ∃A2 env2 st2,zR A H A2 H2/\yX X.K A2 H2 σ2 env2 st2/\N env2 st2,?_,?_⟩
  ·rintro σ2 H2 ⟨A2,env2,st2,g2,r2,n2⟩
   obtain⟨m',hm,w2⟩:=hN env2 st2 n2;exact⟨m',hm,A2,env2,st2,g2,r2,w2⟩
  ·exact⟨A1,env',st1,_,rel'.grow g1 s1,hb1,λA4 H4 σ4 env4 st4 g4 r4 h4=>⟨A4,env4,st4,gg.trans g4,r4,h4⟩,kk.rt,kk.nx,λA4 H4 σ4 env4 st4 g4 r4 h4=>⟨A4,env4,st4,gg.trans g4,r4,h4⟩⟩
def pU (own:Nat)(g:xW)(tt:x9)(el:zB)(src:xO)(xs:List PV)(Q:List PV->z7->Prop)(env:zG)(st:z7):Prop:= ∃P:Nat->List PV->zG->z7->Prop,P 0 [] (env++List.replicate own none) st/\
 (∀i x ys env st,xs[i]?=some x->P i ys env st->tK src st (g x env st λe s=>tt e s λb s2=>if b=true then el e s2 λy s3=>yR y=true/\P (i+1) (ys++ [y]) e s3 else P (i+1) ys e s2))/\
 (∀ys env st,P xs.length ys env st->tK src st (Q ys st))
def fC (own:Nat)(I:uL)(g:xW)(tt:x9)(el:zB):zB:=λenv st Q=>I env st λsrc xs st1=>pU own g tt el src xs (λys st2=>Q (.lst ys) st2) env st1
def zdX (own:Nat)(I:uL)(g:xW)(tt:x9)(el:zB):zB:=λenv st Q=>I env st λsrc xs st1=>pU own g tt el src xs (λys st2=>Q (.obj st2.length) (st2++ [.lst ys])) env st1
def zll:x9:=λ_ st Q=>Q true st
theorem pD:PF X [] (yU X.K zll):=zqD zqB λσ H Q ⟨A,env,st,Q3,rel,h,k⟩=>k A H st true (.refl _ _) rel.rs h
theorem iJ (h:PT X c (yU X.K tc)):PF X [c] (yU X.K tc):=zqC h
theorem yX.more {K:Frag}{A:List Addr}{H:Hp}{σ:St}{env:zG}{st:z7}(r:yX K A H σ env st)(n:Nat):yX K A H (σ++List.replicate n none) (env++List.replicate n none) st:=by
 refine⟨r.rs,by rw[ai,ai,r.len,gy,gy],λi x h=> ?_⟩;by_cases hi:i < env.length
 ·rw[bo hi]at h
  rw[bo (by rw[<- r.len];exact hi)];exact r.at_ i x h
 ·rw[aq (by omega),im]at h
  split at h <;> cases h
theorem zfe {K:Frag}{own:Nat}{g:xW}{tt:x9}{el:zB}{src:xO}{xs:List PV}{Q3:List PV->z7->Prop}{Q:VK}{A:List Addr}{H:Hp}{σ:St}{env:zG}{st:z7}{J:It}(rel:yX K A H σ env st)(it:qU K A H src J xs)
  (h:pU own g tt el src xs Q3 env st) (k: ∀A' H' st' ys vs,zR A H A' H'->RS K A' H' st'->RVs K A' H' ys vs->vs.length<=sizeLine->Q3 ys st'->∀D,H' D=none->Q (.ref D) (upd H' D (.lst vs))):zeh own J (vE K g) (yU K tt) (zK K el) Q σ H:=by
 obtain⟨P,p0,hP,hE⟩:=h;refine⟨λi m vs σ' H'=>m=xs.length - i/\i<=xs.length/\vs.length<=i/\∃A' env' st' ys,zR A H A' H'/\yX K A' H' σ' env' st'/\RVs K A' H' ys vs/\P i ys env' st',⟨_,rfl,dg _,ao _,A,_,st,[],.refl _ _,rel.more own,.nil,p0⟩,?_⟩;rintro i m vs σ' H' ⟨rfl,hi,hv,A',env',st',ys,g',rel',rv,p'⟩;by_cases hlt:i < xs.length
 ·have hx:xs[i]?=some xs[i]:=bu hlt
  have hw:=hP i _ ys env' st' hx p';refine .inr ⟨it.go i A' H' st' g' rel'.rs hw.ok hlt,bj (ky hv hlt) it.small,λvs σ2 H2=>i+1<=xs.length/\vs.length<=i+1/\∃A' env' st' ys,zR A H A' H2/\yX K A' H2 σ2 env' st'/\RVs K A' H2 ys vs/\P (i+1) ys env' st',λvs σ2 H2 q=>⟨_,by omega,rfl,q⟩,λv H2 y=> ?_⟩;obtain⟨g2,s2,e2⟩:=it.yld i _ A' H' st' v H2 hx g' rel'.rs hw.ok y;refine⟨A',env',st',_,_,rel'.grow g2 s2,e2,hw.of,λA3 H3 σ3 env3 st3 g3 r3 h3=>⟨A3,env3,st3,_,r3,h3,λA4 H4 st4 b g4 s4 h4=> ?_⟩⟩;have gg:=g2.trans (g3.trans g4);cases b with
  | false=>exact⟨hlt,by omega,A4,env3,st4,ys,g'.trans gg,r3.grow g4 s4,rv.grow gg,h4⟩
  | true=>
   refine⟨A4,env3,st4,_,r3.grow g4 s4,h4,λA5 H5 st5 y v5 g5 s5 e5 h5=>⟨hlt,by rw[ai,bw];omega,A5,env3,st5,ys++ [y],g'.trans (gg.trans g5),(r3.grow g4 s4).grow g5 s5,?_,h5.2⟩⟩;exact(rv.grow (gg.trans g5)).append (.cons (e5.rv h5.1) .nil)
 ·have e:i=xs.length:=by omega
  subst e;have hw:=hE ys env' st' p';have hz:=bf hv it.small;exact .inl ⟨it.stop A' H' st' g' rel'.rs hw.ok,hz,k A' H' st' ys vs g' rel'.rs rv hz hw.of⟩
variable {N' own:List Str} {scope:Scope} {ifs:List Expr} {target:Expr} {te:zB} {tt:x9}
theorem zfd {K:Frag}{own:Nat}{σ:St}{H:Hp}{Q:VK} :zK K (fC own Ti Tg tt te) σ H Q->gZ own (rF K Ti) (vE K Tg) (yU K tt) (zK K te) σ H Q:=by
 rintro⟨A,env,st,Q3,rel,h,k⟩;refine⟨A,env,st,_,rel,h,λA1 H1 st1 src xs J g1 s1 it h1=>zfe (rel.grow g1 s1) it h1 λA2 H2 st2 ys vs g2 s2 r2 hz q D hD=> ?_⟩;exact k A2 _ st2 _ _ (g1.trans (g2.trans (.new hD))) (s2.new hD) (.val (.lst (.inl ⟨.inl yO,s2.fresh hD⟩) hz (r2.grow (.new hD)))) q
theorem zmM {K:Frag}{own:Nat}{σ:St}{H:Hp}{Q:VK} :zK K (zdX own Ti Tg tt te) σ H Q->gZ own (rF K Ti) (vE K Tg) (yU K tt) (zK K te) σ H Q:=by
 rintro⟨A,env,st,Q3,rel,h,k⟩;refine⟨A,env,st,_,rel,h,λA1 H1 st1 src xs J g1 s1 it h1=>zfe (rel.grow g1 s1) it h1 λA2 H2 st2 ys vs g2 s2 r2 hz q D hD=> ?_⟩;exact k (A2++ [D]) _ _ _ _ (g1.trans (g2.trans (.newObj hD))) (s2.newObj (q:= .lst ys) hD ⟨vs,yO,r2.grow (.newObj hD),hz⟩) (.obj (jY s2.len)) q
theorem qN {pos:Pos}(S:sE X scope N' own)(hc:X.calm=true)(hi:PI X target iter (rF X.K Ti))
  (hg: ∀C s H fp pins,PG (xF X scope (N'++own) C s H fp pins) target (vE X.K Tg)) (ht: ∀C s H fp pins,PF (xF X scope (N'++own) C s H fp pins) ifs (yU X.K tt)) (he: ∀C s H fp pins,PE (xF X scope (N'++own) C s H fp pins) a (zK X.K te))
  (hs: ∀x,foldedSetIterable iter X.env x=pure x:=by intro _;rfl):PE X (.ListComp a [⟨target,iter,ifs,0⟩] scope pos) (zK X.K (fC own.length Ti Tg tt te)):=xL (zqy S hc hi hg ht he hs) λ_ _ _=>zfd
theorem znX {K:Frag}{A:List Addr}{H:Hp}{a:Addr}{xs:List PV}{vs:List V}(t:sH K A H a vs)(hz:vs.length<=sizeLine)(r:RVs K A H xs vs):qU K A H none (kI K a) xs where
 go:=λi A' H' st g s _ hi=>by
  rw[r.len]at hi;exact⟨vs,vs[i],(t.grow g).sq,by simp[hi]⟩
 yld:=λi x A' H' st v H2 hx g s _ y=>by
  obtain⟨rfl,y⟩:=y;obtain⟨w,ew,rw'⟩:=r.get hx;have:=y vs (t.grow g).sq;rw[ew]at this;cases this;exact⟨.refl _ _,s,.val (rw'.grow g)⟩
 stop:=λA' H' st g s _=>⟨vs,(t.grow g).sq,by rw[r.len];exact ao _⟩
 small:=by rw[r.len];exact hz
theorem zoa {K:Frag}{A:List Addr}{H:Hp}{a:Addr}{xs:List PV}{vs:List V}(t:uM K A H a vs)(hz:vs.length<=sizeLine)(r:RVs K A H xs vs):qU K A H none (fV K a) xs where
 go:=λi A' H' st g s _ hi=>by
  rw[r.len]at hi;exact⟨vs,vs[i],(t.grow g).sq,by simp[hi]⟩
 yld:=λi x A' H' st v H2 hx g s _ y=>by
  obtain⟨rfl,y⟩:=y;obtain⟨w,ew,rw'⟩:=r.get hx;have:=y vs (t.grow g).sq;rw[ew]at this;cases this;exact⟨.refl _ _,s,.val (rw'.grow g)⟩
 stop:=λA' H' st g s _=>⟨vs,(t.grow g).sq,by rw[r.len];exact ao _⟩
 small:=by rw[r.len];exact hz
theorem znY {K:Frag}{A:List Addr}{H:Hp}{i:Nat}{a:Addr}{xs:List PV}(e:A[i]?=some a)(hz:xs.length<=sizeLine):qU K A H (some (i,.lst xs)) (kI K a) xs where
 go:=λj A' H' st g s ok hi=>by
  obtain⟨vs,h,r,_⟩:=s.at_ i a _ (g.sub e) ok;rw[r.len]at hi;exact⟨vs,vs[j],.of h,by simp[hi]⟩
 yld:=λj x A' H' st v H2 hx g s ok y=>by
  obtain⟨rfl,y⟩:=y;obtain⟨vs,h,r,_⟩:=s.at_ i a _ (g.sub e) ok;obtain⟨w,ew,rw'⟩:=r.get hx;have:=y vs (.of h);rw[ew]at this;cases this;exact⟨.refl _ _,s,.val rw'⟩
 stop:=λA' H' st g s ok=>by
  obtain⟨vs,h,r,_⟩:=s.at_ i a _ (g.sub e) ok;exact⟨vs,.of h,by rw[r.len];exact ao _⟩
 small:=hz
def vW (lo:Int)(n:Nat):List PV:=(List.range n).map λi:Nat=> .int (lo+(i:Int))
theorem rV (lo:Int)(n:Nat):(vW lo n).length=n:=by unfold vW;rw[ac,mq]
theorem pI {lo:Int}{n i:Nat}{x:PV}(h:(vW lo n)[i]?=some x):i < n/\x= .int (lo+i):=by
 have hi:=(ad.mp h).1;rw[rV]at hi;unfold vW at h;rw[cg,List.getElem?_range hi]at h;exact⟨hi,(ce h).symm⟩
theorem zi0 {K:Frag}{A:List Addr}{H:Hp}{lo:Int}{n:Nat}(hz:n<=sizeLine):qU K A H none (m9 lo n) (vW lo n) where
 go:=λi A' H' st g s _ hi=>by rw[rV]at hi;exact hi
 yld:=λi x A' H' st v H2 hx g s _ y=>by
  obtain⟨rfl,rfl⟩:=y;obtain⟨_,rfl⟩:=pI hx;exact⟨.refl _ _,s,.val (.int _)⟩
 stop:=λA' H' st g s _=>by rw[rV];exact ao n
 small:=by rw[rV];exact hz
def zir (T:yE):uL:=λenv st Q=>T env st λxs st1=>match xs with
 | [.int j]=>(-1000000<=j/\j<=1000000)/\Q none (vW 0 j.toNat) st1
 | _=>False
def zis (T:yE):uL:=λenv st Q=>T env st λxs st1=>match xs with
 | [.int i,.int j]=>(-1000000<=i/\i<=1000000/\ -1000000<=j/\j<=1000000)/\Q none (vW i (j - i).toNat) st1
 | _=>False
end
end L3
namespace L3
open PySem PySem.Spec PyProof.Rows L2
section
variable {X:Cx}
theorem uF {f:Value->Value->Sem Value}{R:R3}
  (h: ∀pins s σ H A st x y v w vv ww Q3 Q,z5 X pins σ H s->RS X.K A H st->RE X.K A H x v->RE X.K A H y w->zN v vv->zN w ww->R x y st Q3->xQ X.K A H Q3 Q->ak (ay X.prog X.w) X.A (f vv ww) (EP X pins σ Q) X.xe s):yA X f (xN X.K R):=by
 rintro pins s σ H v w vv ww Q I rv rw ⟨A,st,x,y,Q3,rs,ex,ey,hR,k⟩;exact h pins s σ H A st x y v w vv ww Q3 Q I rs ex ey rv rw hR k
def zdq:R3:=λx y st Q=>match x,y with | .int i,.int j=>Q (.int (i - j)) st | _,_=>False
def iS:R3:=λx y st Q=>match x,y with
 | .int i,.int j=>((-(2 ^ 64) < i/\i < 2 ^ 64)∨(-(2 ^ 64) < j/\j < 2 ^ 64))/\Q (.int (i * j)) st
 | .str z,.int n=>if n=0 then Q (.str Str.empty) st else n=1/\Q (.str z) st
 | _,_=>False
def zdi:R3:=λx y st Q=>match x,y with | .int i,.int j=>0 < j/\Q (.int (i % j)) st | _,_=>False
def zdd:R3:=λx y st Q=>match x,y with | .int i,.int j=>(0 < j/\j < 1099511627776)/\Q (.int (i / j)) st | _,_=>False
def zdn:R3:=λx y st Q=>match x,y with | .int i,.int j=>k7 i j/\Q (.int (i ^ j.toNat)) st | _,_=>False
theorem zqa {X:Cx} :yA X (binaryOp .FloorDiv) (rI (λ_ j=>0 < j/\j < 1099511627776) λi j=> .int (i / j)):=i7 λi j _ _ _ _ _ hc q=>by
 have e:i.fdiv j=i / j:=Int.fdiv_eq_ediv_of_nonneg _ (by omega);rw[<- e]at q;refine PyProof.Rows.floordiv_int (by omega) q (.inl (PyProof.noPylong_of_log2 ?_));by_cases z:j.natAbs=0
 ·rw[z];decide
 ·have:=(Nat.log2_lt z).mpr (show j.natAbs < 2 ^ 40 by omega)
  omega
theorem xH {K:Frag}{A:List Addr}{H:Hp}{i:Int}{v:V}(e:RE K A H (.int i) v):v= .int i:=by
 cases e with | val e=>cases e;rfl
theorem sB {K:Frag}{A:List Addr}{H:Hp}{i:Str}{v:V}(e:RE K A H (.str i) v):v= .str i:=by
 cases e with | val e=>cases e;rfl
theorem zeW {K:Frag}{A:List Addr}{H:Hp}{i:Bool}{v:V}(e:RE K A H (.bl i) v):v= .bl i:=by
 cases e with | val e=>cases e;rfl
theorem rQ:yA X (binaryOp .Sub) (xN X.K zdq):=uF λpins s σ H A st x y v w vv ww Q3 Q I rs ex ey rv rw h k=>by
 unfold zdq at h
 split at h
 ·cases xH ex;cases xH ey
  exact zqm pins s σ H _ _ vv ww Q I rv rw ⟨_,_,rfl,rfl,k.now rs (.val (.int _)) h⟩
 ·exact h.elim
theorem sT:yA X (binaryOp .Mult) (xN X.K iS):=uF λpins s σ H A st x y v w vv ww Q3 Q I rs ex ey rv rw h k=>by
 unfold iS at h
 split at h
 ·cases xH ex;cases xH ey
  exact zqh pins s σ H _ _ vv ww Q I rv rw ⟨_,_,rfl,rfl,h.1,k.now rs (.val (.int _)) h.2⟩
 ·cases sB ex;cases xH ey
  rename_i z n;by_cases hn:n=0
  ·rw[if_pos hn]at h
   exact zju pins s σ H _ _ vv ww Q I rv rw ⟨_,_,rfl,rfl,.inl ⟨hn,k.now rs (.val (.str _)) h⟩⟩
  ·rw[if_neg hn]at h
   exact zju pins s σ H _ _ vv ww Q I rv rw ⟨_,_,rfl,rfl,.inr ⟨h.1,k.now rs (.val (.str _)) h.2⟩⟩
 ·exact h.elim
theorem sS:yA X (binaryOp .Mod) (xN X.K zdi):=uF λpins s σ H A st x y v w vv ww Q3 Q I rs ex ey rv rw h k=>by
 unfold zdi at h
 split at h
 ·cases xH ex;cases xH ey
  exact zqg pins s σ H _ _ vv ww Q I rv rw ⟨_,_,rfl,rfl,h.1,k.now rs (.val (.int _)) h.2⟩
 ·exact h.elim
theorem jX:yA X (binaryOp .FloorDiv) (xN X.K zdd):=uF λpins s σ H A st x y v w vv ww Q3 Q I rs ex ey rv rw h k=>by
 unfold zdd at h
 split at h
 ·cases xH ex;cases xH ey
  exact zqa pins s σ H _ _ vv ww Q I rv rw ⟨_,_,rfl,rfl,h.1,k.now rs (.val (.int _)) h.2⟩
 ·exact h.elim
theorem zpy:yA X (binaryOp .Pow) (xN X.K zdn):=uF λpins s σ H A st x y v w vv ww Q3 Q I rs ex ey rv rw h k=>by
 unfold zdn at h
 split at h
 ·cases xH ex;cases xH ey
  exact zql pins s σ H _ _ vv ww Q I rv rw ⟨_,_,rfl,rfl,h.1,k.now rs (.val (.int _)) h.2⟩
 ·exact h.elim
def zdj:PV->z7->K3->Prop:=λx st Q=>match x with | .int i=>Q (.int (-i)) st | _=>False
theorem zcJ:mF X (unaryOp .USub) (dC X.K zdj):=by
 rintro pins s σ H v vv Q I rv ⟨A,st,x,Q3,rs,ex,h,k⟩;unfold zdj at h
 split at h
 ·cases xH ex
  exact zt2 pins s σ H _ vv Q I rv ⟨_,rfl,k.now rs (.val (.int _)) h⟩
 ·exact h.elim
def pG (f:Int->Int->Bool):R3:=λx y st Q=>match x,y with | .int i,.int j=>Q (.bl (f i j)) st | _,_=>False
theorem zcI {op:CmpOp}{f:Int->Int->Bool}(ho:yA X (compareOp op) (qQ λi j=> .bl (f i j))):yA X (compareOp op) (xN X.K (pG f)):=uF λpins s σ H A st x y v w vv ww Q3 Q I rs ex ey rv rw h k=>by
 unfold pG at h
 split at h
 ·cases xH ex;cases xH ey
  exact ho pins s σ H _ _ vv ww Q I rv rw ⟨_,_,rfl,rfl,k.now rs (.val (.bl _)) h⟩
 ·exact h.elim
theorem oZ:yA X (compareOp .Lt) (xN X.K (pG λi j=>decide (i < j))):=zcI zqf
theorem tH:yA X (compareOp .Gt) (xN X.K (pG λi j=>decide (j < i))):=zcI zqc
theorem zjg:yA X (compareOp .GtE) (xN X.K (pG λi j=>decide (j<=i))):=zcI zqb
def vR:PV->Bool
 | .non=>true
 | _=>false
def zr7:R3:=λx y st Q=>match y with | .non=>Q (.bl (vR x)) st | _=>False
def zdk:R3:=λx y st Q=>match y with | .non=>Q (.bl (!vR x)) st | _=>False
theorem znW {K:Frag}{A:List Addr}{H:Hp}{x:PV}{v:V}(e:RE K A H x v):decide (v= .non)=vR x:=by
 cases e with
 | obj e=>rfl
 | val e=>cases e <;> rfl
theorem zji:yA X (compareOp .IsNot) (xN X.K zdk):=uF λpins s σ H A st x y v w vv ww Q3 Q I rs ex ey rv rw h k=>by
 unfold zdk at h
 split at h
 ·have hw:w= .non:=by cases ey with | val e=>cases e;rfl
  exact zqk pins s σ H _ _ vv ww Q I rv rw ⟨hw,by rw[znW ex];exact k.now rs (.val (.bl _)) h⟩
 ·exact h.elim
theorem zpX:yA X (binaryOp .Add) (λx y H Q=> ∃a b xs ys,x= .ref a/\y= .ref b/\xI X.K H a xs/\xI X.K H b ys/\xs.length+ys.length<=sizeLine/\
  (xs= []->Q (.ref b) H)/\(ys= []->Q (.ref a) H)/\∀p,H p=none->Q (.ref p) (upd H p (.tup (xs++ys)))):=by
 intro pins s σ H x y v u Q I rx ry h;obtain⟨a,b,xs,ys,rfl,rfl,ha,hb,hz,q1,q2,q3⟩:=h;by_cases hx:xs= []
 ·cases rx;cases ry
  subst hx;obtain⟨its,r1,p1,_⟩:=I.tuple ha;obtain⟨its2,r2,p2,_⟩:=I.tuple hb;have hv:its= []:=r1.nil_iff.mpr rfl;subst hv;obtain⟨⟨cls,dd,data,sl⟩,ho,hc,n,hd⟩:=id p1;obtain⟨⟨cls2,dd2,data2,sl2⟩,ho2,hc2,n2,hd2⟩:=id p2;simp only at hc hd hc2 hd2;subst hc hd hc2 hd2;exact vy ⟨_,ho,rfl⟩ ⟨_,ho2,rfl⟩ ql vi mt mm (lz _ _)
   (tuple_addW0 a b _ its2.toArray n n2 dd dd2 sl sl2 (by simp)) ⟨ho,ho2,⟨.ref b,H,I,rfl,q1 rfl⟩⟩
 ·exact zpZ pins s σ H _ _ v u Q I rx ry ⟨a,b,_,_,rfl,rfl,ha,hb,hx,hz,q2,λ_=>q3⟩
def nH:R3:=λx y st Q=>match x,y with
 | .int i,.int j=>Q (.int (i+j)) st
 | .str i,.str j=>i.length+j.length<=sizeLine/\Q (.str (i++j)) st
 | .tup xs,.tup ys=>xs.length+ys.length<=sizeLine/\Q (.tup (xs++ys)) st
 | .lst xs,.lst ys=>xs.length+ys.length<=sizeLine/\Q (.lst (xs++ys)) st
 | _,_=>False
theorem RVs.nil_iff {K:Frag}{A:List Addr}{H:Hp}{xs:List PV}{vs:List V}(h:RVs K A H xs vs):vs= []->xs= []:=by
 cases h with
 | nil=>exact λ_=>rfl
 | cons r t=>exact λz=>nomatch z
theorem xQ.tup {K:Frag}{A:List Addr}{H:Hp}{Q3:K3}{Q:VK}{st:z7}{xs:List PV}{vs:List V}(k:xQ K A H Q3 Q)(rs:RS K A H st)(r:RVs K A H xs vs)(hz:vs.length<=sizeLine)(q:Q3 (.tup xs) st): ∀p,H p=none->Q (.ref p) (upd H p (.tup vs)):=
 λp hp=>k A _ st _ _ (.new hp) (rs.new hp) (.val (.tup (.inl ⟨.inl yO,rs.fresh hp⟩) hz (r.grow (.new hp)))) q
theorem xQ.lst {K:Frag}{A:List Addr}{H:Hp}{Q3:K3}{Q:VK}{st:z7}{xs:List PV}{vs:List V}(k:xQ K A H Q3 Q)(rs:RS K A H st)(r:RVs K A H xs vs)(hz:vs.length<=sizeLine)(q:Q3 (.lst xs) st): ∀p,H p=none->Q (.ref p) (upd H p (.lst vs)):=
 λp hp=>k A _ st _ _ (.new hp) (rs.new hp) (.val (.lst (.inl ⟨.inl yO,rs.fresh hp⟩) hz (r.grow (.new hp)))) q
theorem xQ.dctO {K:Frag}{A:List Addr}{H:Hp}{Q3:K3}{Q:VK}{st:z7}{xs:List (z6×PV)}{vs:List (z6×V)}(k:xQ K A H Q3 Q)(rs:RS K A H st)(r:RKs K A H xs vs)(hz:vs.length<=sizeLine)(q:Q3 (.obj st.length) (st++ [.dct xs])): ∀p,H p=none->Q (.ref p) (upd H p (.dK vs)):=
 λp hp=>k (A++ [p]) _ _ _ _ (.newObj hp) (rs.newObj (q:= .dct xs) hp ⟨vs,yO,r.grow (.newObj hp),hz⟩) (.obj (jY rs.len)) q
theorem xQ.dct {K:Frag}{A:List Addr}{H:Hp}{Q3:K3}{Q:VK}{st:z7}{xs:List (z6×PV)}{vs:List (z6×V)}(k:xQ K A H Q3 Q)(rs:RS K A H st)(r:RKs K A H xs vs)(hz:vs.length<=sizeLine)(q:Q3 (.dct xs) st): ∀p,H p=none->Q (.ref p) (upd H p (.dK vs)):=
 λp hp=>k A _ st _ _ (.new hp) (rs.new hp) (.val (.dct ⟨yO,rs.fresh hp⟩ hz (r.grow (.new hp)))) q
theorem zpY:yA X (binaryOp .Add) (λx y H Q=> ∃a b xs ys,x= .ref a/\y= .ref b/\yT X.K H a xs/\yT X.K H b ys/\xs.length+ys.length<=sizeLine/\∀p,H p=none->Q (.ref p) (upd H p (.lst (xs++ys)))):=by
 intro pins s σ H x y v u Q I rx ry h;obtain⟨a,b,xs,ys,rfl,rfl,ha,hb,hz,q⟩:=h;cases rx;cases ry;obtain⟨its,n,r1,e,_⟩:=I.listX ha;obtain⟨its2,n2,r2,e2,_⟩:=I.listX hb;have l1:=r1.length;have l2:=r2.length;refine PySem.P.add_list e e2 ?_ (by rw[be,be];omega);have ea:its.toArray++its2.toArray=(its++its2).toArray:=by simp
 rw[ea];exact⟨.ref _,_,I.lnew (t':=s.toks) (r1.append r2) (by rw[ai];omega),rfl,q _ I.fresh⟩
theorem yY:yA X (binaryOp .Add) (xN X.K nH):=uF λpins s σ H A st x y v w vv ww Q3 Q I rs ex ey rv rw h k=>by
 unfold nH at h
 split at h
 ·cases xH ex;cases xH ey
  exact zpV pins s σ H _ _ vv ww Q I rv rw ⟨_,_,rfl,rfl,k.now rs (.val (.int _)) h⟩
 ·cases sB ex;cases sB ey
  exact zpW pins s σ H _ _ vv ww Q I rv rw ⟨_,_,rfl,rfl,h.1,k.now rs (.val (.str _)) h.2⟩
 ·cases ex with | val ex=>cases ey with | val ey=>cases ex with | tup t z r=>cases ey with | tup t2 z2 r2=>
   have hl:_:=h.1;rw[r.len,r2.len]at hl;refine zpX pins s σ H _ _ vv ww Q I rv rw ⟨_,_,_,_,rfl,rfl,t.sq,t2.sq,hl,λe=> ?_,λe=> ?_,k.tup rs (r.append r2) (by rw[ai];exact hl) h.2⟩
   ·have e2:=r.nil_iff e
    subst e2;exact k.now rs (.val (.tup t2 z2 r2)) h.2
   ·have e2:=r2.nil_iff e
    subst e2;refine k.now rs (.val (.tup t z r)) ?_;have:=h.2;rw[cn]at this;exact this
 ·cases ex with | val ex=>cases ey with | val ey=>cases ex with | lst t z r=>cases ey with | lst t2 z2 r2=>
   have hl:_:=h.1;rw[r.len,r2.len]at hl;exact zpY pins s σ H _ _ vv ww Q I rv rw ⟨_,_,_,_,rfl,rfl,t.sq,t2.sq,hl,k.lst rs (r.append r2) (by rw[ai];exact hl) h.2⟩
 ·exact h.elim
end
end L3
namespace L3
open PySem PySem.Spec PyProof.Rows L2
mutual
def y6:PV->PV->Bool
 | .non,.non=>true
 | .bl a,.bl b=>a==b
 | .bl a,.int b=>(if a then 1 else 0)==b
 | .int a,.bl b=>a==(if b then 1 else 0)
 | .int a,.int b=>a==b
 | .str a,.str b=>a==b
 | .tup xs,.tup ys=>eqPs xs ys
 | .lst xs,.lst ys=>eqPs xs ys
 | _,_=>false
def eqPs:List PV->List PV->Bool
 | [],[]=>true
 | x::xs,y::ys=>y6 x y&&eqPs xs ys
 | _,_=>false
end
mutual
def zE:PV->Nat
 | .tup xs=>dpts xs+1
 | .lst xs=>dpts xs+1
 | .dct _=>1000
 | .itb _=>1000
 | .clo _=>1000
 | .ty _=>1000
 | .obj _=>1000
 | _=>0
def dpts:List PV->Nat
 | []=>0
 | x::xs=>max (zE x) (dpts xs)
end
theorem dJ: ∀{xs:List PV} {i:Nat} {x:PV},xs[i]?=some x->zE x<=dpts xs
 | y::ys,0,x,h=>by simp at h;subst h;unfold dpts;exact Nat.le_max_left _ _
 | y::ys,i+1,x,h=>by
  have:=dJ (xs:=ys) (i:=i) (x:=x) (by simpa using h);unfold dpts;exact bf this (Nat.le_max_right _ _)
mutual
theorem dM: ∀(x:PV),zE x < 1000->y6 x x=true
 | .non,_=>by unfold y6;rfl
 | .bl b,_=>by unfold y6;simp
 | .int i,_=>by unfold y6;simp
 | .str s,_=>by unfold y6;simp
 | .tup xs,h=>by unfold y6;exact eqPs_refl xs (by unfold zE at h;omega)
 | .lst xs,h=>by unfold y6;exact eqPs_refl xs (by unfold zE at h;omega)
 | .dct _,h=>by unfold zE at h;omega
 | .itb _,h=>by unfold zE at h;omega
 | .clo _,h=>by unfold zE at h;omega
 | .ty _,h=>by unfold zE at h;omega
 | .obj _,h=>by unfold zE at h;omega
theorem eqPs_refl: ∀(xs:List PV),dpts xs < 1000->eqPs xs xs=true
 | [],_=>by unfold eqPs;rfl
 | x::xs,h=>by
  unfold dpts at h;unfold eqPs;rw[dM x (by omega),eqPs_refl xs (by omega)];rfl
end
theorem j9: ∀(xs ys:List PV),eqPs xs ys=((List.range (min xs.length ys.length)).all (λj=>match xs[j]?,ys[j]? with | some x,some y=>y6 x y | _,_=>true)&&xs.length==ys.length)
 | [],[]=>by unfold eqPs;rfl
 | [],y::ys=>by unfold eqPs;simp
 | x::xs,[]=>by unfold eqPs;simp
 | x::xs,y::ys=>by
  unfold eqPs;rw[j9 xs ys];rw[bq,bq,Nat.succ_min_succ,mx,ki,wj];simp only[jd,Bool.and_assoc]
  congr 1
  have e:((λj=>match(x::xs)[j]?,(y::ys)[j]? with | some x,some y=>y6 x y | _,_=>true) ∘ Nat.succ)=λj=>match xs[j]?,ys[j]? with | some x,some y=>y6 x y | _,_=>true:=by
   funext j;simp
  rw[e]
  congr 1
  rw[xl];simp
section
variable {X:Cx} {pins:List (Addr×Obj)} {σ:St} {H:Hp} {s:Shared} {A:List Addr}
theorem z5.lst_tup (I:z5 X pins σ H s){a:Addr}{xs ys:List V}(h1:yT X.K H a xs)(h2:xI X.K H a ys):False:=by
 obtain⟨its,_,p,_⟩:=I.list h1;obtain⟨its2,_,p2,_⟩:=I.tuple h2;exact SeqAt.ne_of_list_tuple p.isList p2 rfl
mutual
theorem RV.inj (I:z5 X pins σ H s){x y:PV}{v:V}(a:RV X.K A H x v)(b:RV X.K A H y v)(h1:zE x < 1000)(h2:zE y < 1000):x=y:=by
 cases a with
 | non=>cases b;rfl
 | bl _=>cases b;rfl
 | int _=>cases b;rfl
 | str _=>cases b;rfl
 | ty _=>cases b;rfl
 | tup t z r=>
  cases b with
  | tup t2 z2 r2=>
   have e:=I.tuple_inj t.sq t2.sq;subst e;rw[RVs.inj2 I r r2 (by unfold zE at h1;omega) (by unfold zE at h2;omega)]
  | lst t2 z2 r2=>exact(z5.lst_tup I t2.sq t.sq).elim
  | dct _ _ _=>unfold zE at h2;omega
  | itb _ _=>unfold zE at h2;omega
  | clo _=>unfold zE at h2;omega
 | lst t z r=>
  cases b with
  | lst t2 z2 r2=>
   have e:=I.list_inj t.sq t2.sq;subst e;rw[RVs.inj2 I r r2 (by unfold zE at h1;omega) (by unfold zE at h2;omega)]
  | tup t2 z2 r2=>exact(z5.lst_tup I t.sq t2.sq).elim
  | dct _ _ _=>unfold zE at h2;omega
  | itb _ _=>unfold zE at h2;omega
  | clo _=>unfold zE at h2;omega
 | dct _ _ _=>unfold zE at h1;omega
 | itb _ _=>unfold zE at h1;omega
 | clo _=>unfold zE at h1;omega
theorem RVs.inj2 (I:z5 X pins σ H s){xs ys:List PV}{vs:List V}(a:RVs X.K A H xs vs)(b:RVs X.K A H ys vs)(h1:dpts xs < 1000)(h2:dpts ys < 1000):xs=ys:=by
 cases a with
 | nil=>cases b;rfl
 | cons r t=>
  cases b with
  | cons r2 t2=>
   unfold dpts at h1 h2;rw[RV.inj I r r2 (by omega) (by omega),RVs.inj2 I t t2 (by omega) (by omega)]
end
theorem oO {n:Nat}{B:Around}{xs ys:List PV}{vs ws:List V}{its its2:List Value}(rx:RVs X.K A H xs vs)(ry:RVs X.K A H ys ws)(r1:zJ vs its)(r2:zJ ws its2)
  (ih: ∀x y v w vv ww,zE x<=n->zE y < 1000->RV X.K A H x v->RV X.K A H y w->zN v vv->zN w ww->SeqAt.EqAt B s vv ww (y6 x y)) (hx:dpts xs<=n) (hy:dpts ys < 1000):
  ∀j (h1:j < its.toArray.size) (h2:j < its2.toArray.size),SeqAt.EqAt B s its.toArray[j] its2.toArray[j] ((λj=>match xs[j]?,ys[j]? with | some x,some y=>y6 x y | _,_=>true) j):=λj h1 h2=>by
 obtain⟨v,ev,rv⟩:=zlp r1 h1;obtain⟨w,ew,rw'⟩:=zlp r2 h2;obtain⟨x,ex,rx'⟩:=rx.get' ev;obtain⟨y,ey,ry'⟩:=ry.get' ew;show SeqAt.EqAt B s _ _ (match xs[j]?,ys[j]? with | some x,some y=>y6 x y | _,_=>true);rw[ex,ey];exact ih x y v w _ _ (bf (dJ ex) hx) (ky (dJ ey) hy) rx' ry' rv rw'
def gD:PV->PV->Bool
 | .tup _,.tup _=>true
 | .lst _,.lst _=>true
 | _,_=>false
inductive Kd (s:Shared):PV->Value->Prop
 | non:Kd s .non .none
 | bl (b:Bool):Kd s (.bl b) (.bool b)
 | int (i:Int) (t:Tok):Kd s (.int i) (.int i t)
 | str (z:Str) (t:Tok):Kd s (.str z) (.str z t)
 | tup {xs:List PV} {a:Addr} {its:Array Value} :IsTup s.heap a its->Kd s (.tup xs) (.ref a)
 | lst {xs:List PV} {a:Addr} {its:Array Value} :s.heap.IsList a its->Kd s (.lst xs) (.ref a)
theorem qI (I:z5 X pins σ H s){x:PV}{v:V}{vv:Value}(rx:RV X.K A H x v)(rv:zN v vv)(h:zE x < 1000):Kd s x vv:=by
 cases rx with
 | non=>cases rv;exact .non
 | bl b=>cases rv;exact .bl b
 | int i=>obtain⟨t,rfl⟩:=rv;exact .int i t
 | str z=>obtain⟨t,rfl⟩:=rv;exact .str z t
 | ty n=>unfold zE at h;omega
 | tup t z r=>cases rv;obtain⟨its,_,p,_⟩:=I.tuple t.sq;exact .tup p
 | lst t z r=>cases rv;obtain⟨its,_,p,_⟩:=I.list t.sq;exact .lst p.isList
 | dct t z r=>unfold zE at h;omega
 | itb _ _=>unfold zE at h;omega
 | clo _=>unfold zE at h;omega
local macro_rules | `(tactic| exact?)=> `(tactic| simp only[y6,Bool.not_false,Bool.not_true])
open SeqAt in
theorem zf8 {B:Around}(hu:B.units < cLine): ∀{x y:PV} {vv ww:Value},Kd s x vv->Kd s y ww->gD x y=false->EqAt B s vv ww (y6 x y)
 | _,_,_,_,.non,.non,_=>by exact?;exact EqAt.same _
 | _,_,_,_,.non,.bl b,_=>by exact?;exact EqAt.none_bool _
 | _,_,_,_,.non,.int b b2,_=>by exact?;exact EqAt.none_int _ _
 | _,_,_,_,.non,.str b b2,_=>by exact?;exact EqAt.none_str _ _
 | _,_,_,_,.non,.tup b,_=>by exact?;exact EqAt.none_tuple b hu
 | _,_,_,_,.non,.lst b,_=>by exact?;exact EqAt.none_list b hu
 | _,_,_,_,.bl a,.non,_=>by exact?;exact EqAt.bool_none _
 | _,_,_,_,.bl a,.bl b,_=>by exact?;exact EqAt.bool_bool _ _
 | _,_,_,_,.bl a,.int b b2,_=>by exact?;exact EqAt.bool_int _ _ _
 | _,_,_,_,.bl a,.str b b2,_=>by exact?;exact EqAt.bool_str _ _ _
 | _,_,_,_,.bl a,.tup b,_=>by exact?;exact EqAt.bool_tuple _ b hu
 | _,_,_,_,.bl a,.lst b,_=>by exact?;exact EqAt.bool_list _ b hu
 | _,_,_,_,.int a a2,.non,_=>by exact?;exact EqAt.int_none _ _
 | _,_,_,_,.int a a2,.bl b,_=>by exact?;exact EqAt.int_bool _ _ _
 | _,_,_,_,.int a a2,.int b b2,_=>by exact?;exact EqAt.int_int _ _ _ _
 | _,_,_,_,.int a a2,.str b b2,_=>by exact?;exact EqAt.int_str _ _ _ _
 | _,_,_,_,.int a a2,.tup b,_=>by exact?;exact EqAt.int_tuple _ _ b hu
 | _,_,_,_,.int a a2,.lst b,_=>by exact?;exact EqAt.int_list _ _ b hu
 | _,_,_,_,.str a a2,.non,_=>by exact?;exact EqAt.str_none _ _
 | _,_,_,_,.str a a2,.bl b,_=>by exact?;exact EqAt.str_bool _ _ _
 | _,_,_,_,.str a a2,.int b b2,_=>by exact?;exact EqAt.str_int _ _ _ _
 | _,_,_,_,.str a a2,.str b b2,_=>by exact?;exact EqAt.str_str _ _ _ _
 | _,_,_,_,.str a a2,.tup b,_=>by exact?;exact EqAt.str_tuple _ _ b hu
 | _,_,_,_,.str a a2,.lst b,_=>by exact?;exact EqAt.str_list _ _ b hu
 | _,_,_,_,.tup a,.non,_=>by exact?;exact EqAt.tuple_none a hu
 | _,_,_,_,.tup a,.bl b,_=>by exact?;exact EqAt.tuple_bool _ a hu
 | _,_,_,_,.tup a,.int b b2,_=>by exact?;exact EqAt.tuple_int _ _ a hu
 | _,_,_,_,.tup a,.str b b2,_=>by exact?;exact EqAt.tuple_str _ _ a hu
 | _,_,_,_,.tup _,.tup _,h=>Bool.noConfusion h
 | _,_,_,_,.tup a,.lst b,_=>by exact?;exact EqAt.tuple_list a b hu
 | _,_,_,_,.lst a,.non,_=>by exact?;exact EqAt.list_none a hu
 | _,_,_,_,.lst a,.bl b,_=>by exact?;exact EqAt.list_bool _ a hu
 | _,_,_,_,.lst a,.int b b2,_=>by exact?;exact EqAt.list_int _ _ a hu
 | _,_,_,_,.lst a,.str b b2,_=>by exact?;exact EqAt.list_str _ _ a hu
 | _,_,_,_,.lst a,.tup b,_=>by exact?;exact EqAt.list_tuple a b hu
 | _,_,_,_,.lst _,.lst _,h=>Bool.noConfusion h
open SeqAt in
theorem zrP {B:Around}(hu:B.units < cLine): ∀{x y:PV} {vv ww:Value},Kd s x vv->Kd s y ww->gD x y=false->RcAt B s vv ww (y6 x y)
 | _,_,_,_,.non,.non,_=>by exact?;exact RcAt.none_none
 | _,_,_,_,.non,.bl b,_=>by exact?;exact RcAt.none_bool _
 | _,_,_,_,.non,.int b b2,_=>by exact?;exact RcAt.none_int _ _
 | _,_,_,_,.non,.str b b2,_=>by exact?;exact RcAt.none_str _ _
 | _,_,_,_,.non,.tup b,_=>by exact?;exact RcAt.none_tuple b hu
 | _,_,_,_,.non,.lst b,_=>by exact?;exact RcAt.none_list b hu
 | _,_,_,_,.bl a,.non,_=>by exact?;exact RcAt.bool_none _
 | _,_,_,_,.bl a,.bl b,_=>by exact?;exact RcAt.bool_bool _ _
 | _,_,_,_,.bl a,.int b b2,_=>by exact?;exact RcAt.bool_int _ _ _
 | _,_,_,_,.bl a,.str b b2,_=>by exact?;exact RcAt.bool_str _ _ _
 | _,_,_,_,.bl a,.tup b,_=>by exact?;exact RcAt.bool_tuple _ b hu
 | _,_,_,_,.bl a,.lst b,_=>by exact?;exact RcAt.bool_list _ b hu
 | _,_,_,_,.int a a2,.non,_=>by exact?;exact RcAt.int_none _ _
 | _,_,_,_,.int a a2,.bl b,_=>by exact?;exact RcAt.int_bool _ _ _
 | _,_,_,_,.int a a2,.int b b2,_=>by exact?;exact RcAt.int_int _ _ _ _
 | _,_,_,_,.int a a2,.str b b2,_=>by exact?;exact RcAt.int_str _ _ _ _
 | _,_,_,_,.int a a2,.tup b,_=>by exact?;exact RcAt.int_tuple _ _ b hu
 | _,_,_,_,.int a a2,.lst b,_=>by exact?;exact RcAt.int_list _ _ b hu
 | _,_,_,_,.str a a2,.non,_=>by exact?;exact RcAt.str_none _ _
 | _,_,_,_,.str a a2,.bl b,_=>by exact?;exact RcAt.str_bool _ _ _
 | _,_,_,_,.str a a2,.int b b2,_=>by exact?;exact RcAt.str_int _ _ _ _
 | _,_,_,_,.str a a2,.str b b2,_=>by exact?;exact RcAt.str_str _ _ _ _
 | _,_,_,_,.str a a2,.tup b,_=>by exact?;exact RcAt.str_tuple _ _ b hu
 | _,_,_,_,.str a a2,.lst b,_=>by exact?;exact RcAt.str_list _ _ b hu
 | _,_,_,_,.tup a,.non,_=>by exact?;exact RcAt.tuple_none a hu
 | _,_,_,_,.tup a,.bl b,_=>by exact?;exact RcAt.tuple_bool _ a hu
 | _,_,_,_,.tup a,.int b b2,_=>by exact?;exact RcAt.tuple_int _ _ a hu
 | _,_,_,_,.tup a,.str b b2,_=>by exact?;exact RcAt.tuple_str _ _ a hu
 | _,_,_,_,.tup _,.tup _,h=>Bool.noConfusion h
 | _,_,_,_,.tup a,.lst b,_=>by exact?;exact RcAt.tuple_list a b hu
 | _,_,_,_,.lst a,.non,_=>by exact?;exact RcAt.list_none a hu
 | _,_,_,_,.lst a,.bl b,_=>by exact?;exact RcAt.list_bool _ a hu
 | _,_,_,_,.lst a,.int b b2,_=>by exact?;exact RcAt.list_int _ _ a hu
 | _,_,_,_,.lst a,.str b b2,_=>by exact?;exact RcAt.list_str _ _ a hu
 | _,_,_,_,.lst a,.tup b,_=>by exact?;exact RcAt.list_tuple a b hu
 | _,_,_,_,.lst _,.lst _,h=>Bool.noConfusion h
open SeqAt in
theorem zrQ {B:Around}(hu:B.units < cLine): ∀{x y:PV} {vv ww:Value},Kd s x vv->Kd s y ww->gD x y=false->RcNeAt B s vv ww (!y6 x y)
 | _,_,_,_,.non,.non,_=>by exact?;exact RcNeAt.none_none
 | _,_,_,_,.non,.bl b,_=>by exact?;exact RcNeAt.none_bool _
 | _,_,_,_,.non,.int b b2,_=>by exact?;exact RcNeAt.none_int _ _
 | _,_,_,_,.non,.str b b2,_=>by exact?;exact RcNeAt.none_str _ _
 | _,_,_,_,.non,.tup b,_=>by exact?;exact RcNeAt.none_tuple b hu
 | _,_,_,_,.non,.lst b,_=>by exact?;exact RcNeAt.none_list b hu
 | _,_,_,_,.bl a,.non,_=>by exact?;exact RcNeAt.bool_none _
 | _,_,_,_,.bl a,.bl b,_=>by exact?;exact RcNeAt.bool_bool _ _
 | _,_,_,_,.bl a,.int b b2,_=>by exact?;exact RcNeAt.bool_int _ _ _
 | _,_,_,_,.bl a,.str b b2,_=>by exact?;exact RcNeAt.bool_str _ _ _
 | _,_,_,_,.bl a,.tup b,_=>by exact?;exact RcNeAt.bool_tuple _ b hu
 | _,_,_,_,.bl a,.lst b,_=>by exact?;exact RcNeAt.bool_list _ b hu
 | _,_,_,_,.int a a2,.non,_=>by exact?;exact RcNeAt.int_none _ _
 | _,_,_,_,.int a a2,.bl b,_=>by exact?;exact RcNeAt.int_bool _ _ _
 | _,_,_,_,.int a a2,.int b b2,_=>by exact?;exact RcNeAt.int_int _ _ _ _
 | _,_,_,_,.int a a2,.str b b2,_=>by exact?;exact RcNeAt.int_str _ _ _ _
 | _,_,_,_,.int a a2,.tup b,_=>by exact?;exact RcNeAt.int_tuple _ _ b hu
 | _,_,_,_,.int a a2,.lst b,_=>by exact?;exact RcNeAt.int_list _ _ b hu
 | _,_,_,_,.str a a2,.non,_=>by exact?;exact RcNeAt.str_none _ _
 | _,_,_,_,.str a a2,.bl b,_=>by exact?;exact RcNeAt.str_bool _ _ _
 | _,_,_,_,.str a a2,.int b b2,_=>by exact?;exact RcNeAt.str_int _ _ _ _
 | _,_,_,_,.str a a2,.str b b2,_=>by exact?;exact RcNeAt.str_str _ _ _ _
 | _,_,_,_,.str a a2,.tup b,_=>by exact?;exact RcNeAt.str_tuple _ _ b hu
 | _,_,_,_,.str a a2,.lst b,_=>by exact?;exact RcNeAt.str_list _ _ b hu
 | _,_,_,_,.tup a,.non,_=>by exact?;exact RcNeAt.tuple_none a hu
 | _,_,_,_,.tup a,.bl b,_=>by exact?;exact RcNeAt.tuple_bool _ a hu
 | _,_,_,_,.tup a,.int b b2,_=>by exact?;exact RcNeAt.tuple_int _ _ a hu
 | _,_,_,_,.tup a,.str b b2,_=>by exact?;exact RcNeAt.tuple_str _ _ a hu
 | _,_,_,_,.tup _,.tup _,h=>Bool.noConfusion h
 | _,_,_,_,.tup a,.lst b,_=>by exact?;exact RcNeAt.tuple_list a b hu
 | _,_,_,_,.lst a,.non,_=>by exact?;exact RcNeAt.list_none a hu
 | _,_,_,_,.lst a,.bl b,_=>by exact?;exact RcNeAt.list_bool _ a hu
 | _,_,_,_,.lst a,.int b b2,_=>by exact?;exact RcNeAt.list_int _ _ a hu
 | _,_,_,_,.lst a,.str b b2,_=>by exact?;exact RcNeAt.list_str _ _ a hu
 | _,_,_,_,.lst a,.tup b,_=>by exact?;exact RcNeAt.list_tuple a b hu
 | _,_,_,_,.lst _,.lst _,h=>Bool.noConfusion h
theorem zd4 (x y:PV):gD x y=false∨(∃xs ys,x= .tup xs/\y= .tup ys)∨∃xs ys,x= .lst xs/\y= .lst ys:=by
 cases x <;> cases y <;> first | exact .inl rfl | exact .inr (.inl ⟨_,_,rfl,rfl⟩) | exact .inr (.inr ⟨_,_,rfl,rfl⟩)
theorem zdr {xs ys:List PV}{n m:Nat}(h1:xs.length=n)(h2:ys.length=m):((List.range (min n m)).all (λj=>match xs[j]?,ys[j]? with | some x,some y=>y6 x y | _,_=>true)&&n==m)=eqPs xs ys:=by
 subst h1 h2;exact(j9 xs ys).symm
theorem zds {xs ys:List PV}{n m:Nat}(h1:xs.length=n)(h2:ys.length=m)(h:n=m):(List.range n).all (λj=>match xs[j]?,ys[j]? with | some x,some y=>y6 x y | _,_=>true)=eqPs xs ys:=by
 rw[j9,h1,h2,<- h,Nat.min_self];simp
theorem dN {xs ys:List PV}(h:xs.length≠ys.length):eqPs xs ys=false:=by
 rw[j9];simp[h]
theorem jA (I:z5 X pins σ H s): ∀(n:Nat) (B:Around) (x y:PV) (v w:V) (vv ww:Value),B.units+n < cLine->zE x<=n->n < 1000->zE y < 1000->RV X.K A H x v->RV X.K A H y w->zN v vv->zN w ww->SeqAt.EqAt B s vv ww (y6 x y):=by
 intro n
 induction n with
 | zero=>
  intro B x y v w vv ww hu hx hn hy rx ry rv rw;refine zf8 (by omega) (qI I rx rv (by omega)) (qI I ry rw hy) ?_;cases x <;> first | (unfold zE at hx;omega) | rfl
 | succ n ih=>
  intro B x y v w vv ww hu hx hn hy rx ry rv rw;rcases zd4 x y with h | ⟨xs,ys,rfl,rfl⟩ | ⟨xs,ys,rfl,rfl⟩
  ·exact zf8 (by omega) (qI I rx rv (by omega)) (qI I ry rw hy) h
  ·cases rx with | tup t z r=>cases ry with | tup t2 z2 r2=>
    rename_i a vs b ws;cases rv;cases rw;by_cases hab:a=b
    ·subst hab
     have e:=RV.inj I (.tup t z r) (.tup t2 z2 r2) (by omega) hy;rw[e,dM _ hy];exact sk _
    ·obtain⟨its,r3,p,_⟩:=I.tuple t.sq
     obtain⟨its2,r4,p2,_⟩:=I.tuple t2.sq;have hh:=SeqAt.RcAt.tuples (A:=B) (show s.heap.IsTuple a its.toArray from p) (show s.heap.IsTuple b its2.toArray from p2) (by omega) (oO r r2 r3 r4 (λx y v w vv ww h1 h2=>ih B.in1 x y v w vv ww (by show B.units+1+n < cLine;omega) h1 (by omega) h2) (by unfold zE at hx;omega) (by unfold zE at hy;omega));rw[zdr (by rw[r.len,r3.length];simp) (by rw[r2.len,r4.length];simp)]at hh;unfold y6;exact wk hab hh
  ·cases rx with | lst t z r=>cases ry with | lst t2 z2 r2=>
    rename_i a vs b ws;cases rv;cases rw;by_cases hab:a=b
    ·subst hab
     have e:=RV.inj I (.lst t z r) (.lst t2 z2 r2) (by omega) hy;rw[e,dM _ hy];exact sk _
    ·obtain⟨its,r3,p,_⟩:=I.list t.sq
     obtain⟨its2,r4,p2,_⟩:=I.list t2.sq;have l1:xs.length=its.toArray.size:=by rw[r.len,r3.length];simp
     have l2:ys.length=its2.toArray.size:=by rw[r2.len,r4.length];simp
     unfold y6;refine wk hab ?_;by_cases hl:its.toArray.size=its2.toArray.size
     ·have hh:=SeqAt.RcAt.lists (A:=B) p.isList p2.isList hl (by omega) (oO r r2 r3 r4 (λx y v w vv ww h1 h2=>ih B.in1 x y v w vv ww (by show B.units+1+n < cLine;omega) h1 (by omega) h2) (by unfold zE at hx;omega) (by unfold zE at hy;omega))
      rw[zds l1 l2 hl]at hh;exact hh
     ·rw[dN (by omega)]
      exact qu p.isList p2.isList (by simpa using hl) (by omega)
def zde:R3:=λx y st Q=>(zE x<=50/\zE y < 1000)/\Q (.bl (y6 x y)) st
def zjR:R3:=λx y st Q=>(zE x<=50/\zE y < 1000)/\Q (.bl (!y6 x y)) st
theorem jW {x:PV}(h:zE x < 1000):yR x=true:=by
 cases x <;> first | rfl | (unfold zE at h;omega)
theorem yV {k:Nat}(hr:zL k X.A):yA X (compareOp .Eq) (xN X.K zde):=uF λpins s σ H A st x y v w vv ww Q3 Q I rs ex ey rv rw h k=>by
 obtain⟨⟨h1,h2⟩,h⟩:=h;have hu:=hr.units;have rx:=ex.rv (jW (by omega));have ry:=ey.rv (jW h2);have fin: ∀b,b=y6 x y->EP X pins σ Q (.bool b) s:=λb e=>⟨.bl b,H,I,rfl,by rw[e];exact k.now rs (.val (.bl _)) h⟩;rcases zd4 x y with hn | ⟨xs,ys,rfl,rfl⟩ | ⟨xs,ys,rfl,rfl⟩
 ·exact zrP (by omega) (qI I rx rv (by omega)) (qI I ry rw h2) hn _ _ _ _ (fin _ rfl)
 ·cases rx with | tup t z r=>cases ry with | tup t2 z2 r2=>
   cases rv;cases rw;obtain⟨its,r3,p,_⟩:=I.tuple t.sq;obtain⟨its2,r4,p2,_⟩:=I.tuple t2.sq;refine SeqAt.RcAt.tuples (show s.heap.IsTuple _ its.toArray from p) (show s.heap.IsTuple _ its2.toArray from p2) (by omega) (oO (n:=50) r r2 r3 r4 (λx y v w vv ww h1 h2=>jA I 50 X.A.in1 x y v w vv ww (by show X.A.units+1+50 < cLine;omega) h1 (by omega) h2) (by unfold zE at h1;omega) (by unfold zE at h2;omega)) _ _ _ _ (fin _ ?_);rw[zdr (by rw[r.len,r3.length];simp) (by rw[r2.len,r4.length];simp)];unfold y6;rfl
 ·cases rx with | lst t z r=>cases ry with | lst t2 z2 r2=>
   cases rv;cases rw;obtain⟨its,r3,p,_⟩:=I.list t.sq;obtain⟨its2,r4,p2,_⟩:=I.list t2.sq;have l1:xs.length=its.toArray.size:=by rw[r.len,r3.length];simp
   have l2:ys.length=its2.toArray.size:=by rw[r2.len,r4.length];simp
   by_cases hl:its.toArray.size=its2.toArray.size
   ·refine SeqAt.RcAt.lists p.isList p2.isList hl (by omega) (oO (n:=50) r r2 r3 r4 (λx y v w vv ww h1 h2=>jA I 50 X.A.in1 x y v w vv ww (by show X.A.units+1+50 < cLine;omega) h1 (by omega) h2) (by unfold zE at h1;omega) (by unfold zE at h2;omega)) _ _ _ _ (fin _ ?_)
    rw[zds l1 l2 hl];unfold y6;rfl
   ·refine qu p.isList p2.isList (by simpa using hl) (by omega) _ _ _ _ (fin _ ?_)
    unfold y6;rw[dN (by omega)]
theorem zjh {k:Nat}(hr:zL k X.A):yA X (compareOp .NotEq) (xN X.K zjR):=uF λpins s σ H A st x y v w vv ww Q3 Q I rs ex ey rv rw h k=>by
 obtain⟨⟨h1,h2⟩,h⟩:=h;have hu:=hr.units;have rx:=ex.rv (jW (by omega));have ry:=ey.rv (jW h2);have fin: ∀b,b= !y6 x y->EP X pins σ Q (.bool b) s:=λb e=>⟨.bl b,H,I,rfl,by rw[e];exact k.now rs (.val (.bl _)) h⟩;rcases zd4 x y with hn | ⟨xs,ys,rfl,rfl⟩ | ⟨xs,ys,rfl,rfl⟩
 ·exact zrQ (by omega) (qI I rx rv (by omega)) (qI I ry rw h2) hn _ _ _ _ (fin _ rfl)
 ·cases rx with | tup t z r=>cases ry with | tup t2 z2 r2=>
   cases rv;cases rw;obtain⟨its,r3,p,_⟩:=I.tuple t.sq;obtain⟨its2,r4,p2,_⟩:=I.tuple t2.sq;refine(SeqAt.RcNeAt.tuples (show s.heap.IsTuple _ its.toArray from p) (show s.heap.IsTuple _ its2.toArray from p2) (by omega) (oO (n:=50) r r2 r3 r4 (λx y v w vv ww h1 h2=>jA I 50 X.A.in1 x y v w vv ww (by show X.A.units+1+50 < cLine;omega) h1 (by omega) h2) (by unfold zE at h1;omega) (by unfold zE at h2;omega))) _ _ _ _ (fin _ ?_);rw[zdr (by rw[r.len,r3.length];simp) (by rw[r2.len,r4.length];simp)];unfold y6;rfl
 ·cases rx with | lst t z r=>cases ry with | lst t2 z2 r2=>
   cases rv;cases rw;obtain⟨its,r3,p,_⟩:=I.list t.sq;obtain⟨its2,r4,p2,_⟩:=I.list t2.sq;have l1:xs.length=its.toArray.size:=by rw[r.len,r3.length];simp
   have l2:ys.length=its2.toArray.size:=by rw[r2.len,r4.length];simp
   by_cases hl:its.toArray.size=its2.toArray.size
   ·refine(SeqAt.RcNeAt.lists p.isList p2.isList hl (by omega) (oO (n:=50) r r2 r3 r4 (λx y v w vv ww h1 h2=>jA I 50 X.A.in1 x y v w vv ww (by show X.A.units+1+50 < cLine;omega) h1 (by omega) h2) (by unfold zE at h1;omega) (by unfold zE at h2;omega))) _ _ _ _ (fin _ ?_)
    rw[zds l1 l2 hl];unfold y6;rfl
   ·refine(SeqAt.RcNeAt.lists_lengths p.isList p2.isList (by simpa using hl) (by omega)) _ _ _ _ (fin _ ?_)
    unfold y6;rw[dN (by omega)];rfl
end
end L3
namespace L3
open PySem PySem.Spec PyProof.Rows L2
def zI (kvs:List (z6×PV))(k:z6):Option PV:=(kvs.find? λkv=>decide (kv.1=k)).map (·.2)
def xP (kvs:List (z6×PV))(k:z6)(v:PV):List (z6×PV):=
 if(kvs.any λkv=>decide (kv.1=k))=true then kvs.map (λkv=>if kv.1=k then(kv.1,v)else kv)else kvs++ [(k,v)]
def wM:PV->Option z6
 | .int i=>some (.inl i)
 | .str x=>some (.inr x)
 | _=>none
section
variable {K:Frag} {A:List Addr} {H:Hp}
theorem RKs.val {k:z6} : ∀{kvs:List (z6×PV)} {us:List (z6×V)},RKs K A H kvs us->(∃x v,zI kvs k=some x/\wJ us k=some v/\RV K A H x v)∨(zI kvs k=none/\wJ us k=none)
 | _,_,.nil=> .inr ⟨rfl,rfl⟩
 | _,_,.cons (k:=k') (x:=x) (v:=v) (xs:=xs) (vs:=vs) r t=>by
  by_cases e:k'=k
  ·refine .inl ⟨x,v,?_,?_,r⟩
   ·unfold zI;rw[ci,decide_eq_true e];rfl
   ·exact lX e
  ·have e1:zI ((k',x)::xs) k=zI xs k:=by unfold zI;rw[ci,decide_eq_false e]
   have e2:wJ ((k',v)::vs) k=wJ vs k:=lW e;rw[e1,e2];exact RKs.val t
theorem RKs.any {k:z6} : ∀{kvs:List (z6×PV)} {us:List (z6×V)},RKs K A H kvs us->(us.any λkv=>decide (kv.1=k))=(kvs.any λkv=>decide (kv.1=k))
 | _,_,.nil=>rfl
 | _,_,.cons r t=>by rw[ij,ij,RKs.any t]
theorem RKs.map {k:z6}{x:PV}{v:V}(r:RV K A H x v): ∀{kvs:List (z6×PV)} {us:List (z6×V)},RKs K A H kvs us->RKs K A H (kvs.map λkv=>if kv.1=k then(kv.1,x)else kv) (us.map λkv=>if kv.1=k then(kv.1,v)else kv)
 | _,_,.nil=> .nil
 | _,_,.cons (k:=k') r' t=>by
  rw[am,am];by_cases e:k'=k
  ·rw[if_pos e,if_pos e];exact .cons r (RKs.map r t)
  ·rw[if_neg e,if_neg e];exact .cons r' (RKs.map r t)
theorem RKs.append: ∀{a b:List (z6×PV)} {c d:List (z6×V)},RKs K A H a c->RKs K A H b d->RKs K A H (a++b) (c++d)
 | _,_,_,_,.nil,h=>h
 | _,_,_,_,.cons r t,h=> .cons r (RKs.append t h)
theorem RKs.put {k:z6}{x:PV}{v:V}(r:RV K A H x v){kvs:List (z6×PV)}{us:List (z6×V)}(h:RKs K A H kvs us):RKs K A H (xP kvs k x) (wC us k v):=by
 unfold xP wC;rw[h.any]
 split
 ·exact h.map r
 ·exact h.append (.cons r .nil)
theorem tT {y:PV}{w:V}{k:z6}(e:RE K A H y w)(h:wM y=some k):w=kV k:=by
 cases e with
 | obj e=>cases h
 | val e=>cases e <;> first | cases h;rfl | cases h
end
section
variable {X:Cx} {a b e:Expr} {es:List Expr} {pos p2:Pos} {Ta Tb:zB} {TA:yE}
def rT:R3:=λx y st Q=>match x with
 | .tup xs=>match y with | .int i=>(match atI xs i with | some z=>Q z st | none=>False) | _=>False
 | .lst xs=>match y with | .int i=>(match atI xs i with | some z=>Q z st | none=>False) | _=>False
 | .str z=>match y with | .int i=>z.length<=sizeLine/\(match atI z.cps.toList i with | some c=>Q (.str ⟨#[c]⟩) st | none=>False) | _=>False
 | .dct kvs=>(match wM y with | some k=>(match zI kvs k with | some z=>Q z st | none=>False) | none=>False)
 | .obj n=>(match st[n]? with
  | some (.lst xs)=>(match y with | .int i=>(match atI xs i with | some z=>Q z st | none=>False) | _=>False)
  | some (.dct kvs)=>(match wM y with | some k=>(match zI kvs k with | some z=>Q z st | none=>False) | none=>False)
  | _=>False)
 | _=>False
theorem RVs.atI {K:Frag}{A:List Addr}{H:Hp}{xs:List PV}{vs:List V}{i:Int}{x:PV}(r:RVs K A H xs vs)(h:L2.atI xs i=some x): ∃v,L2.atI vs i=some v/\RV K A H x v:=by
 unfold L2.atI at h⊢
 rw[<- r.len];cases e:wA xs.length i with
 | none=>rw[e]at h;cases h
 | some j=>rw[e]at h;exact r.get h
theorem zc6 {k:Nat}(hr:zL k X.A):rB X (λx y H Q=> ∃a v,x= .ref a/\nY H a y (some v)/\Q v H):=by
 intro value slice pins s σ H x y vv ww Q I rx ry h hs;obtain⟨a,v,rfl,g,q⟩:=h;cases rx;have hT:=znf I g;unfold subscriptTail;refine aa ?_;rw[ul hT.not_modules];refine aa (gd hT qh.lookup ?_);have fin:ak (ay X.prog X.w) X.A (subscripted slice false (.ref a) ww) (λr s₃=>ak (ay X.prog X.w) X.A (letTemporaryGo value (.ref a) r >>= λ_=>pure r) (EP X pins σ Q) X.xe s₃) X.xe s:=by
  rw[hs];exact wpAny_operating (zmX (by have:=hr.units;omega) I g ry λw' s3 I3 rw'=>aa (ve (ah ⟨v,H,I3,rw',q⟩)))
 first
  | exact ah (aa fin)
  | exact aa (ah (aa fin))
  | exact aa fin
theorem zpt {k:Nat}(hr:zL k X.A):rB X (xN X.K rT):=by
 intro value slice pins s σ H v w vv ww Q I rv rw ⟨A,st,x,y,Q3,rs,ex,ey,h,k⟩ hs;unfold rT at h
 split at h
 ·-- tuples
  cases ex with | val ex=>cases ex with | tup t z r=>
   split at h
   ·cases xH ey
    split at h
    ·rename_i i q z' e
     obtain⟨v',e',r'⟩:=r.atI e;exact zog value slice pins s σ H _ _ vv ww Q I rv rw ⟨_,_,_,_,rfl,rfl,t.sq,e',k.now rs (.val r') h⟩ hs
    ·exact h.elim
   ·exact h.elim
 ·cases ex with | val ex=>cases ex with | lst t z r=>
   split at h
   ·cases xH ey
    split at h
    ·rename_i i q z' e
     obtain⟨v',e',r'⟩:=r.atI e;exact zi5 value slice pins s σ H _ _ vv ww Q I rv rw ⟨_,_,_,_,rfl,rfl,t.sq,e',k.now rs (.val r') h⟩ hs
    ·exact h.elim
   ·exact h.elim
 ·cases sB ex
  split at h
  ·cases xH ey
   obtain⟨hz,h⟩:=h
   split at h
   ·rename_i i q c e
    exact zof value slice pins s σ H _ _ vv ww Q I rv rw ⟨_,_,_,rfl,rfl,hz,e,k.now rs (.val (.str _)) h⟩ hs
   ·exact h.elim
  ·exact h.elim
 ·cases ex with | val ex=>cases ex with | dct t z r=>
   split at h
   ·rename_i kk ek
    split at h
    ·rename_i z' e
     rcases r.val (k:=kk)with⟨x',v',e1,e2,r'⟩ | ⟨e1,e2⟩
     ·rw[e]at e1;cases e1
      exact zc6 hr value slice pins s σ H _ _ vv ww Q I rv rw ⟨_,v',rfl,.inl ⟨_,kk,.inl t.1,tT ey ek,e2.symm⟩,k.now rs (.val r') h⟩ hs
     ·rw[e]at e1;cases e1
    ·exact h.elim
   ·exact h.elim
 ·cases ex with
  | val ex=>cases ex
  | obj eo=>
   split at h
   ·rename_i n xs q
    obtain⟨vs,h1,r,hzz⟩:=rs.at_ _ _ _ eo q
    split at h
    ·cases xH ey
     split at h
     ·rename_i i q z' e
      obtain⟨v',e',r'⟩:=r.atI e;exact zi5 value slice pins s σ H _ _ vv ww Q I rv rw ⟨_,_,_,_,rfl,rfl,.of h1,e',k.now rs (.val r') h⟩ hs
     ·exact h.elim
    ·exact h.elim
   ·rename_i n kvs q
    obtain⟨us,h1,r,hzz⟩:=rs.at_ _ _ _ eo q
    split at h
    ·rename_i kk ek
     split at h
     ·rename_i z' e
      rcases r.val (k:=kk)with⟨x',v',e1,e2,r'⟩ | ⟨e1,e2⟩
      ·rw[e]at e1;cases e1
       exact zc6 hr value slice pins s σ H _ _ vv ww Q I rv rw ⟨_,v',rfl,.inl ⟨_,kk,.inl h1,tT ey ek,e2.symm⟩,k.now rs (.val r') h⟩ hs
      ·rw[e]at e1;cases e1
     ·exact h.elim
    ·exact h.elim
   ·exact h.elim
 ·exact h.elim
def l8:PV->PV->PV->z7->(z7->Prop)->Prop:=λo i v st Q=>match o with
 | .obj n=>(match st[n]? with
  | some (.lst xs)=>(match i with | .int k=>yR v=true/\(match wA xs.length k with | some j=>Q (st.set n (.lst (xs.set j v))) | none=>False) | _=>False)
  | some (.dct kvs)=>(match wM i with | some k=>yR v=true/\kvs.length < sizeLine/\Q (st.set n (.dct (xP kvs k v))) | none=>False)
  | _=>False)
 | _=>False
def zmK (K:Frag):V->V->V->Hp->(Hp->Prop)->Prop:=λo i v H Q=> ∃A st x y z Q3,RS K A H st/\RE K A H x o/\RE K A H y i/\RE K A H z v/\l8 x y z st Q3/\∀A' H' st',zR A H A' H'->RS K A' H' st'->Q3 st'->Q H'
theorem RVs.set {K:Frag}{A:List Addr}{H:Hp}{x:PV}{v:V}(rx:RV K A H x v): ∀{xs:List PV} {vs:List V} (j:Nat),RVs K A H xs vs->RVs K A H (xs.set j x) (vs.set j v)
 | _,_,_,.nil=> .nil
 | _,_,0,.cons _ t=> .cons rx t
 | _,_,j+1,.cons r t=> .cons r (RVs.set rx j t)
theorem zsa {k:Nat}(hr:zL k X.A):kM X (zmK X.K):=by
 intro pins s σ H o i v ov iv u Q I ro ri rv ⟨A,st,x,y,z,Q3,rs,ex,ey,ez,h,k⟩;unfold l8 at h
 split at h
 ·cases ex with
  | val ex=>cases ex
  | obj eo=>
   have hm:=ck eo
   split at h
   ·rename_i n xs q
    obtain⟨vs,h1,r,hzz⟩:=rs.at_ _ _ _ eo q
    split at h
    ·cases xH ey
     obtain⟨hz,h⟩:=h
     split at h
     ·rename_i kk q2 j e
      rw[r.len]at e;exact zsk pins s σ H _ _ _ ov iv u Q I ro ri rv ⟨_,vs,_,j,rfl,rfl,h1,e,k A _ _ (.put hm) (rs.put (q:= .lst (xs.set j z)) eo ⟨_,yO,RVs.set ((ez.rv hz).grow (.put hm)) j (r.grow (.put hm)),by rw[dw];exact hzz⟩) h⟩
     ·exact h.elim
    ·exact h.elim
   ·rename_i n kvs q
    obtain⟨us,h1,r,hzz⟩:=rs.at_ _ _ _ eo q
    split at h
    ·rename_i kk ek
     obtain⟨hz,hl,h⟩:=h;cases ro;refine zfs (by have:=hr.units;omega) I (.inl ⟨us,kk,h1,tT ey ek,by rw[<- r.len];exact hl,rfl⟩) ri rv λs' I'=>⟨_,I',k A _ _ (.put hm) (rs.put (q:= .dct (xP kvs kk z)) eo ⟨_,yO,RKs.put ((ez.rv hz).grow (.put hm)) (r.grow (.put hm)),bf (jN us kk v) (by rw[<- r.len];exact hl)⟩) h⟩
    ·exact h.elim
   ·exact h.elim
 ·exact h.elim
def gS (To Ti:zB):xW:=λv env st Q=>To env st λo st1=>Ti env st1 λi st2=>l8 o i v st2 λst3=>Q env st3
theorem tY {k:Nat}(hr:zL k X.A)(ho:PE X a (zK X.K Ta))(hi:PE X b (zK X.K Tb))
  (ha: ∀v,assign (.Subscript a b pos) X.env v=(do
   let ov <- holding [v] (eval a X.env)
   let iv <- holding [v,ov] (eval b X.env)
   standAt pos
   holding [v,ov,iv] (setItem ov iv v)
   release [v,ov,iv] []):=by intro _;rfl):PG X (.Subscript a b pos) (vE X.K (gS Ta Tb)):=
 zcR (zcQ ho hi (zsa hr) ha) λv σ H Q ⟨A,env,st,x,Q3,rel,e,h,k⟩=>⟨A,env,st,_,rel,h,λA1 H1 st1 o v1 g1 s1 e1 h1=>⟨A1,env,st1,_,rel.grow g1 s1,h1,λA2 H2 st2 i v2 g2 s2 e2 h2=>
  ⟨A2,st2,o,i,x,_,s2,e1.grow g2,e2,e.grow (g1.trans g2),h2,λA3 H3 st3 g3 s3 h3=>k A3 H3 σ env st3 ((g1.trans g2).trans g3) (rel.grow ((g1.trans g2).trans g3) s3) h3⟩⟩⟩
theorem yP.one {K:Frag}{A:List Addr}{H:Hp}{x:PV}{vs:List V}(h:yP K A H [x] vs): ∃v,vs= [v]/\RE K A H x v:=by
 cases h with
 | cons r t=>cases t;exact⟨_,rfl,r⟩
theorem yP.two {K:Frag}{A:List Addr}{H:Hp}{x y:PV}{vs:List V}(h:yP K A H [x,y] vs): ∃v w,vs= [v,w]/\RE K A H x v/\RE K A H y w:=by
 cases h with
 | cons r t=>obtain⟨w,rfl,e⟩:=yP.one t;exact⟨_,w,rfl,r,e⟩
def pB:PV->z7->(Nat->Prop)->Prop
 | .tup xs,_,k=>k xs.length
 | .lst xs,_,k=>k xs.length
 | .dct xs,_,k=>False
 | .str z,_,k=>z.length<=sizeLine/\k z.length
 | .obj i,st,k=>match st[i]? with | some (.lst xs)=>k xs.length | some (.dct kvs)=>k kvs.length | _=>False
 | _,_,_=>False
def iR:zQ:=λxs st Q=>match xs with | [x]=>pB x st λn=>Q (.int n) st | _=>False
theorem wN:w4 X (.builtin "len") (tO X.K iR):=by
 intro pins s σ H vs us Q I rv ⟨A,st,xs,Q3,rs,ex,h,k⟩;unfold iR at h
 split at h
 ·rename_i x
  obtain⟨v,rfl,ex1⟩:=yP.one ex;have fin: ∀{n:Nat},Q3 (.int n) st->Q (.int n) H:=λq=>k.now rs (.val (.int _)) q;cases ex1 with
  | obj eo=>
   dsimp only[pB]at h
   split at h
   ·rename_i q
    obtain⟨vs,h1,r,hzz⟩:=rs.at_ _ _ _ eo q;exact j1 pins s σ H _ us Q I rv ⟨_,_,rfl,.inl ⟨_,.of h1,rfl⟩,by rw[<- r.len];exact fin h⟩
   ·rename_i q
    obtain⟨vs,h1,r,hzz⟩:=rs.at_ _ _ _ eo q;exact zmD pins s σ H _ us Q I rv ⟨_,_,rfl,h1,by rw[<- r.len];exact fin h⟩
   ·exact h.elim
  | val e=>
   cases e with
   | str z=>exact j1 pins s σ H _ us Q I rv ⟨_,_,rfl,⟨h.1,rfl⟩,fin h.2⟩
   | tup t z r=>exact j1 pins s σ H _ us Q I rv ⟨_,_,rfl,.inr ⟨_,t.sq,rfl⟩,by rw[<- r.len];exact fin h⟩
   | lst t z r=>exact j1 pins s σ H _ us Q I rv ⟨_,_,rfl,.inl ⟨_,t.sq,rfl⟩,by rw[<- r.len];exact fin h⟩
   | _=>exact False.elim h
 ·exact h.elim
def l9:zQ:=λxs st Q=>match xs with
 | [.lst ys]=>Q (.tup ys) st
 | [.tup ys]=>Q (.tup ys) st
 | [.obj i]=>(match st[i]? with | some (.lst ys)=>Q (.tup ys) st | some (.dct kvs)=>Q (.tup (kvs.map λq=>match q.1 with | .inl i=> .int i | .inr z=> .str z)) st | _=>False)
 | _=>False
theorem ziA {K:Frag}{A:List Addr}{H:Hp} : ∀{kvs:List (z6×PV)} {us:List (z6×V)},RKs K A H kvs us->RVs K A H (kvs.map λq=>match q.1 with | .inl i=> .int i | .inr z=> .str z) (us.map λq=>kV q.1)
 | _,_,.nil=> .nil
 | _,_,.cons (k:=k) r t=>by
  rw[am,am];refine .cons ?_ (ziA t);cases k with
  | inl i=>exact .int i
  | inr z=>exact .str z
theorem rR (hc:X.calm=true):w4 X (.type "tuple") (tO X.K l9):=by
 intro pins s σ H vs us Q I rv ⟨A,st,xs,Q3,rs,ex,h,k⟩;unfold l9 at h
 split at h
 ·cases ex with | cons ex et=>cases et;cases ex with | val e=>cases e with | lst t z r=>
   exact dB pins s σ H _ us Q I rv ⟨_,_,rfl,.inl ⟨t.sq,k.tup rs r z h⟩⟩
 ·cases ex with | cons ex et=>cases et;cases ex with | val e=>cases e with | tup t z r=>
   exact dB pins s σ H _ us Q I rv ⟨_,_,rfl,.inr ⟨t.sq,k.now rs (.val (.tup t z r)) h⟩⟩
 ·cases ex with | cons ex et=>cases et;cases ex with
  | val e=>cases e
  | obj eo=>
   split at h
   ·rename_i q
    obtain⟨vs,h1,r,hzz⟩:=rs.at_ _ _ _ eo q;have hz:=hzz;exact dB pins s σ H _ us Q I rv ⟨_,_,rfl,.inl ⟨.of h1,k.tup rs r hz h⟩⟩
   ·rename_i q
    obtain⟨vs,h1,r,hzz⟩:=rs.at_ _ _ _ eo q;have hz:=hzz;exact zmI hc pins s σ H _ us Q I rv ⟨_,_,rfl,h1,k.tup rs (ziA r) (by rw[ac];exact hz) h⟩
   ·exact h.elim
 ·exact h.elim
def w6 (xs:List PV)(lo hi:Option Int):List PV:=(xs.drop (HT.sIx xs.length 0 lo)).take (HT.sIx xs.length xs.length hi - HT.sIx xs.length 0 lo)
def pH:PV->Option Int->Option Int->z7->K3->Prop:=λx lo hi st Q=>match x with
 | .tup xs=>Q (.tup (w6 xs lo hi)) st
 | .lst xs=>Q (.lst (w6 xs lo hi)) st
 | .str z=>z.length<=sizeLine/\((Txt.slice z lo hi).length<=z.length->Q (.str (Txt.slice z lo hi)) st)
 | _=>False
def zmL (K:Frag):V->Option Int->Option Int->Hp->VK->Prop:=λv lo hi H Q=> ∃A st x Q3,RS K A H st/\RE K A H x v/\pH x lo hi st Q3/\xQ K A H Q3 Q
theorem RVs.cut {K:Frag}{A:List Addr}{H:Hp}{xs:List PV}{vs:List V}(r:RVs K A H xs vs)(lo hi:Option Int):RVs K A H (w6 xs lo hi) (qF vs lo hi):=by
 unfold w6 qF;rw[r.len];exact(r.drop _).take _
theorem zpz:mE X (zmL X.K):=by
 intro pins s σ H v vv vl vu lo hi sl Q I rx hs pl pu ⟨A,st,x,Q3,rs,ex,h,k⟩;unfold pH at h
 split at h
 ·cases ex with | val e=>cases e with | tup t z r=>
   rename_i xs a vs;by_cases hw:HT.sIx vs.length 0 lo=0/\HT.sIx vs.length vs.length hi=vs.length
   ·cases rx
    obtain⟨its,r',ht,hz⟩:=I.tuple t.sq;refine⟨"tuple",_,cy.lookup,ht.typeIs,?_⟩;have hl:its.toArray.size=vs.length:=by rw[be,<- r'.length]
    refine znC ht hs pl pu (by rw[hl];exact hw) ⟨.ref a,H,I,rfl,k.now rs (.val (.tup t z r)) ?_⟩;rw[<- r.len]at hw;have e:w6 xs lo hi=xs:=by
     unfold w6;rw[hw.1,hw.2,xr,Nat.sub_zero,bz (ao _)]
    rw[e]at h;exact h
   ·refine zsq pins s σ H _ vv vl vu lo hi sl Q I rx hs pl pu ⟨_,_,rfl,t.sq,?_,k.tup rs (r.cut lo hi) (bf (j7 _ lo hi) z) h⟩
    exact hw
 ·cases ex with | val e=>cases e with | lst t z r=>
   exact zso pins s σ H _ vv vl vu lo hi sl Q I rx hs pl pu ⟨_,_,rfl,t.sq,k.lst rs (r.cut lo hi) (bf (j7 _ lo hi) z) h⟩
 ·cases sB ex
  exact zsp pins s σ H _ vv vl vu lo hi sl Q I rx hs pl pu ⟨_,rfl,h.1,λhl=>k.now rs (.val (.str _)) (h.2 hl)⟩
 ·exact h.elim
abbrev t6:=zG->z7->(Option Int->z7->Prop)->Prop
def o9 (K:Frag)(T:t6):TO:=λσ H Q=> ∃A env st Q3,yX K A H σ env st/\T env st Q3/\∀A' H' st' i,zR A H A' H'->RS K A' H' st'->Q3 i st'->Q i H'
def zjc:t6:=λ_ st Q=>Q none st
def zjd (T:zB):t6:=λenv st Q=>T env st λx st1=>match x with | .int i=>Q (some i) st1 | _=>False
theorem zjC {o:Option Expr}{t t':TO}(h:L2.PO X o t)(w: ∀σ H Q,t' σ H Q->t σ H Q):L2.PO X o t':=⟨λpins s σ H Q I q=>h pins s σ H Q I (w σ H Q q)⟩
theorem vH:L2.PO X none (o9 X.K zjc):=zjC zqR λσ H Q ⟨A,env,st,Q3,rel,h,k⟩=>k A H st none (.refl _ _) rel.rs h
theorem wS (h:PE X e (zK X.K Ta)):L2.PO X (some e) (o9 X.K (zjd Ta)):=by
 refine zjC (zqS h) λσ H Q ⟨A,env,st,Q3,rel,h,k⟩=>⟨A,env,st,_,rel,h,λA1 H1 st1 x v g1 s1 e1 h1=> ?_⟩;cases x with
 | int i=>cases xH e1;exact⟨i,rfl,k A1 H1 st1 _ g1 s1 h1⟩
 | _=>exact False.elim h1
def vSl (T:zB)(Tl Th:t6):zB:=λenv st Q=>T env st λx st1=>Tl env st1 λl st2=>Th env st2 λu st3=>pH x l u st3 Q
theorem vG {lo hi:Option Expr}{Tl Th:t6}(he:PE X e (zK X.K Ta))(hl:L2.PO X lo (o9 X.K Tl))(hu:L2.PO X hi (o9 X.K Th)):PE X (.Subscript e (.Slice lo hi none p2) pos) (zK X.K (vSl Ta Tl Th)):=
 xL (zq_ zpz he hl hu) λσ H Q ⟨A,env,st,Q3,rel,h,k⟩=>⟨A,env,st,_,rel,h,λA1 H1 st1 x v g1 s1 e1 h1=>⟨A1,env,st1,_,rel.grow g1 s1,h1,λA2 H2 st2 l g2 s2 h2=>⟨A2,env,st2,_,(rel.grow g1 s1).grow g2 s2,h2,λA3 H3 st3 u g3 s3 h3=>
  ⟨A3,st3,x,Q3,s3,e1.grow (g2.trans g3),h3,k.after (g1.trans (g2.trans g3))⟩⟩⟩⟩
end
end L3
namespace L3
open PySem PySem.Spec PyProof.Rows L2
section
variable {X:Cx} {tg iter a b e:Expr} {es:List Expr} {pos p:Pos} {Ta:zB} {TA:yE}
def znM (K:Frag)(tl:TE):TI:=λσ H R=>tl σ H λx H1=>(∃a,x= .ref a/\(∃xs,yT K H1 a xs)/\R (kI K a) H1)∨(∃a,x= .ref a/\(∃xs,xI K H1 a xs)/\R (fV K a) H1)∨∃z,x= .str z/\R (kJ z) H1
theorem zqJ {tl:TE}(hl:PE X iter tl):PI X tg iter (znM X.K tl):=by
 refine⟨λpins s σ H R I h=> ?_⟩;refine zM (hl pins s σ H _ I h) λv s1 ⟨x,H1,I1,r1,q1⟩=> ?_;rcases q1 with⟨a,rfl,⟨xs,hq⟩,q⟩ | ⟨a,rfl,⟨xs,hq⟩,q⟩ | ⟨x,rfl,q⟩
 ·cases r1
  obtain⟨its,rv,p,hz⟩:=I1.list hq;refine wpAny_pyIter_list p.isList ?_;refine⟨s1.heap.objs.size,[s1.heap.objs.size],_,_,H1,rfl,I1.kept (t':=s1.toks) λb o e=>ae _ e,ztv a _,⟨_,br _ rfl,rfl,rfl⟩,λb hb=> ?_,q⟩;have e:b=s1.heap.objs.size:=by simpa using hb
  subst e;exact I1.fpOk (ao _) (I1.hok.fresh (ao _))
 ·cases r1
  obtain⟨its,rv,p,hz⟩:=I1.tuple hq;refine wpAny_pyIter_tuple (show s1.heap.IsTuple a its.toArray from p) ?_;refine⟨s1.heap.objs.size,[s1.heap.objs.size],_,_,H1,rfl,I1.kept (t':=s1.toks) λb o e=>ae _ e,ztx a _,⟨_,br _ rfl,rfl,rfl⟩,λb hb=> ?_,q⟩;have e:b=s1.heap.objs.size:=by simpa using hb
  subst e;exact I1.fpOk (ao _) (I1.hok.fresh (ao _))
 ·obtain⟨t,rfl⟩:=r1
  have fin: ∀(n:String) (o:Obj),o5 X.prog X.w X.K tg (kJ x) [s1.heap.objs.size] s1.heap.objs.size (λi h=>h.IsStrIter s1.heap.objs.size n x t i)->(s1.heap.push o).IsStrIter s1.heap.objs.size n x t 0->kL X pins σ tg R (.ref s1.heap.objs.size) {s1 with heap:=s1.heap.push o} :=λn o T st=>
   ⟨s1.heap.objs.size,[s1.heap.objs.size],_,_,H1,rfl,I1.kept (t':=s1.toks) λb u e=>ae _ e,T,st,λb hb=>by
    have e:b=s1.heap.objs.size:=by simpa using hb
    subst e;exact I1.fpOk (ao _) (I1.hok.fresh (ao _)),q⟩
  cases ha:x.cps.all (· < 128)
  ·exact wpAny_pyIter_wide ha (fin "str_iterator" _ (zkO _ x t (by decide) (λA hA=>Walks.strWide hA _ x t) λ_ _ _ _ _ st hQ=>wpAny_pyIter_striter_wide st hQ) ⟨_,br _ rfl,rfl,rfl⟩)
  ·exact wpAny_pyIter_ascii ha (fin "str_ascii_iterator" _ (zkO _ x t (by decide) (λA hA=>Walks.strAscii hA _ x t) λ_ _ _ _ _ st hQ=>wpAny_pyIter_striter_ascii st hQ) ⟨_,br _ rfl,rfl,rfl⟩)
def qR (z:Str):List PV:=z.cps.toList.map λc=> .str ⟨#[c]⟩
theorem znZ {K:Frag}{A:List Addr}{H:Hp}{z:Str}(hz:z.length<=sizeLine):qU K A H none (kJ z) (qR z) where
 go:=λi A' H' st g s _ hi=>by
  unfold qR at hi;have hi':i < z.cps.size:=by simpa using hi
  exact hi'
 yld:=λi x A' H' st v H2 hx g s _ y=>by
  obtain⟨rfl,c,hc,rfl⟩:=y;unfold qR at hx;rw[cg]at hx;have hc':z.cps.toList[i]?=some c:=by simpa using hc
  rw[hc']at hx;cases hx;exact⟨.refl _ _,s,.val (.str _)⟩
 stop:=λA' H' st g s _=>by
  unfold qR;show _=z.cps.size;simp
 small:=by
  unfold qR;rw[ac];have:z.cps.toList.length=z.length:=by simp[Str.length]
  omega
def ziq (T:zB):uL:=λenv st Q=>T env st λx st1=>match x with
 | .lst xs=>Q none xs st1
 | .tup xs=>Q none xs st1
 | .str z=>z.length<=sizeLine/\Q none (qR z) st1
 | .obj i=>(match st1[i]? with | some (.lst xs)=>Q (some (i,.lst xs)) xs st1 | _=>False)
 | _=>False
theorem wQ (h:PE X iter (zK X.K Ta)):PI X tg iter (rF X.K (ziq Ta)):=by
 refine zcT (zqJ h) λσ H R ⟨A,env,st,Q3,rel,h,k⟩=>⟨A,env,st,_,rel,h,λA1 H1 st1 x v g1 s1 e1 h1=> ?_⟩;cases e1 with
 | obj eo=>
  dsimp only at h1
  split at h1
  ·rename_i q
   obtain⟨vs,h2,r,hz⟩:=s1.at_ _ _ _ eo q;exact .inl ⟨_,rfl,⟨_,.of h2⟩,k A1 H1 st1 _ _ _ g1 s1 (znY eo (by rw[r.len];exact hz)) h1⟩
  ·exact h1.elim
 | val e=>
  cases e with
  | tup t z r=>exact .inr (.inl ⟨_,rfl,⟨_,t.sq⟩,k A1 H1 st1 none _ _ g1 s1 (zoa t z r) h1⟩)
  | lst t z r=>exact .inl ⟨_,rfl,⟨_,t.sq⟩,k A1 H1 st1 none _ _ g1 s1 (znX t z r) h1⟩
  | str z=>exact .inr (.inr ⟨z,rfl,k A1 H1 st1 none _ _ g1 s1 (znZ h1.1) h1.2⟩)
  | _=>exact False.elim h1
theorem nG (hg:Gl X "range")(hm:X.mg "range" =none)(ha:PA X [a] (vD X.K TA))(hs:starEach [a] X.env= [(false,eval a X.env)]:=by rfl):PI X tg (.Call (.Name "range" p) [a] [] pos) (rF X.K (zir TA)):=by
 refine zcT (zqK hg hm ha hs) λσ H R ⟨A,env,st,Q3,rel,h,k⟩=>⟨A,env,st,_,rel,h,λA1 H1 st1 xs vs g1 s1 e1 h1=> ?_⟩
 split at h1
 ·rename_i j
  obtain⟨v,rfl,e⟩:=yP.one e1;cases xH e;have hb:(2000000:Nat)<=sizeLine:=by rw[cx];decide
  exact⟨j,rfl,by omega,by omega,k A1 H1 st1 none _ _ g1 s1 (zi0 (by omega)) h1.2⟩
 ·exact h1.elim
theorem zrv (hg:Gl X "range")(hm:X.mg "range" =none)(ha:PA X [a,b] (vD X.K TA))(hs:starEach [a,b] X.env= [(false,eval a X.env),(false,eval b X.env)]:=by rfl)(hs2:starEach [b] X.env= [(false,eval b X.env)]:=by rfl):
  PI X tg (.Call (.Name "range" p) [a,b] [] pos) (rF X.K (zis TA)):=by
 refine zcT (zqL hg hm ha hs hs2) λσ H R ⟨A,env,st,Q3,rel,h,k⟩=>⟨A,env,st,_,rel,h,λA1 H1 st1 xs vs g1 s1 e1 h1=> ?_⟩
 split at h1
 ·rename_i i j
  obtain⟨v,v',rfl,e,e2⟩:=yP.two e1;cases xH e;cases xH e2;have hb:(2000000:Nat)<=sizeLine:=by rw[cx];decide
  exact⟨i,j,rfl,by omega,k A1 H1 st1 none _ _ g1 s1 (zi0 (by omega)) h1.2⟩
 ·exact h1.elim
end
def sY (N:List Str)(xs:List PV):zG:=xs.map some++List.replicate (N.length - xs.length) none
def xE (m:Nat)(Q:K3):K3:=λr st=>match r with
 | .obj i=>if i < m then Q (.obj i) (st.take m)else(match st[i]? with | some (.lst xs)=>Q (.lst xs) (st.take m) | some (.dct xs)=>Q (.dct xs) (st.take m) | some (.itb xs)=>Q (.itb xs) (st.take m) | _=>False)
 | r=>Q r (st.take m)
section
variable {K:Frag} {A B:List Addr} {H H':Hp}
theorem yX.begin {st:z7}{xs:List PV}{vs:List V}{N:List Str}(s:RS K A H st)(e:yP K A H xs vs):yX K A H (L2.start N vs) (sY N xs) st:=by
 have hl:xs.length=vs.length:=ii e;refine⟨s,by unfold L2.start sY;rw[ai,ai,ac,ac,gy,gy,hl],λi x h=> ?_⟩;unfold sY at h;by_cases hi:i < xs.length
 ·rw[bo (by rw[ac];exact hi),cg]at h
  cases ex:xs[i]? with
  | none=>rw[ex]at h;cases h
  | some y=>
   rw[ex]at h;cases h;have hv:i < vs.length:=by omega
   refine⟨vs[i],?_,zjy e ex (bu hv)⟩;unfold L2.start;rw[bo (by rw[ac];exact hv),cg,bu hv];rfl
 ·rw[aq (by rw[ac];omega),im]at h
  split at h <;> cases h
theorem uM.less {A A':List Addr}(h: ∀b,b∈A'->b∈A){a:Addr}{vs:List V}(t:uM K A H a vs):uM K A' H a vs:=t.imp (λt=>⟨t.1,λm=>t.2 (h _ m)⟩) id
theorem sH.less {A A':List Addr}(h: ∀b,b∈A'->b∈A){a:Addr}{vs:List V}(t:sH K A H a vs):sH K A' H a vs:=t.imp (λt=>⟨t.1,λm=>t.2 (h _ m)⟩) id
mutual
theorem RV.less {A A':List Addr}(h: ∀b,b∈A'->b∈A){x:PV}{v:V} :RV K A H x v->RV K A' H x v
 | .non=> .non
 | .bl b=> .bl b
 | .int i=> .int i
 | .str x=> .str x
 | .ty n=> .ty n
 | .tup t z r=> .tup (t.less h) z (RVs.less h r)
 | .lst t z r=> .lst (t.less h) z (RVs.less h r)
 | .dct t z r=> .dct ⟨t.1,λm=>t.2 (h _ m)⟩ z (RKs.less h r)
 | .itb e n=> .itb e λm=>n (h _ m)
 | .clo e=> .clo ⟨⟨e.fn.1,λm=>e.fn.2 (h _ m)⟩,⟨e.cd.1,λm=>e.cd.2 (h _ m)⟩,⟨e.cl.1,λm=>e.cl.2 (h _ m)⟩,⟨e.dt.1,λm=>e.dt.2 (h _ m)⟩⟩
theorem RVs.less {A A':List Addr}(h: ∀b,b∈A'->b∈A){xs:List PV}{vs:List V} :RVs K A H xs vs->RVs K A' H xs vs
 | .nil=> .nil
 | .cons r t=> .cons (RV.less h r) (RVs.less h t)
theorem RKs.less {A A':List Addr}(h: ∀b,b∈A'->b∈A){xs:List (z6×PV)}{vs:List (z6×V)} :RKs K A H xs vs->RKs K A' H xs vs
 | .nil=> .nil
 | .cons r t=> .cons (RV.less h r) (RKs.less h t)
end
def eF (A A':List Addr)(a:Addr):Prop:= ∀(i j:Nat) (p:Addr),A[i]?=some a->j < i->A[j]?=some p->∃i',A'[i']?=some a/\j < i'/\A'[j]?=some p
theorem RR.less {A A':List Addr}(h: ∀b,b∈A'->b∈A){a:Addr}(hp:eF A A' a){x:PV}{v:V}(r:RR K A H a x v):RR K A' H a x v:=by
 cases r with
 | val r=>exact .val (r.less h)
 | obj e l e'=>obtain⟨_,x,y,z⟩:=hp _ _ _ e l e';exact .obj x y z
theorem xK.less {A A':List Addr}(h: ∀b,b∈A'->b∈A){a:Addr}(hp:eF A A' a){xs:List (z6×PV)}{vs:List (z6×V)} :xK K A H a xs vs->xK K A' H a xs vs
 | .nil=> .nil
 | .cons r t=> .cons ⟨r.1,r.2.less h hp⟩ (xK.less h hp t)
theorem OA.less {A A':List Addr}(h: ∀b,b∈A'->b∈A){a:Addr}{o:PO}(hp:eF A A' a)(x:OA K A H a o):OA K A' H a o:=by
 cases o with
 | lst xs=>obtain⟨vs,e,r,z⟩:=x;exact⟨vs,e,r.less h,z⟩
 | dct xs=>obtain⟨vs,e,r,z⟩:=x;exact⟨vs,e,r.less h,z⟩
 | tbl T pos q=>obtain⟨ea,ps,e,r⟩:=x;exact⟨ea,ps,e,r.imp id λ⟨c',e1,e2,e3⟩=>⟨c',e1,e2,λm=>e3 (h _ m)⟩⟩
 | itb kvs=>exact x
 | rcd xs=>obtain⟨vs,e,r,z⟩:=x;exact⟨vs,e,xK.less h hp r,z⟩
 | fd ob xs=>obtain⟨vs,e,r,z⟩:=x;exact⟨vs,e,r.less h,z⟩
theorem oV {α:Type}{l:List α}{m:Nat} : ∀b,b∈l.take m->b∈l:=λb h=>vf h
theorem RS.take {st:z7}(s:RS K A H st)(m:Nat):RS K (A.take m) H (st.take m):=by
 refine⟨List.Nodup.sublist (iz _ _) s.nd,by rw[cj,cj,s.len],λi a o h1 h2=> ?_⟩;have hi:i < m:=by
  have:=(ad.mp h1).1;rw[cj]at this;omega
 rw[dv hi]at h1 h2;refine(s.at_ i a o h1 h2).less oV λi' j p e l e'=> ?_;have hii:i'=i:=(du (ad.mp e).1 s.nd).mp (e.trans h1.symm);subst hii;exact⟨i',by rw[dv hi];exact e,l,by rw[dv (by omega)];exact e'⟩
theorem zR.take {B':List Addr}(g:zR A H B' H'){m:Nat}(h:A.length<=m):zR A H (B'.take m) H':=by
 obtain⟨⟨C,rfl,hC⟩,k,l⟩:=g;refine⟨⟨C.take (m - A.length),?_,λb hb=>hC b (vf hb)⟩,k,l⟩;rw[List.take_append,bz h]
theorem xQ.exit {Q3:K3}{Q:VK}{m:Nat}(k:xQ K A H Q3 Q)(hm:A.length<=m):xQ K A H (xE m Q3) Q:=by
 intro A' H' st' r v g s e q;have g':=g.take hm;have s':=s.take m;cases e with
 | val e=>
  refine k _ H' _ r v g' s' (.val (e.less oV)) ?_;cases r with
  | obj i=>cases e
  | _=>exact q
 | obj eo=>
  rename_i i a;unfold xE at q;dsimp only at q;by_cases hi:i < m
  ·rw[if_pos hi]at q
   exact k _ H' _ _ _ g' s' (.obj (by rw[dv hi];exact eo)) q
  ·rw[if_neg hi]at q
   have na:a∉A'.take m:=λhm'=>by
    obtain⟨j,hj,e⟩:=or hm';rw[cj]at hj;have e2:A'[j]?=some a:=by
     rw[<- dv (show j < m by omega),bu (by rw[cj];omega),e]
    have:=(du (ad.mp e2).1 s.nd).mp (e2.trans eo.symm);omega
   split at q
   ·rename_i xs e
    obtain⟨vs,h1,r,z⟩:=s.at_ _ _ _ eo e;exact k _ H' _ _ _ g' s' (.val (.lst (.inl ⟨.inl h1,na⟩) z (r.less oV))) q
   ·rename_i xs e
    obtain⟨vs,h1,r,z⟩:=s.at_ _ _ _ eo e;exact k _ H' _ _ _ g' s' (.val (.dct ⟨h1,na⟩ z (r.less oV))) q
   ·rename_i xs e
    exact k _ H' _ _ _ g' s' (.val (.itb (s.at_ _ _ _ eo e) na)) q
   ·exact q.elim
end
theorem yW {P:Program}{w:World}{K:Frag}{mg:Str->Option Value}{base:Heap}{x qual:Str}{st:Stmt}{f:Addr}{fd:FuncData}{N ps:List Str}{k:Nat}{S:zQ}(keep:Nat)(F:yD K x qual st f fd)(sc:yM N ps (zV st))(len: ∀xs st Q,S xs st Q->xs.length=ps.length)
  (hB: ∃T:yQ,(∀(cdv:Value) (A:Around) (outer:List Env) (s:Shared) (H:Hp) (E:XK),zL k (A.deeper (envOfC qual (zV st) s.heap.objs.size f cdv))->x8 (t8 y3 P w K mg base N qual (zV st) f cdv A outer s H E).nox (sL st) (xA K T))/\
   ∀xs sto Q,S xs sto Q->T {nx:=λ_ s'=>xE (sto.length+keep) Q .non s',rt:=xE (sto.length+keep) Q} (sY N xs) sto):zU P w K mg base y3 (k+1) f fd ps (y2 K S):=by
 obtain⟨T,hT,hb⟩:=hB;refine F.ok sc (λvs H Q E h=> ?_) (λcdv A outer s H vs Q E hr h=>⟨_,hT cdv A outer s H E hr,?_⟩)
 ·obtain⟨A,sto,xs,Q3,rs,ex,hS,_⟩:=h
  rw[<- len xs sto Q3 hS];exact(ii ex).symm
 ·obtain⟨A,sto,xs,Q3,rs,ex,hS,k⟩:=h
  have hm:A.length<=sto.length+keep:=by rw[rs.len];omega
  refine⟨A,sY N xs,sto,_,yX.begin rs ex,hb xs sto Q3 hS,⟨λA' H' σ' env' st' g r q=> ?_,k.exit hm,λA' H' σ' env' st' g r q=>q.elim,λA' H' σ' env' st' g r q=>q.elim⟩⟩;exact k.exit hm A' H' st' .non .non g r.rs (.val .non) q
end L3
namespace L3
open PySem PySem.Spec PyProof.Rows L2
section
variable {X:Cx} {scope:Scope} {N' own:List Str} {Ti:uL} {Tg:xW} {tt:x9} {te:zB}
theorem zjO {elt target iter:Expr}{ifs:List Expr}{pos spos pos':Pos}{i0:Nat}{x:Str}(S:sE X scope N' own)(hN:X.N.Nodup)(hi0:X.N[i0]?=some x)(hx:uW X.env.scope x)(hc:X.calm=true)(hi:PI X target iter (rF X.K Ti))
  (hg: ∀C s H fp pins,PG (xF X scope (N'++own) C s H fp pins) target (vE X.K Tg)) (ht: ∀C s H fp pins,PF (xF X scope (N'++own) C s H fp pins) ifs (yU X.K tt)) (he: ∀C s H fp pins,PE (xF X scope (N'++own) C s H fp pins) elt (zK X.K te))
  (hs: ∀x,foldedSetIterable iter X.env x=pure x:=by intro _;rfl) (hsw:swapsWith (.ListComp elt [⟨target,iter,ifs,0⟩] scope pos) (some (.Name x pos')) spos.line X.env=pure true:=by rfl)
  (hf:X.fn x=true∨X.env.scope.names.lookup x=some .local:=by first | exact .inl rfl | exact .inr rfl | assumption):
  PS X (.Assign [.Name x pos'] (.ListComp elt [⟨target,iter,ifs,0⟩] scope pos) spos) (xA X.K (pP (fC own.length Ti Tg tt te) (gN i0))):=by
 refine tI (zjH hN hi0 hx S hc hi hg ht he hs hsw hf) λD σ H h=> ?_;obtain⟨A,env,st,Q3,rel,h,k⟩:=j3 h;exact zfd ⟨A,env,st,Q3,rel,h,λA1 H1 st1 r v g s e q=>j5 (k A1 H1 st1 r v g s e q)⟩
theorem zrz {elt target iter:Expr}{ifs:List Expr}{pos spos pos':Pos}{i0:Nat}{x:Str}(S:sE X scope N' own)(hN:X.N.Nodup)(hi0:X.N[i0]?=some x)(hx:uW X.env.scope x)(hc:X.calm=true)(hi:PI X target iter (rF X.K Ti))
  (hg: ∀C s H fp pins,PG (xF X scope (N'++own) C s H fp pins) target (vE X.K Tg)) (ht: ∀C s H fp pins,PF (xF X scope (N'++own) C s H fp pins) ifs (yU X.K tt)) (he: ∀C s H fp pins,PE (xF X scope (N'++own) C s H fp pins) elt (zK X.K te))
  (hs: ∀x,foldedSetIterable iter X.env x=pure x:=by intro _;rfl) (hsw:swapsWith (.ListComp elt [⟨target,iter,ifs,0⟩] scope pos) (some (.Name x pos')) spos.line X.env=pure true:=by rfl)
  (hf:X.fn x=true∨X.env.scope.names.lookup x=some .local:=by first | exact .inl rfl | exact .inr rfl | assumption):
  PS X (.Assign [.Name x pos'] (.ListComp elt [⟨target,iter,ifs,0⟩] scope pos) spos) (xA X.K (pP (zdX own.length Ti Tg tt te) (gN i0))):=by
 refine tI (zjH hN hi0 hx S hc hi hg ht he hs hsw hf) λD σ H h=> ?_;obtain⟨A,env,st,Q3,rel,h,k⟩:=j3 h;exact zmM ⟨A,env,st,Q3,rel,h,λA1 H1 st1 r v g s e q=>j5 (k A1 H1 st1 r v g s e q)⟩
end
end L3
namespace L3
open PySem PySem.Spec PyProof.Rows L2
def mP (a b c d e:Bool)(n:String):Option Bool:=if n= "int" then some a else if n= "bool" then some b else if n= "str" then some c else if n= "tuple" then some d else if n= "list" then some e else none
def w9:PV->String->Option Bool
 | .bl _,n=>mP true true false false false n
 | .int _,n=>mP true false false false false n
 | .str _,n=>mP false false true false false n
 | .tup _,n=>mP false false false true false n
 | .lst _,n=>mP false false false false true n
 | _,_=>none
def zr8:zQ:=λxs st Q=>match xs with | [x,.ty n]=>(match w9 x n with | some b=>Q (.bl b) st | none=>False) | _=>False
section
variable {X:Cx} {pins:List (Addr×Obj)} {σ:St} {H:Hp} {s:Shared} {A:List Addr}
def iO:zQ:=λxs st Q=>match xs with | [.int i]=>Q (.int i) st | [.bl b]=>Q (.int (if b then 1 else 0)) st | _=>False
theorem oY:w4 X (.type "int") (tO X.K iO):=by
 intro pins s σ H vs us Q I rv ⟨A,st,xs,Q3,rs,ex,h,k⟩;unfold iO at h
 split at h
 ·obtain⟨v,rfl,ex1⟩:=yP.one ex
  cases xH ex1;exact zfc pins s σ H _ us Q I rv (.inl ⟨_,rfl,k.now rs (.val (.int _)) h⟩)
 ·obtain⟨v,rfl,ex1⟩:=yP.one ex
  cases zeW ex1;exact zfc pins s σ H _ us Q I rv (.inr ⟨_,rfl,k.now rs (.val (.int _)) h⟩)
 ·exact h.elim
def zrG:zQ:=λxs st Q=>match xs with | [.int i,.int j]=>Q (.int (if j < i then j else i)) st | _=>False
def zrF:zQ:=λxs st Q=>match xs with | [.int i,.int j]=>Q (.int (if j > i then j else i)) st | _=>False
theorem zdx {K:Frag} : ∀{bs:List Str} {vs:List V},RVs K A H (bs.map PV.str) vs->vs=bs.map V.str
 | [],_,.nil=>rfl
 | b::bs,_,.cons r t=>by cases r;rw[zdx t];rfl
theorem zk6 {K:Frag} : ∀(bs:List Str),RVs K A H (bs.map PV.str) (bs.map V.str)
 | []=> .nil
 | b::bs=> .cons (.str b) (zk6 bs)
theorem ziw {K:Frag} : ∀(bs:List Int),RVs K A H (bs.map PV.int) (bs.map V.int)
 | []=> .nil
 | b::bs=> .cons (.int b) (ziw bs)
def oS:PV->z7->Option (List PV)
 | .lst xs,_=>some xs
 | .obj i,st=>(match st[i]? with | some (.lst xs)=>some xs | _=>none)
 | _,_=>none
theorem ziL {st:z7}{x:PV}{v:V}{xs:List PV}(rs:RS X.K A H st)(ex:RE X.K A H x v)(h:oS x st=some xs): ∃a vs,v= .ref a/\yT X.K H a vs/\RVs X.K A H xs vs/\vs.length<=sizeLine:=by
 cases ex with
 | val e=>
  cases e with
  | lst t z r=>cases h;exact⟨_,_,rfl,t.sq,r,z⟩
  | _=>cases h
 | obj eo=>
  dsimp only[oS]at h
  split at h
  ·rename_i q
   cases h;obtain⟨vs,h1,r,z⟩:=rs.at_ _ _ _ eo q;exact⟨_,_,rfl,.of h1,r,z⟩
  ·cases h
def zwC:zQ:=λxs st Q=>match xs with | [x]=> ∃bs:List Bool,oS x st=some (bs.map PV.bl)/\Q (.bl (bs.all id)) st | _=>False
def tB:z6->PV
 | .inl i=> .int i
 | .inr z=> .str z
def qH:PV->z7->Option (List PV)
 | .lst xs,_=>some xs
 | .tup xs,_=>some xs
 | .obj i,st=>(match st[i]? with | some (.lst xs)=>some xs | some (.dct kvs)=>some (kvs.map λq=>tB q.1) | _=>none)
 | .dct kvs,_=>some (kvs.map λq=>tB q.1)
 | _,_=>none
def zrD:zQ:=λxs st Q=>match xs with | [x]=>(match qH x st with | some ys=>Q (.lst ys) st | none=>False) | _=>False
def zrE:zQ:=λxs st Q=>match xs with | [x]=>(match qH x st with | some ys=>Q (.obj st.length) (st++ [.lst ys]) | none=>False) | _=>False
def zdp:zQ:=λxs st Q=>match xs with | [x]=> ∃ss:List Str,oS x st=some (ss.map PV.str)/\ss.length < 64/\∀ss',ss'.Perm ss->sortedS ss'=true->Q (.lst (ss'.map PV.str)) st | _=>False
theorem zp0:w4 X (.builtin "sorted") (tO X.K zdp):=by
 intro pins s σ H vs us Q I rv ⟨A,st,xs,Q3,rs,ex,h,k⟩;unfold zdp at h
 split at h
 ·obtain⟨v,rfl,ex1⟩:=yP.one ex
  obtain⟨ss,e,hl,h⟩:=h;obtain⟨a,ws,rfl,hs,r,z⟩:=ziL rs ex1 e;cases zdx r;refine zmH pins s σ H _ us Q I rv ⟨a,ss,rfl,hs,hl,λp ss' hp h1 h2=> ?_⟩;exact k.lst rs (zk6 ss') (by rw[ac,h1.length_eq];exact bf (lx hl) (by decide)) (h ss' h1 h2) p hp
 ·exact h.elim
def zkU:zB:=λ_ st Q=>Q (.obj st.length) (st++ [.dct []])
theorem iI {pos:Pos} :PE X (.Dict [] [] pos) (zK X.K zkU):=xL zcP λσ H Q ⟨A,env,st,Q3,rel,h,k⟩=>k.dctO rel.rs .nil (dg _) h
def qK:PV->Option (z6×PV)
 | .tup [x,y]=>(match wM x with | some k=>some (k,y) | none=>none)
 | _=>none
def uD (kvs more:List (z6×PV)):List (z6×PV):=more.foldl (λacc kv=>xP acc kv.1 kv.2) kvs
theorem RKs.merge {K:Frag} : ∀{b:List (z6×PV)} {d:List (z6×V)} {a:List (z6×PV)} {c:List (z6×V)},RKs K A H a c->RKs K A H b d->RKs K A H (uD a b) (vS c d)
 | _,_,_,_,h,.nil=>h
 | _,_,a,c,h,.cons (k:=k) (x:=x) (v:=v) r t=>RKs.merge (a:=xP a k x) (c:=wC c k v) (RKs.put r h) t
theorem RVs.two {K:Frag}{x y:PV}{vs:List V}(h:RVs K A H [x,y] vs): ∃v w,vs= [v,w]/\RV K A H x v/\RV K A H y w:=by
 cases h with
 | cons r t=>cases t with
  | cons r2 t2=>cases t2;exact⟨_,_,rfl,r,r2⟩
theorem iC: ∀{xs:List PV} {vs:List V} {ps:List (z6×PV)},RVs X.K A H xs vs->xs.map qK=ps.map some->∃as us,vs=as.map V.ref/\kN X.K H as us/\RKs X.K A H ps us
 | [],_,[],.nil,_=>⟨[],[],rfl,.nil,.nil⟩
 | [],_,_::_,.nil,h=>by cases h
 | _::_,_,[],.cons _ _,h=>by cases h
 | x::xs,_,p::ps,.cons r t,h=>by
  rw[am,am]at h;obtain⟨h1,h2⟩:=vm h;obtain⟨as,us,rfl,hp,hk⟩:=iC t h2;unfold qK at h1
  split at h1
  ·rename_i k0 y0
   split at h1
   ·rename_i kk ek
    cases h1;cases r with | tup t' z' r'=>
     obtain⟨w1,w2,rfl,ra,rc⟩:=RVs.two r';have e1:=tT (.val ra) ek;subst e1;exact⟨_::as,(kk,_)::us,rfl,.cons t'.sq hp,.cons rc hk⟩
   ·cases h1
  ·cases h1
def zdb:zQ:=λxs st Q=>match xs with | [.tup ys]=> ∃ps,ys.map qK=ps.map some/\Q (.dct (uD [] ps)) st | _=>False
theorem zcD {us:List (z6×V)}{n:Nat}(h:us.length<=n):(vS [] us).length<=n:=by
 have:=oR us [];simp only[kq,we]at this;exact bf this h
theorem zpq (hc:X.calm=true):w4 X (.type "dict") (tO X.K zdb):=by
 intro pins s σ H vs us Q I rv ⟨A,st,xs,Q3,rs,ex,h,k⟩;unfold zdb at h
 split at h
 ·obtain⟨v,rfl,ex1⟩:=yP.one ex
  obtain⟨ps,e,h⟩:=h;cases ex1 with | val e1=>cases e1 with | tup t z r=>
   obtain⟨as,ks,rfl,hp,hk⟩:=iC r e;have hl:ks.length<=sizeLine:=by rw[<- ii hp];rw[ac]at z;exact z
   exact zm_ hc pins s σ H _ us Q I rv ⟨_,as,ks,rfl,t.sq,hp,k.dct rs (RKs.merge .nil hk) (zcD hl) h⟩
 ·exact h.elim
end
end L3
namespace L3
open PySem PySem.Spec PyProof.Rows L2
def sO:PV->z7->String
 | .lst _,_=> "list"
 | .dct _,_=> "dict"
 | .str _,_=> "str"
 | .obj i,st=>(match st[i]? with | some (.lst _)=> "list" | some (.dct _)=> "dict" | _=> "")
 | _,_=> ""
def rG (K:Frag)(R:PV->zQ):V->List V->Hp->VK->Prop:=λv vs H Q=> ∃A st x xs Q3,RS K A H st/\RE K A H x v/\yP K A H xs vs/\R x xs st Q3/\xQ K A H Q3 Q
def vBM (T:String)(R:PV->zQ)(To:zB)(TA:yE):zB:=λenv st Q=>To env st λx st1=>sO x st1=T/\TA env st1 λxs st2=>R x xs st2 Q
def zkT (T:String)(R:PV->zQ)(To:zB):zB:=λenv st Q=>To env st λx st1=>sO x st1=T/\R x [] st1 Q
section
variable {X:Cx} {o e:Expr} {es:List Expr} {apos cpos:Pos} {To:zB} {TA:yE} {T id:String} {name:Str} {R:PV->zQ}
theorem zkR {K:Frag}{A:List Addr}{H:Hp}{st:z7}{x:PV}{v:V}(rs:RS K A H st)(ex:RE K A H x v)(h:sO x st=T)(hT:T≠ ""):fA K T v H:=by
 subst h;cases ex with
 | val e=>
  cases e with
  | lst t z r=>exact .inl ⟨rfl,_,t.sq⟩
  | dct t z r=>exact .inr (.inr (.inl ⟨rfl,.inl ⟨_,t.1⟩⟩))
  | str z=>exact rfl
  | _=>exact absurd rfl hT
 | obj eo=>
  dsimp only[sO]at hT⊢
  split
  ·rename_i q
   obtain⟨vs,h1,r,z⟩:=rs.at_ _ _ _ eo q;exact .inl ⟨rfl,_,.of h1⟩
  ·rename_i q
   obtain⟨vs,h1,r,z⟩:=rs.at_ _ _ _ eo q;exact .inr (.inr (.inl ⟨rfl,.inl ⟨_,h1⟩⟩))
  ·exfalso
   split at hT
   ·rename_i n1 n2 _ _ q;exact n1 _ q
   ·rename_i n1 n2 _ _ q;exact n2 _ q
   ·exact hT rfl
theorem wO (pa:PlainAttrs T)(slot:Slot T name id)(hty:typeOf (.builtin id)=pure (.type "method_descriptor"))(hT:T≠ "")(hm:uX X id (rG X.K R))(ho:PE X o (zK X.K To))(ha:PA X (e::es) (vD X.K TA))
  (hbase:attributeBase o name X.env (eval o X.env)=eval o X.env:=by rfl)
  (hfew:((backTo cpos (starEach (e::es) X.env)).all (λx=> !x.1)&&(backToKw cpos (keywordEach [] X.env)).all (λx=>x.1.isSome)
   &&decide ((e::es).length+([]:List Keyword).length+(if([]:List Keyword).isEmpty then 0 else 1) < 30))=true:=by rfl)
  (hline:(apos.endLine==cpos.line)=true:=by rfl) (hs:starEach (e::es) X.env=(false,eval e X.env)::starEach es X.env:=by rfl) (hplain:(backTo cpos (starEach es X.env)).any (·.1)=false:=by rfl):
  PE X (.Call (.Attribute o name apos) (e::es) [] cpos) (zK X.K (vBM T R To TA)):=
 xL (zqt pa slot hty hm ho ha hbase hfew hline hs hplain) λσ H Q ⟨A,env,st,Q3,rel,h,k⟩=>⟨A,env,st,_,rel,h,λA1 H1 st1 x v g1 s1 e1 h1=>⟨zkR s1 e1 h1.1 hT,A1,env,st1,_,rel.grow g1 s1,h1.2,λA2 H2 st2 xs vs g2 s2 e2 h2=>
  ⟨A2,st2,x,xs,Q3,s2,e1.grow g2,e2,h2,k.after (g1.trans g2)⟩⟩⟩
theorem zrm (pa:PlainAttrs T)(slot:Slot T name id)(hty:typeOf (.builtin id)=pure (.type "method_descriptor"))(hT:T≠ "")(hm:uX X id (rG X.K R))(ho:PE X o (zK X.K To))
  (hbase:attributeBase o name X.env (eval o X.env)=eval o X.env:=by rfl) (hline:(apos.endLine==cpos.line)=true:=by rfl):PE X (.Call (.Attribute o name apos) [] [] cpos) (zK X.K (zkT T R To)):=
 xL (zqu pa slot hty hm ho hbase hline) λσ H Q ⟨A,env,st,Q3,rel,h,k⟩=>⟨A,env,st,_,rel,h,λA1 H1 st1 x v g1 s1 e1 h1=>⟨zkR s1 e1 h1.1 hT,A1,st1,x,[],Q3,s1,e1,.nil,h1.2,k.after g1⟩⟩
def iM:PV->zQ:=λx xs st Q=>match x,xs with
 | .obj i,[y]=>(match st[i]? with | some (.lst zs)=>yR y=true/\zs.length < sizeLine/\Q .non (st.set i (.lst (zs++ [y]))) | _=>False)
 | _,_=>False
theorem tG:uX X "list.append" (rG X.K iM):=by
 intro pins s σ H v vs vv us Q I rv rvs ⟨A,st,x,xs,Q3,rs,ex,exs,h,k⟩;unfold iM at h
 split at h
 ·rename_i i y
  obtain⟨w,rfl,ey⟩:=yP.one exs;cases ex with
  | val e=>cases e
  | obj eo=>
   have hm:=ck eo
   split at h
   ·rename_i zs q
    obtain⟨ws,h1,r,z⟩:=rs.at_ _ _ _ eo q;obtain⟨hn,hl,h⟩:=h;rw[r.len]at hl;refine zoS pins s σ H _ _ vv us Q I rv rvs ⟨_,ws,w,rfl,rfl,h1,hl,k A _ _ _ _ (.put hm) (rs.put (q:= .lst (zs++ [y])) eo ⟨_,yO,(r.grow (.put hm)).append (.cons ((ey.rv hn).grow (.put hm)) .nil),?_⟩) (.val .non) h⟩;rw[ai,bw];exact hl
   ·exact h.elim
 ·exact h.elim
def zdf:PV->zQ:=λx xs st Q=>match x,xs with
 | .obj i,[.lst ys]=>(match st[i]? with | some (.lst zs)=>zs.length+ys.length<=sizeLine/\Q .non (st.set i (.lst (zs++ys))) | _=>False)
 | _,_=>False
theorem zjf:uX X "list.extend" (rG X.K zdf):=by
 intro pins s σ H v vs vv us Q I rv rvs ⟨A,st,x,xs,Q3,rs,ex,exs,h,k⟩;unfold zdf at h
 split at h
 ·rename_i i ys
  obtain⟨w,rfl,ey⟩:=yP.one exs;cases ex with
  | val e=>cases e
  | obj eo=>
   have hm:=ck eo
   split at h
   ·rename_i zs q
    obtain⟨ws,hH,r,z⟩:=rs.at_ _ _ _ eo q;obtain⟨hl,h⟩:=h;cases ey with | val ey=>cases ey with | lst t z2 r2=>
     cases rv;obtain⟨u,rfl,ru⟩:=zJ.one rvs;cases ru;obtain⟨zz,its,n,rr,hl1,e⟩:=I.lstM hH;obtain⟨its2,n2,rr2,e2,_⟩:=I.listX t.sq;have hl2:=rr2.length;have e3:=r.len;have e4:=r2.len;have hsz:its.toArray.size+its2.toArray.size<=sizeLine:=by rw[be,be];omega
     have hlong: ¬ (!its.toArray.isEmpty&&Builtin.List.listTooLong (its.toArray.size+its2.toArray.size))=true:=by
      rw[zpn hsz,xq];exact dm
     refine lm F.slot_list_extend ⟨_,e,rfl⟩ F.entry_list_extend (F.args_list_extend_2 _ _)
      (AutoSeq1.list_extend_list_list_0 _ its.toArray n _ its2.toArray n2 hlong (by rw[be];omega) (by omega)) ⟨e,e2,?_⟩
     refine⟨.non,_,I.lset (its':=its++its2) hH e (by simp) (rr.append rr2) ?_,rfl,k A _ _ _ _ (.put hm) (rs.put (q:= .lst (zs++ys)) eo ⟨_,yO,(r.grow (.put hm)).append (r2.grow (.put hm)),?_⟩) (.val .non) h⟩
     ·rw[ai];omega
     ·rw[ai];omega
   ·exact h.elim
 ·exact h.elim
def zdl:PV->zQ:=λx xs st Q=>match x,xs with
 | .obj i,[]=>(match st[i]? with | some (.lst zs)=>(match zs.getLast? with | some y=>Q y (st.set i (.lst zs.dropLast)) | none=>False) | _=>False)
 | _,_=>False
theorem RVs.last {K:Frag}{A:List Addr}{H:Hp}{xs:List PV}{vs:List V}{y:PV}(r:RVs K A H xs vs)(h:xs.getLast?=some y): ∃w,vs[vs.length - 1]?=some w/\RV K A H y w:=by
 rw[List.getLast?_eq_getElem?,r.len]at h;exact r.get h
theorem RVs.front {K:Frag}{A:List Addr}{H:Hp}{xs:List PV}{vs:List V}(r:RVs K A H xs vs):RVs K A H xs.dropLast vs.dropLast:=by
 rw[um,um,r.len];exact r.take _
theorem zpw:uX X "list.pop" (rG X.K zdl):=by
 intro pins s σ H v vs vv us Q I rv rvs ⟨A,st,x,xs,Q3,rs,ex,exs,h,k⟩;unfold zdl at h
 split at h
 ·cases exs
  cases ex with
  | val e=>cases e
  | obj eo=>
   have hm:=ck eo
   split at h
   ·rename_i zs q
    obtain⟨ws,h1,r,z⟩:=rs.at_ _ _ _ eo q
    split at h
    ·rename_i y e
     obtain⟨w,ew,rw'⟩:=r.last e;refine zoU pins s σ H _ _ vv us Q I rv rvs ⟨_,ws,w,rfl,rfl,h1,ew,k A _ _ _ _ (.put hm) (rs.put (q:= .lst zs.dropLast) eo ⟨_,yO,(r.front).grow (.put hm),?_⟩) (.val (rw'.grow (.put hm))) h⟩;rw[uw];omega
    ·exact h.elim
   ·exact h.elim
 ·exact h.elim
def sK:PV->z7->Option (List (z6×PV))
 | .dct kvs,_=>some kvs
 | .obj i,st=>(match st[i]? with | some (.dct kvs)=>some kvs | _=>none)
 | _,_=>none
theorem zft {K:Frag}{A:List Addr}{H:Hp}{st:z7}{x:PV}{v:V}{kvs:List (z6×PV)}(rs:RS K A H st)(ex:RE K A H x v)(h:sK x st=some kvs): ∃a us,v= .ref a/\H a=some (.dK us)/\RKs K A H kvs us/\us.length<=sizeLine:=by
 cases ex with
 | val e=>
  cases e with
  | dct t z r=>cases h;exact⟨_,_,rfl,t.1,r,z⟩
  | _=>cases h
 | obj eo=>
  dsimp only[sK]at h
  split at h
  ·rename_i q
   cases h;obtain⟨vs,h1,r,z⟩:=rs.at_ _ _ _ eo q;exact⟨_,_,rfl,h1,r,z⟩
  ·cases h
def zwD:PV->zQ:=λx xs st Q=>match sK x st,xs with
 | some kvs,[y]=>(match wM y with | some k=>Q ((zI kvs k).getD .non) st | none=>False)
 | some kvs,[y,z]=>(match wM y with | some k=>yR z=true/\Q ((zI kvs k).getD z) st | none=>False)
 | _,_=>False
def zdg:PV->zQ:=λx xs st Q=>match x,xs with
 | .str sep,[y]=> ∃ss:List Str,oS y st=some (ss.map PV.str)/\(ss.map (·.length)).sum+ss.length * sep.length<=16777216/\Q (.str (Txt.join sep ss)) st
 | _,_=>False
theorem zpu:uX X "str.join" (rG X.K zdg):=by
 intro pins s σ H v vs vv us Q I rv rvs ⟨A,st,x,xs,Q3,rs,ex,exs,h,k⟩;unfold zdg at h
 split at h
 ·obtain⟨w,rfl,ey⟩:=yP.one exs
  cases sB ex;obtain⟨ss,e,hl,h⟩:=h;obtain⟨a,ws,rfl,hs,r,z⟩:=ziL rs ey e;cases zdx r;exact zoT pins s σ H _ _ vv us Q I rv rvs ⟨_,a,ss,rfl,rfl,hs,hl,k.now rs (.val (.str _)) h⟩
 ·exact h.elim
def xD:PV->Bool
 | .non=>true
 | .bl _=>true
 | .int _=>true
 | .str _=>true
 | _=>false
def yF (x:PV)(ys:List PV):Bool:=ys.any λy=>y6 y x
theorem zcu {K:Frag}{A:List Addr}{H:Hp}{x:PV}{v:V}(r:RV K A H x v):sN v=xD x:=by
 cases r <;> rfl
theorem zcv {K:Frag}{A:List Addr}{H:Hp} : ∀{xs:List PV} {vs:List V},RVs K A H xs vs->vs.all sN=xs.all xD
 | _,_,.nil=>rfl
 | _,_,.cons r t=>by rw[ki,ki,zcu r,zcv t]
theorem znq {K:Frag}{A:List Addr}{H:Hp}{x y:PV}{v w:V}(r:RV K A H x v)(r2:RV K A H y w)(f:xD x=true)(f2:xD y=true):sM v w=y6 x y:=by
 cases r <;> first | (exact absurd f dm) | skip
 all_goals (cases r2 <;> first | (exact absurd f2 dm) | skip)
 all_goals (unfold sM y6;rfl)
theorem zc0 {K:Frag}{A:List Addr}{H:Hp}{x:PV}{v:V}(r:RV K A H x v)(f:xD x=true): ∀{xs:List PV} {vs:List V},RVs K A H xs vs->xs.all xD=true->qG v vs=yF x xs
 | _,_,.nil,_=>rfl
 | _,_,.cons r1 t,h=>by
  rw[ki,fb]at h;have ih:=zc0 r f t h.2;unfold qG yF at ih⊢
  rw[ij,ij,ih,znq r1 r h.1 f]
def wX:PV->z7->Option (List PV)
 | .tup xs,_=>some xs
 | .lst xs,_=>some xs
 | .obj i,st=>(match st[i]? with | some (.lst xs)=>some xs | _=>none)
 | _,_=>none
def xJ (neg:Bool):R3:=λx y st Q=>match wX y st with
 | some xs=>(xD x=true/\xs.all xD=true)/\Q (.bl (if neg then !yF x xs else yF x xs)) st
 | none=>(match sK y st with
  | some kvs=>(match wM x with | some k=>Q (.bl (if neg then !(zI kvs k).isSome else(zI kvs k).isSome)) st | none=>False)
  | none=>(match x,y with | .str i,.str j=>Q (.bl (if neg then !(!(Builtin.Str.occurrences j i 0 j.length 1).isEmpty)else !(Builtin.Str.occurrences j i 0 j.length 1).isEmpty)) st | _,_=>False))
theorem zkm {K:Frag}{A:List Addr}{H:Hp}{st:z7}{x:PV}{v:V}{xs:List PV}(rs:RS K A H st)(ex:RE K A H x v)(h:wX x st=some xs): ∃a vs,v= .ref a/\(yT K H a vs∨xI K H a vs)/\RVs K A H xs vs:=by
 cases ex with
 | val e=>
  cases e with
  | lst t z r=>cases h;exact⟨_,_,rfl,.inl t.sq,r⟩
  | tup t z r=>cases h;exact⟨_,_,rfl,.inr t.sq,r⟩
  | _=>cases h
 | obj eo=>
  dsimp only[wX]at h
  split at h
  ·rename_i q
   cases h;obtain⟨vs,h1,r,z⟩:=rs.at_ _ _ _ eo q;exact⟨_,_,rfl,.inl (.of h1),r⟩
  ·cases h
theorem zid {x:PV}(h:xD x=true):yR x=true:=by
 cases x <;> first | rfl | cases h
theorem pC {k:Nat}(hr:zL k X.A):yA X (compareOp .In) (xN X.K (xJ false)):=uF λpins s σ H A st x y v w vv ww Q3 Q I rs ex ey rv rw h k=>by
 have hu:X.A.units+1 < cLine:=by have:=hr.units;omega
 unfold xJ at h
 split at h
 ·rename_i xs e
  obtain⟨a,ws,rfl,hs,r⟩:=zkm rs ey e;obtain⟨⟨f1,f2⟩,h⟩:=h;have ex':=ex.rv (zid f1);refine zqd pins s σ H _ _ vv ww Q I rv rw ⟨a,ws,rfl,hs,by rw[zcu ex'];exact f1,by rw[zcv r];exact f2,?_⟩;have e2:=zc0 ex' f1 r f2;have:(if false=true then !qG v ws else qG v ws)=yF x xs:=by rw[if_neg dm,e2]
  rw[this];exact k.now rs (.val (.bl _)) h
 ·split at h
  ·rename_i kvs e
   obtain⟨a,us,rfl,h1,r,z⟩:=zft rs ey e
   split at h
   ·rename_i kk ek
    cases rw;refine zmY hu I (.inl ⟨us,kk,.inl h1,tT ex ek,rfl⟩) rv λs' I'=>⟨.bl _,H,I',rfl,?_⟩;rcases r.val (k:=kk)with⟨x',v',e1,e2,r'⟩ | ⟨e1,e2⟩
    ·rw[e2];rw[e1]at h;exact k.now rs (.val (.bl _)) h
    ·rw[e2];rw[e1]at h;exact k.now rs (.val (.bl _)) h
   ·exact h.elim
  ·split at h
   ·cases sB ex;cases sB ey
    exact zqe pins s σ H _ _ vv ww Q I rv rw ⟨_,_,rfl,rfl,k.now rs (.val (.bl _)) h⟩
   ·exact h.elim
theorem n9 {k:Nat}(hr:zL k X.A):yA X (compareOp .NotIn) (xN X.K (xJ true)):=uF λpins s σ H A st x y v w vv ww Q3 Q I rs ex ey rv rw h k=>by
 have hu:X.A.units+1 < cLine:=by have:=hr.units;omega
 unfold xJ at h
 split at h
 ·rename_i xs e
  obtain⟨a,ws,rfl,hs,r⟩:=zkm rs ey e;obtain⟨⟨f1,f2⟩,h⟩:=h;have ex':=ex.rv (zid f1);refine zqi pins s σ H _ _ vv ww Q I rv rw ⟨a,ws,rfl,hs,by rw[zcu ex'];exact f1,by rw[zcv r];exact f2,?_⟩;have e2:=zc0 ex' f1 r f2;have:(if true=true then !qG v ws else qG v ws)= !yF x xs:=by rw[if_pos rfl,e2]
  rw[this];exact k.now rs (.val (.bl _)) h
 ·split at h
  ·rename_i kvs e
   obtain⟨a,us,rfl,h1,r,z⟩:=zft rs ey e
   split at h
   ·rename_i kk ek
    cases rw;refine zna hu I (.inl ⟨us,kk,.inl h1,tT ex ek,rfl⟩) rv λs' I'=>⟨.bl _,H,I',rfl,?_⟩;rcases r.val (k:=kk)with⟨x',v',e1,e2,r'⟩ | ⟨e1,e2⟩
    ·rw[e2];rw[e1]at h;exact k.now rs (.val (.bl _)) h
    ·rw[e2];rw[e1]at h;exact k.now rs (.val (.bl _)) h
   ·exact h.elim
  ·split at h
   ·cases sB ex;cases sB ey
    exact zqj pins s σ H _ _ vv ww Q I rv rw ⟨_,_,rfl,rfl,k.now rs (.val (.bl _)) h⟩
   ·exact h.elim
end
end L3
namespace L3
open PySem PySem.Spec PyProof.Rows L2
section
variable {X:Cx} {o:Expr} {To:zB} {p ap cp pos:Pos}
end
end L3
namespace L3
open PySem PySem.Spec PyProof.Rows L2
theorem at0 {α:Type}{x:α}{xs:List α} :atI (x::xs) 0=some x:=vM (j:=0) rfl
theorem at1 {α:Type}{x y:α}{xs:List α} :atI (x::y::xs) 1=some y:=vM (j:=1) rfl
theorem at2 {α:Type}{x y z:α}{xs:List α} :atI (x::y::z::xs) 2=some z:=vM (j:=2) rfl
theorem at3 {α:Type}{x y z u:α}{xs:List α} :atI (x::y::z::u::xs) 3=some u:=vM (j:=3) rfl
theorem at4 {α:Type}{x y z u v:α}{xs:List α} :atI (x::y::z::u::v::xs) 4=some v:=vM (j:=4) rfl
theorem ix0 {n:Nat} :wA (n+1) 0=some 0:=by unfold wA;rw[if_pos (by decide),if_pos (by omega)];rfl
theorem ix1 {n:Nat} :wA (n+2) 1=some 1:=by unfold wA;rw[if_pos (by decide),if_pos (by omega)];rfl
theorem ztl {α:Type}{st:List α} :st.take (st.length+0)=st:=by simp
theorem f7 {α:Type}{st:List α}{i:Nat}{x:α} :(st.set i x).take (st.length+0)=st.set i x:=by rw[Nat.add_zero,bz (by simp)]
theorem set_set {α:Type}{st:List α}{i:Nat}{x y:α} :(st.set i x).set i y=st.set i y:=by simp
theorem tS {α:Type}{st:List α}{i:Nat}{x y:α}(h:st[i]?=some y):(st.set i x)[i]?=some x:=gu (ad.mp h).1
end L3
namespace L3
open PySem PySem.Spec PyProof.Rows L2
theorem zec {p:z6×PV}{r:List (z6×PV)}{k:z6}(e:p.1=k):zI (p::r) k=some p.2:=by simp[zI,ci,e]
theorem zeb {p:z6×PV}{r:List (z6×PV)}{k:z6}(e: ¬ p.1=k):zI (p::r) k=zI r k:=by simp[zI,ci,e]
theorem zln (k:z6): ∀kvs:List (z6×PV),(kvs.any λkv=>decide (kv.1=k))=(zI kvs k).isSome
 | []=>rfl
 | p::r=>by
  rw[ij];by_cases e:p.1=k
  ·rw[zec e,decide_eq_true e];rfl
  ·rw[zeb e,decide_eq_false e,zln k r];rfl
def rD (l:List (Str×Int)):PV:= .tup (l.map λq=> .tup [.str q.1,.int q.2])
theorem znD {α:Type}{st:List α}{i:Nat}{x:α}(h:(st[i]?).isSome=true):(st.set i x)[i]?=some x:=by
 obtain⟨y,e⟩:=qj.mp h;exact tS e
theorem zny {Q:K3}{st:z7}{x:PO} :xE (st.length+1) Q (.obj st.length) (st++ [x])=Q (.obj st.length) (st++ [x]):=by
 show(if st.length < st.length+1 then _ else _)=_;rw[if_pos (nc _),bz (by simp)]
theorem jB {Q:K3}{st:z7}{xs:List PV} :xE (st.length+0) Q (.obj st.length) (st++ [.lst xs])=Q (.lst xs) st:=by
 show(if st.length < st.length+0 then _ else _)=_;rw[if_neg (by omega)];have:(st++ [PO.lst xs])[st.length]?=some (.lst xs):=by simp
 rw[this];simp
theorem zfA {Q:K3}{st:z7}{xs:List (z6×PV)} :xE (st.length+0) Q (.obj st.length) (st++ [.dct xs])=Q (.dct xs) st:=by
 show(if st.length < st.length+0 then _ else _)=_;rw[if_neg (by omega)];have:(st++ [PO.dct xs])[st.length]?=some (.dct xs):=by simp
 rw[this];simp
theorem o6 {α:Type}(f:α->PV){ns:List α}{k:Int}(h0:0<=k)(h1:k < ns.length): ∃z∈ns,atI (ns.map f) k=some (f z):=by
 obtain⟨y,hy,e⟩:=zmo (ns.map f) h0 (by simpa using h1);obtain⟨z,hz,rfl⟩:=bv.mp hy;exact⟨z,hz,e⟩
theorem tV {α:Type}{st:List α}{x:α} :(st++ [x])[st.length]?=some x:=by simp
theorem pM {α:Type}{st:List α}{x y:α} :(st++ [x]).set st.length y=st++ [y]:=by simp
theorem zdM {α:Type}{st:List α}{x:α} :(st++ [x]).take (st.length+0)=st:=by simp
theorem ztk {α:Type}{st:List α}{x:α} :(st++ [x]).take (st.length+1)=st++ [x]:=by rw[bz (by simp)]
end L3
namespace L3
open PySem PySem.Spec PyProof.Rows L2
theorem rO {α:Type}{e:List α}(h:e.length=1): ∃a,e= [a]:=List.length_eq_one_iff.mp h
def CP (f:PV->Option PV)(own:Nat)(xs:List PV)(env:zG)(st:z7)(i:Nat)(ys:List PV)(env':zG)(st':z7):Prop:=ys=(xs.take i).filterMap f/\st'=st/\∃e',e'.length=own/\env'=env++e'
theorem nS {α:Type}{xs:List α}{i:Nat}{x:α}(h:xs[i]?=some x):xs.take (i+1)=xs.take i++ [x]:=by rw[xt,h];rfl
theorem CP.yes {f:PV->Option PV}{own:Nat}{xs:List PV}{env:zG}{st:z7}{i:Nat}{x y:PV}{e':zG}(h:xs[i]?=some x)(hf:f x=some y)(he:e'.length=own):CP f own xs env st (i+1) ((xs.take i).filterMap f++ [y]) (env++e') st:=by
 refine⟨?_,rfl,e',he,rfl⟩;rw[nS h,ia,bx,hf];rfl
theorem CP.no {f:PV->Option PV}{own:Nat}{xs:List PV}{env:zG}{st:z7}{i:Nat}{x:PV}{e':zG}(h:xs[i]?=some x)(hf:f x=none)(he:e'.length=own):CP f own xs env st (i+1) ((xs.take i).filterMap f) (env++e') st:=by
 refine⟨?_,rfl,e',he,rfl⟩;rw[nS h,ia,bx,hf];simp
theorem rJ {own:Nat}{g:xW}{tt:x9}{el:zB}{xs:List PV}{Q:List PV->z7->Prop}{env:zG}{st:z7}(f:PV->Option PV)
  (hs: ∀i x e,xs[i]?=some x->e.length=own->g x (env++e) st λe1 s1=>tt e1 s1 λb s2=>if b=true then el e1 s2 λy s3=>yR y=true/\CP f own xs env st (i+1) ((xs.take i).filterMap f++ [y]) e1 s3 else CP f own xs env st (i+1) ((xs.take i).filterMap f) e1 s2)
  (hd:Q (xs.filterMap f) st):pU own g tt el none xs Q env st:=by
 refine⟨CP f own xs env st,⟨by simp,rfl,_,by simp,rfl⟩,?_,?_⟩
 ·rintro i x ys env' st' hx ⟨rfl,rfl,e',he,rfl⟩
  exact hs i x e' hx he
 ·rintro ys env' st' ⟨rfl,rfl,e',he,rfl⟩
  show Q _ _;rw[bz (ao _)];exact hd
theorem vQ {g:xW}{b:yQ}{src:xO}{xs:List PV}{D:xM}{env:zG}{st:z7}(P:Nat->zG->z7->Prop)(h0:P 0 env st)
  (hs: ∀i x env st,xs[i]?=some x->P i env st->tK src st (g x env st λe s=>b {D with nx:=P (i+1),ct:=P (i+1),bk:=D.nx} e s)) (hd: ∀env st,P xs.length env st->tK src st (D.nx env st)):fM g b src xs D env st:=⟨P,h0,hs,hd⟩
theorem wV {α:Type}{f:α->PV}{l:List α}{i:Nat}{x:PV}(h:(l.map f)[i]?=some x): ∃y,l[i]?=some y/\x=f y:=by
 rw[cg]at h;cases e:l[i]? with
 | none=>rw[e]at h;cases h
 | some y=>rw[e]at h;exact⟨y,rfl,(ce h).symm⟩
theorem znu {x:PV}{Q:K3}{st:z7}{i:Nat}{o:PO}(h:yR x=true)(q:Q x (st.set i o)):xE (st.length+0) Q x (st.set i o):=by
 cases x with
 | obj i=>cases h
 | _=>show Q _ ((st.set i o).take (st.length+0));rw[f7];exact q
theorem zfz {α:Type}{f:α->PV}{n:Nat}(h: ∀x,zE (f x)<=n): ∀(l:List α),dpts (l.map f)<=n
 | []=>by rw[ic];unfold dpts;exact dg _
 | x::l=>by
  rw[am];unfold dpts;exact Nat.max_le.mpr ⟨h x,zfz h l⟩
theorem zfv (l:List (Str×Int)):zE (rD l)<=2:=by
 unfold rD zE;exact xg (zfz (λq=>by simp[zE,dpts]) l)
end L3
namespace L3
open PySem PySem.Spec PyProof.Rows L2
theorem zd7 {α:Type}{st:List α}{i:Nat}{x o:α}(h:i < st.length):(st++ [o]).set i x=st.set i x++ [o]:=by rw[List.set_append_left _ _ h]
theorem jJ {α:Type}{st:List α}{i:Nat}{x o:α}(h:st[i]?=some x):(st++ [o])[i]?=some x:=by rw[bo (ad.mp h).1];exact h
end L3
namespace L3
open PySem PySem.Spec PyProof.Rows L2
theorem tZ {t u:yQ}{D:xM}{env:zG}{st:z7}(P:zG->z7->Prop)(h1: ∀N:zG->z7->Prop,(∀e s,P e s->N e s)->t {D with nx:=N} env st)(h2: ∀e s,P e s->u D e s):vY t u D env st:=h1 (u D) h2
theorem u9:(∀{i j:Int},y6 (.int i) (.int j)=(i==j))/\(∀{a b:Str},y6 (.str a) (.str b)=(a==b))/\(∀{a b:Bool},y6 (.bl a) (.bl b)=(a==b))/\(y6 .non .non=true)/\(∀{a b:List PV},y6 (.tup a) (.tup b)=eqPs a b)/\(∀{a b:List PV},y6 (.lst a) (.lst b)=eqPs a b)/\(∀{i:Int},y6 (.int i) .non=false)/\(∀{i:Str},y6 (.str i) .non=false)/\(∀{i:List PV},y6 (.tup i) .non=false)/\(∀{i:Int},y6 .non (.int i)=false)/\(∀{i:Str},y6 .non (.str i)=false)/\(∀{i:List PV},y6 .non (.tup i)=false)/\(∀{a:List PV} {b:Str},y6 (.tup a) (.str b)=false)/\(∀{a:List PV} {b:Str},y6 (.str b) (.tup a)=false)/\(eqPs [] []=true)/\(∀{x xs},eqPs (x::xs) []=false)/\(∀{x xs},eqPs [] (x::xs)=false)/\(∀{x xs y ys},eqPs (x::xs) (y::ys)=(y6 x y&&eqPs xs ys)):=by
 refine⟨?_,?_,?_,?_,?_,?_,?_,?_,?_,?_,?_,?_,?_,?_,?_,?_,?_,?_⟩ <;> intros <;> first | rfl | (unfold y6;rfl) | (unfold eqPs;rfl)
theorem zfw:(zE .non=0)/\(∀{i},zE (.int i)=0)/\(∀{i},zE (.str i)=0)/\(∀{i},zE (.bl i)=0)/\(∀{i},zE (.tup i)=dpts i+1)/\(∀{i},zE (.lst i)=dpts i+1)/\(dpts []=0)/\(∀{x xs},dpts (x::xs)=max (zE x) (dpts xs)):=by
 refine⟨?_,?_,?_,?_,?_,?_,?_,?_⟩ <;> intros <;> first | rfl | (unfold zE;rfl) | (unfold dpts;rfl)
theorem zfx (l:List (Str×Int)):zE (rD l)<=50:=bf (zfv l) (by decide)
theorem zfy (l:List (Str×Int)):zE (rD l) < 1000:=ky (zfv l) (by decide)
end L3
namespace L3
open PySem PySem.Spec PyProof.Rows L2
def zlc:yQ:=λ_ _ _=>False
section
variable {X:Cx}
theorem uG {st:Stmt} :PS X st (xA X.K zlc):=tI zqY λD σ H ⟨A,env,s,D3,rel,h,k⟩=>h
theorem zm8 (n:Nat):sliceBounds none none (some (-1)) n=((n:Int) - 1,-1,-1):=by
 simp[sliceBounds]
theorem zrO (n:Nat):sliceRange ((n:Int) - 1) (-1) (-1)=(List.range n).map λk=>n - 1 - k:=by
 unfold sliceRange;have e:(if(-1:Int) > 0 then(if(n:Int) - 1 < -1 then((-1:Int) - ((n:Int) - 1)+ -1 - 1) / -1 else 0)else(if(n:Int) - 1 > -1 then((n:Int) - 1 - -1 - -1 - 1) / (- -1)else 0)).toNat=n:=by
  rw[if_neg (by decide),show(- -1:Int)=1 by decide,vz]
  split <;> omega
 show(List.range ((if(-1:Int) > 0 then(if(n:Int) - 1 < -1 then((-1:Int) - ((n:Int) - 1)+ -1 - 1) / -1 else 0)else(if(n:Int) - 1 > -1 then((n:Int) - 1 - -1 - -1 - 1) / (- -1)else 0)).toNat)).map _=_;rw[e];refine jg λk hk=> ?_;have:=ot.mp hk;omega
theorem zqN (its:List Value):slicePick its.toArray none none (some (-1))=its.reverse.toArray:=by
 unfold slicePick;rw[zm8];dsimp only;rw[zrO]
 congr 1
 have gen: ∀(l:List Value) (n:Nat),n<=l.length->((List.range n).map λk=>n - 1 - k).filterMap (λi=>l.toArray[i]?)=(l.take n).reverse:=by
  intro l n
  induction n with
  | zero=>intro _;simp
  | succ n ih=>
   intro h;rw[mx,am,bt,bx];have h1:l.toArray[n+1 - 1 - 0]?=some l[n]:=by simp
   rw[h1];have e:((λk=>n+1 - 1 - k) ∘ Nat.succ)=λk=>n - 1 - k:=by funext k;show n+1 - 1 - (k+1)=n - 1 - k;omega
   rw[e,ih (by omega),nS (x:=l[n]) (by simp),fo];rfl
 have:=gen its its.toArray.size (by simp);rw[this,bz (by simp)]
def ztd (K:Frag)(te:TE)(tl:TO):TE:=λσ H Q=>te σ H λx H1=>tl σ H1 λl H2=>l=some (-1)/\∃a xs,x= .ref a/\yT K H2 a xs/\∀p,H2 p=none->Q (.ref p) (upd H2 p (.lst xs.reverse))
theorem zq8 {e se:Expr}{te:TE}{tl:TO}{p2 pos:Pos}(he:PE X e te)(hl:L2.PO X (some se) tl):PE X (.Subscript e (.Slice none none (some se) p2) pos) (ztd X.K te tl):=by
 refine⟨λpins s σ H Q I h=> ?_⟩;refine uu (zM (he pins s σ H _ I h) λv s1 ⟨x,H1,I1,r1,q1⟩=> ?_);refine wy ?_;rw[po];refine ah (ah ?_);refine zM (hl pins s1 σ H1 _ I1 q1) λvu s3 ⟨u,H3,I3,pu,hu,a,xs,ex,hx,q⟩=> ?_;subst hu ex;cases r1;have I4:z5 X pins σ H3 {s3 with heap:=s3.heap.push {cls:= .type "slice",data:= .fields #[.none,.none,vu]}} :=I3.kept (t':=s3.toks) λb ob q=>ae _ q;obtain⟨its,r,ht,hz⟩:=I4.list hx;have hlen:=r.length;show ak (ay X.prog X.w) X.A (subscriptTail e (.Slice none none (some se) p2) (.ref a) (.ref s3.heap.objs.size)) (EP X pins σ Q) X.xe {s3 with heap:=s3.heap.push {cls:= .type "slice",data:= .fields #[.none,.none,vu]}};refine xc (ops:= [.ref a,.ref s3.heap.objs.size]) ht.isList.typeIs qa.lookup ?_ (by with_unfolding_all rfl);refine qm ht.isList (oy ..) .none .none pu (by simp) ?_ (by rw[be] <;> omega);rw[zqN];refine⟨.ref _,_,I4.laid (t':=s3.toks) (o:= .lst xs.reverse) (λb ob q=>ae _ q) (ao _) ?_,rfl,q _ (I4.hok.fresh (ao _))⟩;exact⟨by rw[cm];exact hz,its.reverse,0,r.reverse,br _ rfl⟩
def zlg (T:zB)(Tl:t6):zB:=λenv st Q=>T env st λx st1=>Tl env st1 λl st2=>l=some (-1)/\(match x with | .lst xs=>Q (.lst xs.reverse) st2 | _=>False)
theorem zrs {e se:Expr}{Ta:zB}{Tl:t6}{p2 pos:Pos}(he:PE X e (zK X.K Ta))(hl:L2.PO X (some se) (o9 X.K Tl)):PE X (.Subscript e (.Slice none none (some se) p2) pos) (zK X.K (zlg Ta Tl)):=by
 refine xL (zq8 he hl) λσ H Q ⟨A,env,st,Q3,rel,h,k⟩=>⟨A,env,st,_,rel,h,λA1 H1 st1 x v g1 s1 e1 h1=>⟨A1,env,st1,_,rel.grow g1 s1,h1,λA2 H2 st2 l g2 s2 h2=>⟨h2.1,?_⟩⟩⟩;have h3:=h2.2
 split at h3
 ·cases e1.grow g2 with | val e=>cases e with | lst t z r=>
   exact⟨_,_,rfl,t.sq,(k.after (g1.trans g2)).lst s2 r.reverse (by rw[cm];exact z) h3⟩
 ·exact h3.elim
end
end L3
namespace L3
open PySem PySem.Spec PyProof.Rows L2
theorem dH (xs:List PV)(a:Nat):w6 xs (some (a:Int)) none=xs.drop a:=by
 unfold w6;rw[HT.sIx_nat,HT.sIx_none];rcases Nat.le_total a xs.length with h | h
 ·rw[xm h,bz (by rw[ll];exact ao _)]
 ·rw[xh h,ub (ao _),ub h];simp
theorem oA (xs:List PV)(b:Nat):w6 xs none (some (b:Int))=xs.take b:=by
 unfold w6;rw[HT.sIx_nat,HT.sIx_none,xr,Nat.sub_zero];rcases Nat.le_total b xs.length with h | h
 ·rw[xm h]
 ·rw[xh h,bz (ao _),bz h]
end L3
namespace L3
open PySem PySem.Spec PyProof.Rows L2
section
variable {α:Type} [DecidableEq α]
end
section
variable {α:Type} [DecidableEq α]
def both (w:List α)(a b:Nat)(u:List α)(c d:Nat)(v:List α):List α:=w.take a++u++(w.take c).drop b++v++w.drop d
end
section
variable {X:Cx}
theorem zjX {vs:List V}{its:List Value}{acc:Array Value}(r:zJ vs its)(h:ItemsOf (λi v=>its.toArray[its.toArray.size - 1 - i]?=some v) acc its.toArray.size):zJ vs.reverse acc.toList:=by
 have hl:=r.length;have h1:acc.size=its.length:=by simpa using h.1
 have h2:acc.toList.length=acc.size:=fm;refine lY (by rw[cm];omega) λj v x hv hx=> ?_;have hj:j < acc.size:=by have:=(ad.mp hv).1;simpa using this
 have q:=h.2 j v (by simpa using hv);have hj2:j < vs.length:=by omega
 rw[List.getElem?_reverse hj2]at hx;have hk:vs.length - 1 - j < vs.length:=by omega
 obtain⟨u,hu,ru⟩:=r.get (i:=vs.length - 1 - j) (x:=x) hx;rw[be,<- hl]at q;have q2:its[vs.length - 1 - j]?=some v:=by simpa using q
 rw[q2]at hu;cases hu;exact ru
def ztH (T:zB):zB:=λenv st Q=>T env st λx st1=>match x with | .tup xs=>Q (.tup xs.reverse) st1 | _=>False
end
end L3
namespace L3
open PySem PySem.Spec PyProof.Rows L2
section
variable {X:Cx} {a b c:Expr} {pos:Pos} {Tx:yE}
def ztD (i j l:Nat)(T:yE):yQ:=λD env st=>T env st λxs st1=>match xs with | [x,y,z]=>D.nx (((env.set l (some z)).set j (some y)).set i (some x)) st1 | _=>False
end
end L3
namespace L3
open PySem PySem.Spec PyProof.Rows L2
section
variable {X:Cx}
end
end L3
namespace L3
set_option smartUnfolding false
open PySem PySem.Spec PyProof.Rows L2
def xX {α:Type}(o:Option α)(F:α->Prop):Prop:=match o with | some x=>F x | none=>False
section
variable {i j:Int} {a b:Str} {xs ys zs:List PV} {x y z:PV} {n m:Nat} {st:z7} {Q:K3} {p q:Bool} {kvs:List (z6×PV)} {env:zG}
@[simp] theorem zuk:nH (.int i) (.int j) st Q=Q (.int (i+j)) st:=rfl
@[simp] theorem zum:nH (.str a) (.str b) st Q=(a.length+b.length<=sizeLine/\Q (.str (a++b)) st):=rfl
@[simp] theorem zun:nH (.tup xs) (.tup ys) st Q=(xs.length+ys.length<=sizeLine/\Q (.tup (xs++ys)) st):=rfl
@[simp] theorem zul:nH (.lst xs) (.lst ys) st Q=(xs.length+ys.length<=sizeLine/\Q (.lst (xs++ys)) st):=rfl
@[simp] theorem zwk:zdq (.int i) (.int j) st Q=Q (.int (i - j)) st:=rfl
@[simp] theorem zv2:iS (.int i) (.int j) st Q=(((-(2 ^ 64) < i/\i < 2 ^ 64)∨(-(2 ^ 64) < j/\j < 2 ^ 64))/\Q (.int (i * j)) st):=rfl
@[simp] theorem zv3:iS (.str a) (.int i) st Q=(if i=0 then Q (.str Str.empty) st else i=1/\Q (.str a) st):=rfl
@[simp] theorem zv1:zdi (.int i) (.int j) st Q=(0 < j/\Q (.int (i % j)) st):=rfl
@[simp] theorem zu2:zdd (.int i) (.int j) st Q=((0 < j/\j < 1099511627776)/\Q (.int (i / j)) st):=rfl
@[simp] theorem zvV:zdn (.int i) (.int j) st Q=(k7 i j/\Q (.int (i ^ j.toNat)) st):=rfl
@[simp] theorem zv4:zdj (.int i) st Q=Q (.int (-i)) st:=rfl
@[simp] theorem zuy {f:Int->Int->Bool} :pG f (.int i) (.int j) st Q=Q (.bl (f i j)) st:=rfl
@[simp] theorem zuU:zr7 x .non st Q=Q (.bl (vR x)) st:=rfl
@[simp] theorem zvE:zdk x .non st Q=Q (.bl (!vR x)) st:=rfl
@[simp] theorem zv5:vR .non=true:=rfl
@[simp] theorem zv8:vR (.int i)=false:=rfl
@[simp] theorem zvA:vR (.str a)=false:=rfl
@[simp] theorem zv6:vR (.bl p)=false:=rfl
@[simp] theorem zvB:vR (.tup xs)=false:=rfl
@[simp] theorem zv9:vR (.lst xs)=false:=rfl
@[simp] theorem zv7:vR (.dct kvs)=false:=rfl
@[simp] theorem zv_:vR (.obj n)=false:=rfl
@[simp] theorem zvp:wM (.int i)=some (.inl i):=rfl
@[simp] theorem zf4:wM (.str a)=some (.inr a):=rfl
def ixO (o:Option PO)(y:PV)(st:z7)(Q:K3):Prop:=match o with
 | some (.lst xs)=>(match y with | .int i=>xX (atI xs i) λz=>Q z st | _=>False)
 | some (.dct kvs)=>xX (wM y) λk=>xX (zI kvs k) λz=>Q z st
 | _=>False
@[simp] theorem zvo:rT (.tup xs) (.int i) st Q=xX (atI xs i) λz=>Q z st:=rfl
@[simp] theorem zvl:rT (.lst xs) (.int i) st Q=xX (atI xs i) λz=>Q z st:=rfl
@[simp] theorem zvn:rT (.str a) (.int i) st Q=(a.length<=sizeLine/\xX (atI a.cps.toList i) λc=>Q (.str ⟨#[c]⟩) st):=rfl
@[simp] theorem znj:rT (.dct kvs) y st Q=xX (wM y) λk=>xX (zI kvs k) λz=>Q z st:=rfl
@[simp] theorem znk:rT (.obj n) y st Q=ixO st[n]? y st Q:=rfl
@[simp] theorem zvm:ixO (some (.lst xs)) (.int i) st Q=xX (atI xs i) λz=>Q z st:=rfl
@[simp] theorem znl:ixO (some (.dct kvs)) y st Q=xX (wM y) λk=>xX (zI kvs k) λz=>Q z st:=rfl
def zd6 (o:Option PO)(n:Nat)(i v:PV)(st:z7)(Q:z7->Prop):Prop:=match o with
 | some (.lst xs)=>(match i with | .int k=>yR v=true/\xX (wA xs.length k) λj=>Q (st.set n (.lst (xs.set j v))) | _=>False)
 | some (.dct kvs)=>xX (wM i) λk=>yR v=true/\kvs.length < sizeLine/\Q (st.set n (.dct (xP kvs k v)))
 | _=>False
@[simp] theorem zwc {Q:z7->Prop} :l8 (.obj n) x y st Q=zd6 st[n]? n x y st Q:=rfl
@[simp] theorem zwe {Q:z7->Prop} :zd6 (some (.lst xs)) n (.int i) y st Q=(yR y=true/\xX (wA xs.length i) λj=>Q (st.set n (.lst (xs.set j y)))):=rfl
@[simp] theorem zwd {Q:z7->Prop} :zd6 (some (.dct kvs)) n x y st Q=xX (wM x) λk=>yR y=true/\kvs.length < sizeLine/\Q (st.set n (.dct (xP kvs k y))):=rfl
@[simp] theorem zwh {l h:Option Int} :pH (.tup xs) l h st Q=Q (.tup (w6 xs l h)) st:=rfl
@[simp] theorem zwf {l h:Option Int} :pH (.lst xs) l h st Q=Q (.lst (w6 xs l h)) st:=rfl
@[simp] theorem zwg {l h:Option Int} :pH (.str a) l h st Q=(a.length<=sizeLine/\((Txt.slice a l h).length<=a.length->Q (.str (Txt.slice a l h)) st)):=rfl
def zc_ (o:Option PO)(k:Nat->Prop):Prop:=match o with | some (.lst xs)=>k xs.length | some (.dct kvs)=>k kvs.length | _=>False
@[simp] theorem zvq:iR [x] st Q=pB x st λn=>Q (.int n) st:=rfl
@[simp] theorem zvw {k:Nat->Prop} :pB (.tup xs) st k=k xs.length:=rfl
@[simp] theorem zvr {k:Nat->Prop} :pB (.lst xs) st k=k xs.length:=rfl
@[simp] theorem zvv {k:Nat->Prop} :pB (.str a) st k=(a.length<=sizeLine/\k a.length):=rfl
@[simp] theorem zvs {k:Nat->Prop} :pB (.obj n) st k=zc_ st[n]? k:=rfl
@[simp] theorem zvu {k:Nat->Prop} :zc_ (some (.lst xs)) k=k xs.length:=rfl
@[simp] theorem zvt {k:Nat->Prop} :zc_ (some (.dct kvs)) k=k kvs.length:=rfl
def zdS (o:Option PO)(st:z7)(Q:K3):Prop:=match o with | some (.lst ys)=>Q (.tup ys) st | some (.dct kvs)=>Q (.tup (kvs.map λq=>match q.1 with | .inl i=> .int i | .inr z=> .str z)) st | _=>False
@[simp] theorem zwz:l9 [.lst ys] st Q=Q (.tup ys) st:=rfl
@[simp] theorem zw3:l9 [.tup ys] st Q=Q (.tup ys) st:=rfl
@[simp] theorem zw0:l9 [.obj n] st Q=zdS st[n]? st Q:=rfl
@[simp] theorem zw2:zdS (some (.lst ys)) st Q=Q (.tup ys) st:=rfl
@[simp] theorem zw1:zdS (some (.dct kvs)) st Q=Q (.tup (kvs.map λq=>match q.1 with | .inl i=> .int i | .inr z=> .str z)) st:=rfl
@[simp] theorem zvd {t:String} :zr8 [x,.ty t] st Q=xX (w9 x t) λb=>Q (.bl b) st:=rfl
@[simp] theorem zuI:w9 (.bl p) "int" =some true:=rfl
@[simp] theorem zuJ:w9 (.bl p) "bool" =some true:=rfl
@[simp] theorem zuK:w9 (.bl p) "str" =some false:=rfl
@[simp] theorem zuL:w9 (.bl p) "tuple" =some false:=rfl
@[simp] theorem zuM:w9 (.bl p) "list" =some false:=rfl
@[simp] theorem zuN:w9 (.int i) "int" =some true:=rfl
@[simp] theorem zuO:w9 (.int i) "bool" =some false:=rfl
@[simp] theorem zuP:w9 (.int i) "str" =some false:=rfl
@[simp] theorem zuQ:w9 (.int i) "tuple" =some false:=rfl
@[simp] theorem zuR:w9 (.int i) "list" =some false:=rfl
@[simp] theorem zuV:w9 (.str a) "int" =some false:=rfl
@[simp] theorem zuW:w9 (.str a) "str" =some true:=rfl
@[simp] theorem zuX:w9 (.str a) "tuple" =some false:=rfl
@[simp] theorem zuY:w9 (.tup xs) "int" =some false:=rfl
@[simp] theorem zuZ:w9 (.tup xs) "str" =some false:=rfl
@[simp] theorem zva:w9 (.tup xs) "tuple" =some true:=rfl
@[simp] theorem zvb:w9 (.tup xs) "list" =some false:=rfl
@[simp] theorem zuS:w9 (.lst xs) "tuple" =some false:=rfl
@[simp] theorem zuT:w9 (.lst xs) "list" =some true:=rfl
@[simp] theorem zuH:iO [.int i] st Q=Q (.int i) st:=rfl
@[simp] theorem zuG:iO [.bl p] st Q=Q (.int (if p then 1 else 0)) st:=rfl
@[simp] theorem zv0:zrG [.int i,.int j] st Q=Q (.int (if j < i then j else i)) st:=rfl
@[simp] theorem zvz:zrF [.int i,.int j] st Q=Q (.int (if j > i then j else i)) st:=rfl
def zdR (o:Option PO)(k:Bool->Prop):Prop:=match o with | some (.lst xs)=>k (!xs.isEmpty) | some (.dct xs)=>k (!xs.isEmpty) | _=>False
@[simp] theorem zwt {k:Bool->Prop} :tJ .non st k=k false:=rfl
@[simp] theorem zwp {k:Bool->Prop} :tJ (.bl p) st k=k p:=rfl
@[simp] theorem zwr {k:Bool->Prop} :tJ (.int i) st k=k (i !=0):=rfl
@[simp] theorem zwx {k:Bool->Prop} :tJ (.str a) st k=(a.length<=sizeLine/\k ((a.length:Int) !=0)):=rfl
@[simp] theorem zwy {k:Bool->Prop} :tJ (.tup xs) st k=k (!xs.isEmpty):=rfl
@[simp] theorem zws {k:Bool->Prop} :tJ (.lst xs) st k=k (!xs.isEmpty):=rfl
@[simp] theorem zwq {k:Bool->Prop} :tJ (.dct kvs) st k=k (!kvs.isEmpty):=rfl
@[simp] theorem zwu {k:Bool->Prop} :tJ (.obj n) st k=zdR st[n]? k:=rfl
@[simp] theorem zww {k:Bool->Prop} :zdR (some (.lst xs)) k=k (!xs.isEmpty):=rfl
@[simp] theorem zwv {k:Bool->Prop} :zdR (some (.dct kvs)) k=k (!kvs.isEmpty):=rfl
def zeN (o:Option PO)(n:Nat)(y:PV)(st:z7)(Q:K3):Prop:=match o with | some (.lst zs)=>yR y=true/\zs.length < sizeLine/\Q .non (st.set n (.lst (zs++ [y]))) | _=>False
@[simp] theorem zuw:iM (.obj n) [y] st Q=zeN st[n]? n y st Q:=rfl
@[simp] theorem zux:zeN (some (.lst zs)) n y st Q=(yR y=true/\zs.length < sizeLine/\Q .non (st.set n (.lst (zs++ [y])))):=rfl
def zfB (o:Option PO)(n:Nat)(ys:List PV)(st:z7)(Q:K3):Prop:=match o with | some (.lst zs)=>zs.length+ys.length<=sizeLine/\Q .non (st.set n (.lst (zs++ys))) | _=>False
@[simp] theorem zu_:zdf (.obj n) [.lst ys] st Q=zfB st[n]? n ys st Q:=rfl
@[simp] theorem zuA:zfB (some (.lst zs)) n ys st Q=(zs.length+ys.length<=sizeLine/\Q .non (st.set n (.lst (zs++ys)))):=rfl
def zjD (o:Option PO)(n:Nat)(st:z7)(Q:K3):Prop:=match o with | some (.lst zs)=>xX zs.getLast? λy=>Q y (st.set n (.lst zs.dropLast)) | _=>False
@[simp] theorem zvT:zdl (.obj n) [] st Q=zjD st[n]? n st Q:=rfl
@[simp] theorem zvU:zjD (some (.lst zs)) n st Q=xX zs.getLast? λy=>Q y (st.set n (.lst zs.dropLast)):=rfl
def dctO (o:Option PO):Option (List (z6×PV)):=match o with | some (.dct kvs)=>some kvs | _=>none
@[simp] theorem zuz:sK (.dct kvs) st=some kvs:=rfl
@[simp] theorem zu0:sK (.obj n) st=dctO st[n]?:=rfl
@[simp] theorem zu1:dctO (some (.dct kvs))=some kvs:=rfl
def tyO (o:Option PO):String:=match o with | some (.lst _)=> "list" | some (.dct _)=> "dict" | _=> ""
@[simp] theorem zw5:sO (.lst xs) st= "list" :=rfl
@[simp] theorem zw4:sO (.dct kvs) st= "dict" :=rfl
@[simp] theorem zw9:sO (.str a) st= "str" :=rfl
@[simp] theorem zw6:sO (.obj n) st=tyO st[n]?:=rfl
@[simp] theorem zw8:tyO (some (.lst xs))= "list" :=rfl
@[simp] theorem zw7:tyO (some (.dct kvs))= "dict" :=rfl
def zc4 (o:Option PO):Option (List PV):=match o with | some (.lst xs)=>some xs | some (.dct kvs)=>some (kvs.map λq=>tB q.1) | _=>none
@[simp] theorem zvf:qH (.lst xs) st=some xs:=rfl
@[simp] theorem zvj:qH (.tup xs) st=some xs:=rfl
@[simp] theorem zve:qH (.dct kvs) st=some (kvs.map λq=>tB q.1):=rfl
@[simp] theorem zvg:qH (.obj n) st=zc4 st[n]?:=rfl
@[simp] theorem zvi:zc4 (some (.lst xs))=some xs:=rfl
@[simp] theorem zvh:zc4 (some (.dct kvs))=some (kvs.map λq=>tB q.1):=rfl
@[simp] theorem zvx:zrD [x] st Q=xX (qH x st) λys=>Q (.lst ys) st:=rfl
@[simp] theorem zvy:zrE [x] st Q=xX (qH x st) λys=>Q (.obj st.length) (st++ [.lst ys]):=rfl
def zkK (Q:Bool->z7->Prop)(x:PV)(st:z7):Prop:=match x with | .bl k=>Q k st | _=>False
@[simp] theorem zwl {T:zB}{Q:Bool->z7->Prop} :pR T env st Q=T env st (zkK Q):=rfl
@[simp] theorem zwm {Q:Bool->z7->Prop} :zkK Q (.bl p) st=Q p st:=rfl
def zeM (T:zB)(env:zG)(Q:K3)(x:PV)(st:z7):Prop:=match x with | .bl c=>if c=true then T env st Q else Q (.bl false) st | _=>False
@[simp] theorem zuo {T U:zB} :zkS T U env st Q=T env st (zeM U env Q):=rfl
@[simp] theorem zup {T:zB} :zeM T env Q (.bl p) st=if p=true then T env st Q else Q (.bl false) st:=rfl
def orK (T:zB)(env:zG)(Q:K3)(x:PV)(st:z7):Prop:=match x with | .bl c=>if c=true then Q (.bl true) st else T env st Q | _=>False
@[simp] theorem zvN {T U:zB} :ztC T U env st Q=T env st (orK U env Q):=rfl
@[simp] theorem zvO {T:zB} :orK T env Q (.bl p) st=if p=true then Q (.bl true) st else T env st Q:=rfl
def ziY (Q:K3)(x:PV)(st:z7):Prop:=match x with | .bl c=>Q (.bl (!c)) st | _=>False
@[simp] theorem zvC {T:zB} :ztB T env st Q=T env st (ziY Q):=rfl
@[simp] theorem zvD:ziY Q (.bl p) st=Q (.bl (!p)) st:=rfl
@[simp] theorem zuD {gs:t5}{Q:zG->z7->Prop} :gT n gs (.tup xs) env st Q=(xs.length=n/\gs xs env st Q):=rfl
@[simp] theorem zuB {gs:t5}{Q:zG->z7->Prop} :gT n gs (.lst xs) env st Q=(xs.length=n/\gs xs env st Q):=rfl
@[simp] theorem zuF {Q:zG->z7->Prop} :gsN [] env st Q=Q env st:=rfl
@[simp] theorem zuE {g:xW}{gs:t5}{Q:zG->z7->Prop} :gsC g gs (x::xs) env st Q=g x env st λenv1 st1=>gs xs env1 st1 Q:=rfl
def zj2 (n m:Nat)(D:xM)(env:zG)(xs:List PV)(st:z7):Prop:=match xs with | [x,y]=>D.nx ((env.set n (some x)).set m (some y)) st | _=>False
@[simp] theorem zvP {T:yE}{D:xM} :zle n m T D env st=T env st (zj2 n m D env):=rfl
@[simp] theorem zvQ {D:xM} :zj2 n m D env [x,y] st=D.nx ((env.set n (some x)).set m (some y)) st:=rfl
def zj1 (n m l:Nat)(D:xM)(env:zG)(xs:List PV)(st:z7):Prop:=match xs with | [x,y,z]=>D.nx (((env.set l (some z)).set m (some y)).set n (some x)) st | _=>False
@[simp] theorem zvR {l:Nat}{T:yE}{D:xM} :ztD n m l T D env st=T env st (zj1 n m l D env):=rfl
@[simp] theorem zvS {l:Nat}{D:xM} :zj1 n m l D env [x,y,z] st=D.nx (((env.set l (some z)).set m (some y)).set n (some x)) st:=rfl
def eP (o:Option PO)(n:Nat)(st:z7)(Q:xO->List PV->z7->Prop):Prop:=match o with | some (.lst xs)=>Q (some (n,.lst xs)) xs st | _=>False
def mG (Q:xO->List PV->z7->Prop)(x:PV)(st:z7):Prop:=match x with
 | .lst xs=>Q none xs st
 | .tup xs=>Q none xs st
 | .str z=>z.length<=sizeLine/\Q none (qR z) st
 | .obj n=>eP st[n]? n st Q
 | _=>False
@[simp] theorem zuq {T:zB}{Q:xO->List PV->z7->Prop} :ziq T env st Q=T env st (mG Q):=rfl
@[simp] theorem zur {Q:xO->List PV->z7->Prop} :mG Q (.lst xs) st=Q none xs st:=rfl
@[simp] theorem zuv {Q:xO->List PV->z7->Prop} :mG Q (.tup xs) st=Q none xs st:=rfl
@[simp] theorem zuu {Q:xO->List PV->z7->Prop} :mG Q (.str a) st=(a.length<=sizeLine/\Q none (qR a) st):=rfl
@[simp] theorem zus {Q:xO->List PV->z7->Prop} :mG Q (.obj n) st=eP st[n]? n st Q:=rfl
@[simp] theorem zut {Q:xO->List PV->z7->Prop} :eP (some (.lst xs)) n st Q=Q (some (n,.lst xs)) xs st:=rfl
def zjZ (Q:xO->List PV->z7->Prop)(xs:List PV)(st:z7):Prop:=match xs with | [.int j]=>(-1000000<=j/\j<=1000000)/\Q none (vW 0 j.toNat) st | _=>False
@[simp] theorem zvY {T:yE}{Q:xO->List PV->z7->Prop} :zir T env st Q=T env st (zjZ Q):=rfl
@[simp] theorem zvZ {Q:xO->List PV->z7->Prop} :zjZ Q [.int j] st=((-1000000<=j/\j<=1000000)/\Q none (vW 0 j.toNat) st):=rfl
def zjY (Q:xO->List PV->z7->Prop)(xs:List PV)(st:z7):Prop:=match xs with | [.int i,.int j]=>(-1000000<=i/\i<=1000000/\ -1000000<=j/\j<=1000000)/\Q none (vW i (j - i).toNat) st | _=>False
@[simp] theorem zwa {T:yE}{Q:xO->List PV->z7->Prop} :zis T env st Q=T env st (zjY Q):=rfl
@[simp] theorem zwb {Q:xO->List PV->z7->Prop} :zjY Q [.int i,.int j] st=((-1000000<=i/\i<=1000000/\ -1000000<=j/\j<=1000000)/\Q none (vW i (j - i).toNat) st):=rfl
def zkt (Q:Option Int->z7->Prop)(x:PV)(st:z7):Prop:=match x with | .int i=>Q (some i) st | _=>False
@[simp] theorem zwi {T:zB}{Q:Option Int->z7->Prop} :zjd T env st Q=T env st (zkt Q):=rfl
@[simp] theorem zwj {Q:Option Int->z7->Prop} :zkt Q (.int i) st=Q (some i) st:=rfl
def zkM (Q:K3)(x:PV)(st:z7):Prop:=match x with | .tup xs=>Q (.tup xs.reverse) st | _=>False
@[simp] theorem zwn {T:zB} :ztH T env st Q=T env st (zkM Q):=rfl
@[simp] theorem zwo:zkM Q (.tup xs) st=Q (.tup xs.reverse) st:=rfl
def zjW (Q:K3)(x:PV)(st:z7):Prop:=match x with | .lst xs=>Q (.lst xs.reverse) st | _=>False
@[simp] theorem zvW {T:zB}{U:t6} :zlg T U env st Q=T env st λx st1=>U env st1 λl st2=>l=some (-1)/\zjW Q x st2:=rfl
@[simp] theorem zvX:zjW Q (.lst xs) st=Q (.lst xs.reverse) st:=rfl
@[simp] theorem zu5:xE m Q (.int i) st=Q (.int i) (st.take m):=rfl
@[simp] theorem zu8:xE m Q (.str a) st=Q (.str a) (st.take m):=rfl
@[simp] theorem zu3:xE m Q (.bl p) st=Q (.bl p) (st.take m):=rfl
@[simp] theorem zu7:xE m Q .non st=Q .non (st.take m):=rfl
@[simp] theorem zu9:xE m Q (.tup xs) st=Q (.tup xs) (st.take m):=rfl
@[simp] theorem zu6:xE m Q (.lst xs) st=Q (.lst xs) (st.take m):=rfl
@[simp] theorem zu4:xE m Q (.dct kvs) st=Q (.dct kvs) (st.take m):=rfl
@[simp] theorem zw_ {P:Prop} :tK none st P=P:=rfl
@[simp] theorem zwA {P:Prop}{o:PO} :tK (some (n,o)) st P=(st[n]?=some o/\P):=rfl
@[simp] theorem zvJ:yR .non=true:=rfl
@[simp] theorem zvH:yR (.int i)=true:=rfl
@[simp] theorem zvL:yR (.str a)=true:=rfl
@[simp] theorem zvF:yR (.bl p)=true:=rfl
@[simp] theorem zvM:yR (.tup xs)=true:=rfl
@[simp] theorem zvI:yR (.lst xs)=true:=rfl
@[simp] theorem zvG:yR (.dct kvs)=true:=rfl
@[simp] theorem zvK:yR (.obj n)=false:=rfl
end
@[simp] theorem zxm {D:xM}{env:zG}{st:z7} :zdY D env st=(D.nx env st):=rfl
@[simp] theorem zwN {T:zB}{g:xW}{D:xM}{env:zG}{st:z7} :pP T g D env st=(T env st λx st1=>g x env st1 D.nx):=rfl
@[simp] theorem zxf {c:x9}{t u:yQ}{D:xM}{env:zG}{st:z7} :fE c t u D env st=(c env st λb st1=>if b=true then t D env st1 else u D env st1):=rfl
@[simp] theorem zxs {T:zB}{D:xM}{env:zG}{st:z7} :zlf T D env st=(T env st D.rt):=rfl
@[simp] theorem zxt {D:xM}{w1:zG}{st:z7} :ztF D w1 st=(D.rt .non st):=rfl
@[simp] theorem zxc {T:zB}{D:xM}{env:zG}{st:z7} :fD T D env st=(T env st λ_ st1=>D.nx env st1):=rfl
@[simp] theorem zxv {T:zB}{env:zG}{st:z7}{Q:Bool->z7->Prop} :zlj T env st Q=(T env st λx st1=>tJ x st1 λk=>Q k st1):=rfl
@[simp] theorem zwM {t u:x9}{env:zG}{st:z7}{Q:Bool->z7->Prop} :fB t u env st Q=(t env st λc st1=>if c=true then u env st1 Q else Q false st1):=rfl
@[simp] theorem zxq {t u:x9}{env:zG}{st:z7}{Q:Bool->z7->Prop} :vOr t u env st Q=(t env st λc st1=>if c=true then Q true st1 else u env st1 Q):=rfl
@[simp] theorem zxo {t:x9}{env:zG}{st:z7}{Q:Bool->z7->Prop} :zld t env st Q=(t env st λc st1=>Q (!c) st1):=rfl
@[simp] theorem zxe {t:x9}{Ta Tb:zB}{env:zG}{st:z7}{Q:K3} :vIf t Ta Tb env st Q=(t env st λc st1=>if c=true then Ta env st1 Q else Tb env st1 Q):=rfl
@[simp] theorem zxp {R:R3}{Ta Tb:zB}{env:zG}{st:z7}{Q:K3} :sD R Ta Tb env st Q=(Ta env st λx st1=>Tb env st1 λy st2=>R x y st2 Q):=rfl
@[simp] theorem zxx {R:PV->z7->K3->Prop}{Ta:zB}{env:zG}{st:z7}{Q:K3} :nX R Ta env st Q=(Ta env st λx st1=>R x st1 Q):=rfl
@[simp] theorem zwS {x:PV}{w0:zG}{st:z7}{Q:K3} :vC x w0 st Q=(Q x st):=rfl
@[simp] theorem zxn {w0:zG}{st:z7}{Q:List PV->z7->Prop} :pQ w0 st Q=(Q [] st):=rfl
@[simp] theorem zwY {Ta:zB}{Tr:yE}{env:zG}{st:z7}{Q:List PV->z7->Prop} :uT Ta Tr env st Q=(Ta env st λx st1=>Tr env st1 λxs st2=>Q (x::xs) st2):=rfl
@[simp] theorem zxw {T:yE}{env:zG}{st:z7}{Q:K3} :zlk T env st Q=(T env st λxs st1=>uP xs=true/\Q (.tup xs) st1):=rfl
@[simp] theorem zxh {T:yE}{env:zG}{st:z7}{Q:K3} :zkX T env st Q=(T env st λxs st1=>uP xs=true/\Q (.lst xs) st1):=rfl
@[simp] theorem zxi {T:yE}{env:zG}{st:z7}{Q:K3} :zkY T env st Q=(T env st λxs st1=>uP xs=true/\Q (.obj st1.length) (st1++ [.lst xs])):=rfl
@[simp] theorem zwT {R:zQ}{T:yE}{env:zG}{st:z7}{Q:K3} :r6 R T env st Q=(T env st λxs st1=>R xs st1 Q):=rfl
@[simp] theorem zxu {T:zB}{Tl Th:t6}{env:zG}{st:z7}{Q:K3} :vSl T Tl Th env st Q=(T env st λx st1=>Tl env st1 λl st2=>Th env st2 λu st3=>pH x l u st3 Q):=rfl
@[simp] theorem zwH {w0:zG}{st:z7}{Q:Option Int->z7->Prop} :zjc w0 st Q=(Q none st):=rfl
@[simp] theorem zwF {To Ti:zB}{v:PV}{env:zG}{st:z7}{Q:zG->z7->Prop} :gS To Ti v env st Q=(To env st λo st1=>Ti env st1 λi st2=>l8 o i v st2 λst3=>Q env st3):=rfl
@[simp] theorem zwO {T:String}{R:PV->zQ}{To:zB}{TA:yE}{env:zG}{st:z7}{Q:K3} :vBM T R To TA env st Q=(To env st λx st1=>sO x st1=T/\TA env st1 λxs st2=>R x xs st2 Q):=rfl
@[simp] theorem zwP {T:String}{R:PV->zQ}{To:zB}{env:zG}{st:z7}{Q:K3} :zkT T R To env st Q=(To env st λx st1=>sO x st1=T/\R x [] st1 Q):=rfl
@[simp] theorem zxa {w0:zG}{st:z7}{Q:K3} :zkU w0 st Q=(Q (.obj st.length) (st++ [.dct []])):=rfl
@[simp] theorem zwR {D:xM}{env:zG}{st:z7} :zt5 D env st=(D.bk env st):=rfl
@[simp] theorem zwZ {D:xM}{env:zG}{st:z7} :zt8 D env st=(D.ct env st):=rfl
@[simp] theorem zwJ {x:PV}{y:PV}{st:z7}{Q:K3} :zde x y st Q=((zE x<=50/\zE y < 1000)/\Q (.bl (y6 x y)) st):=rfl
@[simp] theorem zwK {x:PV}{y:PV}{st:z7}{Q:K3} :zjR x y st Q=((zE x<=50/\zE y < 1000)/\Q (.bl (!y6 x y)) st):=rfl
@[simp] theorem zwE {i:Nat}{x:PV}{env:zG}{st:z7}{Q:zG->z7->Prop} :gN i x env st Q=(Q (env.set i (some x)) st):=rfl
@[simp] theorem zxl {w0:xM}{w1:zG}{w2:z7} :zlc w0 w1 w2=(False):=rfl
@[simp] theorem zxd {I:uL}{g:xW}{b:yQ}{D:xM}{env:zG}{st:z7} :zkV I g b D env st=(I env st λsrc xs st1=>fM g b src xs D env st1):=rfl
@[simp] theorem zwW {own:Nat}{I:uL}{g:xW}{tt:x9}{el:zB}{env:zG}{st:z7}{Q:K3} :fC own I g tt el env st Q=(I env st λsrc xs st1=>pU own g tt el src xs (λys st2=>Q (.lst ys) st2) env st1):=rfl
@[simp] theorem zwX {own:Nat}{I:uL}{g:xW}{tt:x9}{el:zB}{env:zG}{st:z7}{Q:K3} :zdX own I g tt el env st Q=(I env st λsrc xs st1=>pU own g tt el src xs (λys st2=>Q (.obj st2.length) (st2++ [.lst ys])) env st1):=rfl
@[simp] theorem zxy {w0:zG}{st:z7}{Q:Bool->z7->Prop} :zll w0 st Q=(Q true st):=rfl
@[simp] theorem zwL {N:List Str}{xs:List PV} :sY N xs=xs.map some++List.replicate (N.length - xs.length) none:=rfl
@[simp] theorem zwI {xs:List PV} :uP xs=(xs.all yR&&Nat.ble xs.length 1000):=rfl
@[simp] theorem zui {x:PV}{e:zG}{st:z7}{Q:K3} :vK 0 (some x::e) st Q=Q x st:=rfl
@[simp] theorem zuj {i:Nat}{x:Option PV}{e:zG}{st:z7}{Q:K3} :vK (i+1) (x::e) st Q=vK i e st Q:=rfl
@[simp] theorem zud {α:Type}{x:α}{F:α->Prop} :xX (some x) F=F x:=rfl
section
variable {α β:Type} {x y z u v:α} {xs ys:List α} {f:α->β} {n i:Nat} {p:Prop} {b:Bool} {st:List α}
@[simp] theorem ztY:(x::xs).map f=f x::xs.map f:=rfl
@[simp] theorem ztZ:([]:List α).map f= []:=rfl
@[simp] theorem ztW:(x::xs).length=xs.length+1:=rfl
@[simp] theorem ztX:([]:List α).length=0:=rfl
@[simp] theorem ztO:(x::xs)++ys=x::(xs++ys):=rfl
@[simp] theorem ztP: []++ys=ys:=rfl
@[simp] theorem zue:List.replicate (n+1) x=x::List.replicate n x:=rfl
@[simp] theorem zuf:List.replicate 0 x= []:=rfl
@[simp] theorem zug:(x::xs).set 0 y=y::xs:=rfl
@[simp] theorem zuh:(x::xs).set (n+1) y=x::xs.set n y:=rfl
@[simp] theorem ztU:(x::xs)[0]?=some x:=rfl
@[simp] theorem ztV:(x::xs)[n+1]?=xs[n]?:=rfl
@[simp] theorem zub:(!true)=false:=rfl
@[simp] theorem zua:(!false)=true:=rfl
@[simp] theorem zfa:(some x).isSome=true:=rfl
@[simp] theorem ztT:(some x).getD y=x:=rfl
@[simp] theorem ztS:(none:Option α).getD y=y:=rfl
@[simp] theorem ztM {q:α->Bool} :(x::xs).all q=(q x&&xs.all q):=rfl
@[simp] theorem ztN {q:α->Bool} :([]:List α).all q=true:=rfl
@[simp] theorem ztQ {m:Nat} :Nat.ble (n+1) (m+1)=Nat.ble n m:=rfl
end
section
variable {Q:K3} {st:z7} {x:PO} {xs:List PV} {kvs:List (z6×PV)} {i j:Int} {a b:Str} {p q:Bool} {l:List (Str×Int)}
@[simp] theorem ztR {m:Nat} :xE m Q (rD l) st=Q (rD l) (st.take m):=rfl
@[simp] theorem zuc:yR (rD l)=true:=rfl
end
theorem cB:(∀{α:Type} {x:α} {xs:List α},atI (x::xs) 0=some x)/\(∀{α:Type} {x y:α} {xs:List α},atI (x::y::xs) 1=some y)/\(∀{α:Type} {x y z:α} {xs:List α},atI (x::y::z::xs) 2=some z)/\(∀{α:Type} {x y z u:α} {xs:List α},atI (x::y::z::u::xs) 3=some u)/\(∀{α:Type} {x y z u v:α} {xs:List α},atI (x::y::z::u::v::xs) 4=some v)/\
  (∀{n:Nat},wA (n+1) 0=some 0)/\(∀{n:Nat},wA (n+2) 1=some 1)/\(∀{p:Prop},(True/\p)=p)/\(∀{p:Prop},(p/\True)=p)/\(∀{q r:Prop},(if True then q else r)=q)/\(∀{q r:Prop},(if False then q else r)=r)/\((false=true)=False)/\(∀{p:Prop},(p∨True)=True)/\(∀{p:Prop},(True∨p)=True)/\(∀{p:Prop},(p/\p)=p)/\
  (∀{α:Type} {st:List α},st.take (st.length+0)=st)/\(∀{α:Type} {st:List α},st.take st.length=st)/\(∀{α:Type} {st:List α} {i:Nat} {x:α},(st.set i x).take (st.length+0)=st.set i x)/\(∀{α:Type} {st:List α} {i:Nat} {x:α},(st.set i x).take st.length=st.set i x)/\(∀{α:Type} {st:List α} {i:Nat} {x y:α},(st.set i x).set i y=st.set i y)/\
  (∀{α:Type} {st:List α} {i:Nat} {x:α},(st[i]?).isSome=true->(st.set i x)[i]?=some x)/\(∀{α:Type} {st:List α} {x:α},(st++ [x])[st.length]?=some x)/\(∀{α:Type} {st:List α} {x y:α},(st++ [x]).set st.length y=st++ [y])/\(∀{α:Type} {st:List α} {x:α},(st++ [x]).take (st.length+0)=st)/\(∀{α:Type} {st:List α} {x:α},(st++ [x]).take st.length=st)/\(∀{α:Type} {st:List α} {x:α},(st++ [x]).take (st.length+1)=st++ [x])/\
  (∀{b:Bool},(b&&true)=b)/\(∀{b:Bool},(true&&b)=b)/\(∀{m:Nat},Nat.ble 0 m=true)/\(∀{m:Nat},(0<=m)=True)/\(∀{n:Nat},max n 0=n)/\(∀{n:Nat},max 0 n=n)/\(∀{h:Decidable True},@decide True h=true)/\(∀{h:Decidable False},@decide False h=false)/\
  (∀{Q:K3} {st:z7} {x:PO},xE (st.length+1) Q (.obj st.length) (st++ [x])=Q (.obj st.length) (st++ [x]))/\(∀{Q:K3} {st:z7} {xs:List PV},xE (st.length+0) Q (.obj st.length) (st++ [.lst xs])=Q (.lst xs) st)/\(∀{Q:K3} {st:z7} {kvs:List (z6×PV)},xE (st.length+0) Q (.obj st.length) (st++ [.dct kvs])=Q (.dct kvs) st)/\
  (∀{Q:K3} {st:z7} {xs:List PV},xE st.length Q (.obj st.length) (st++ [.lst xs])=Q (.lst xs) st)/\(∀{Q:K3} {st:z7} {kvs:List (z6×PV)},xE st.length Q (.obj st.length) (st++ [.dct kvs])=Q (.dct kvs) st):=
 ⟨at0,at1,at2,at3,at4,ix0,ix1,true_and _,and_true _,if_pos trivial,if_neg id,ir,or_true _,true_or _,and_self _,ztl,ig,f7,f7,set_set,znD,tV,pM,zdM,zdM,ztk,Bool.and_true _,Bool.true_and _,Nat.ble_eq_true_of_le (dg _),eq_true (dg _),Nat.max_zero _,Nat.zero_max _,(by simp),(by simp),zny,jB,zfA,jB,zfA⟩
end L3
namespace L3
open PySem PySem.Spec PyProof.Rows L2
def fF:List (zB×zB)->zG->z7->(List (PV×PV)->z7->Prop)->Prop
 | [],_,st,Q=>Q [] st
 | (tk,tv)::r,env,st,Q=>tk env st λx st1=>tv env st1 λy st2=>fF r env st2 λps st3=>Q ((x,y)::ps) st3
abbrev PRs (K:Frag)(A:List Addr)(H:Hp):List (PV×PV)->List (V×V)->Prop:=Paired λp q=>RE K A H p.1 q.1/\RE K A H p.2 q.2
theorem zjz {K:Frag} : ∀{trs:List (zB×zB)} {A:List Addr} {env:zG} {st:z7} {σ:St} {H:Hp} {Q3:List (PV×PV)->z7->Prop} {Q:List (V×V)->Hp->Prop},yX K A H σ env st->fF trs env st Q3->
  (∀A' H' st' ps qs,zR A H A' H'->RS K A' H' st'->PRs K A' H' ps qs->Q3 ps st'->Q qs H')->f6 (trs.map λp=>(zK K p.1,zK K p.2)) σ H Q
 | [],A,env,st,σ,H,Q3,Q,rel,h,k=>k A H st [] [] (.refl _ _) rel.rs .nil h
 | (tk,tv)::r,A,env,st,σ,H,Q3,Q,rel,h,k=>
  ⟨A,env,st,_,rel,h,λA1 H1 st1 x v g1 s1 e1 h1=>⟨A1,env,st1,_,rel.grow g1 s1,h1,λA2 H2 st2 y u g2 s2 e2 h2=>
   zjz (trs:=r) (rel.grow (g1.trans g2) s2) h2 λA3 H3 st3 ps qs g3 s3 e3 h3=>k A3 H3 st3 _ _ ((g1.trans g2).trans g3) s3 (.cons ⟨e1.grow (g2.trans g3),e2.grow g3⟩ e3) h3⟩⟩
theorem zok {k:z6} :wM (tB k)=some k:=by cases k <;> rfl
section
variable {X:Cx}
abbrev j2 (K:Frag)(trs:List (zB×zB)):List (TE×TE):=trs.map λp=>(zK K p.1,zK K p.2)
theorem zrw {pos:Pos} :qA X pos [] [] (j2 X.K []):=zqV
theorem iK {pos:Pos}{k v:Expr}{ks:List (Option Expr)}{vs:List Expr}{Tk Tv:zB}{trs:List (zB×zB)}(hk:PE X k (zK X.K Tk))(hv:PE X v (zK X.K Tv))(hr:qA X pos ks vs (j2 X.K trs)):qA X pos (some k::ks) (v::vs) (j2 X.K ((Tk,Tv)::trs)):=zqU hk hv hr
end
end L3
namespace L3
open PySem PySem.Spec PyProof.Rows L2 PySem.SeqAt
section
variable {X:Cx} {o e:Expr} {es:List Expr} {apos cpos:Pos} {To:zB} {TA:yE} {id:String} {name:Str} {R:PV->zQ}
def zc2:PV->Bool | .tup _=>true | _=>false
@[simp] theorem zvc {xs:List PV} :zc2 (.tup xs)=true:=rfl
def zt4 (R:PV->zQ)(To:zB)(TA:yE):zB:=λenv st Q=>To env st λx st1=>zc2 x=true/\TA env st1 λys st2=>R x ys st2 Q
@[simp] theorem zwQ {env:zG}{st:z7}{Q:K3} :zt4 R To TA env st Q=To env st λx st1=>zc2 x=true/\TA env st1 λys st2=>R x ys st2 Q:=rfl
end
end L3
namespace L2
open PySem PySem.Spec PyProof.Rows
section
variable {X:Cx}
end
end L2
namespace L2
open PySem PySem.Spec PyProof.Rows
end L2
namespace L3
open PySem PySem.Spec PyProof.Rows L2
def jQ (kvs:List (List Int×Int))(k:List Int):Option Int:=(kvs.find? λkv=>decide (kv.1=k)).map (·.2)
def zjK (kvs:List (List Int×Int))(k:List Int)(v:Int):List (List Int×Int):=
 if(kvs.any λkv=>decide (kv.1=k))=true then kvs.map (λkv=>if kv.1=k then(kv.1,v)else kv)else kvs++ [(k,v)]
def zi1:PV->z7->Option (List (List Int×Int))
 | .itb kvs,_=>some kvs
 | .obj i,st=>(match st[i]? with | some (.itb kvs)=>some kvs | _=>none)
 | _,_=>none
def zt9:zB:=λ_ st Q=>Q (.obj st.length) (st++ [.itb []])
def ztA (Ta:zB)(TA:yE):zB:=λenv st Q=>Ta env st λx st1=>TA env st1 λys st2=> ∃(k:List Int) (kvs:List (List Int×Int)) (v:Int),ys=k.map PV.int/\zi1 x st2=some kvs/\k.length<=100/\jQ kvs k=some v/\Q (.int v) st2
def ztE (Td:zB)(TA:yE)(Tv:zB):yQ:=λD env st=>Tv env st λv st1=>Td env st1 λx st2=>TA env st2 λys st3=> ∃(k:List Int) (i:Nat) (kvs:List (List Int×Int)) (z:Int),ys=k.map PV.int/\v= .int z/\x= .obj i/\st3[i]?=some (.itb kvs)/\k.length<=100/\kvs.length < sizeLine/\D.nx env (st3.set i (.itb (zjK kvs k z)))
@[simp] theorem zxb {env:zG}{st:z7}{Q:K3} :zt9 env st Q=Q (.obj st.length) (st++ [.itb []]):=rfl
@[simp] theorem zxg {Ta:zB}{TA:yE}{env:zG}{st:z7}{Q:K3} :ztA Ta TA env st Q=(Ta env st λx st1=>TA env st1 λys st2=> ∃(k:List Int) (kvs:List (List Int×Int)) (v:Int),ys=k.map PV.int/\zi1 x st2=some kvs/\k.length<=100/\jQ kvs k=some v/\Q (.int v) st2):=rfl
@[simp] theorem zxr {Td:zB}{TA:yE}{Tv:zB}{D:xM}{env:zG}{st:z7} :ztE Td TA Tv D env st=(Tv env st λv st1=>Td env st1 λx st2=>TA env st2 λys st3=> ∃(k:List Int) (i:Nat) (kvs:List (List Int×Int)) (z:Int),ys=k.map PV.int/\v= .int z/\x= .obj i/\st3[i]?=some (.itb kvs)/\k.length<=100/\kvs.length < sizeLine/\D.nx env (st3.set i (.itb (zjK kvs k z)))):=rfl
section
variable {X:Cx} {a value:Expr} {es:List Expr} {pos pos' p2:Pos} {Ta Tv:zB} {TA:yE}
end
end L3
namespace L3
open PySem PySem.Spec PyProof.Rows L2
def zt6 (good:qT->Prop)(i:Nat)(TA:yE):zB:=λenv st Q=> ∃D:qT,env[i]?=some (some (.clo D))/\good D/\TA env st λxs st1=> ∃(k:List Int) (v:Int),xs=k.map PV.int/\k.length=3/\jQ D.kvs k=some v/\Q (.int v) st1
@[simp] theorem zwU {good:qT->Prop}{i:Nat}{TA:yE}{env:zG}{st:z7}{Q:K3} :zt6 good i TA env st Q= ∃D:qT,env[i]?=some (some (.clo D))/\good D/\TA env st λxs st1=> ∃(k:List Int) (v:Int),xs=k.map PV.int/\k.length=3/\jQ D.kvs k=some v/\Q (.int v) st1:=rfl
section
variable {X:Cx} {e:Expr} {es:List Expr} {p pos:Pos} {TA:yE}
end
end L3
namespace L2
open PySem PySem.Spec PyProof.Rows
section
variable {prog:Program} {w:World} {A:Around} {J:Addr} {fp wr:List Addr} {n:Nat} {P:Nat->Value->Prop} {Sn:Nat->Heap->Prop}
end
section
variable {prog:Program} {w:World} {A:Around} {E:Value->Shared->Prop} {s:Shared}
end
section
variable {X:Cx} {e e2:Expr} {t:TA} {tk:TA} {p pos kpos:Pos}
end
end L2
namespace L3
open PySem PySem.Spec PyProof.Rows L2
end L3
namespace L3
open PySem PySem.Spec PyProof.Rows L2
section
variable {X:Cx} {a b e:Expr} {es:List Expr} {pos p p2:Pos} {Ta Tb:zB} {TA:yE}
end
end L3
namespace Sets
open PySem
def zlW (xs:Array Nat):Prop:= ∀i j (hi:i < xs.size) (hj:j < xs.size),i < j->xs[i] < xs[j]
structure u3 (led:Bool)(n:Nat)(t:SetTable):Prop where
 fits:t.fits n=true
 led:t.led=led
 rise:zlW t.place
 dum:t.dummies= #[]
end Sets
namespace Sets
open PySem PyProof.Rows
def zlX (led:Bool)(a:Addr)(es:Array (Int×Value))(h:Heap):Prop:= ∃o ep t,h.get? a=some o/\o.ExactSet/\o.data= .set es ep t/\u3 led es.size t
section
variable {prog:Program} {w:World} {K:Type} [DecidableEq K] {knd:KeyKind prog w K} {A:Around} {E:Value->Shared->Prop} {s:Shared}
end
end Sets
namespace Sets
open PySem PyProof.Rows
section
variable {prog:Program} {w:World} {A:Around} {E:Value->Shared->Prop} {s:Shared}
end
end Sets
namespace Sets
open PySem PyProof.Rows
section
variable {prog:Program} {w:World} {A:Around} {E:Value->Shared->Prop} {s:Shared}
end
end Sets
namespace Sets
open PySem PyProof.Rows
section
variable {prog:Program} {w:World} {A:Around} {E:Value->Shared->Prop} {s:Shared}
end
end Sets
namespace Sets
open PySem PyProof.Rows
section
variable {prog:Program} {w:World} {A:Around} {E:Value->Shared->Prop} {s:Shared}
abbrev zoy (w:World):Bool:= !w.params.followText "set-order"
end
inductive kR {α β:Type}(R:α->β->Prop):List α->List β->Prop
 | nil:kR R [] []
 | cons {a:α} {b:β} {l:List α} {m:List β} :R a b->kR R l m->kR R (a::l) (b::m)
def zmc {K:Type}[DecidableEq K](ds:List K)(k:K):List K:=if k∈ds then ds else ds++ [k]
def dd {K:Type}[DecidableEq K](ks:List K):List K:=ks.foldl zmc []
section
variable {prog:Program} {w:World} {K:Type} [DecidableEq K] (knd:KeyKind prog w K)
def IsE (e:Int×Value)(k:K):Prop:=knd.is k e.2=true/\e.1=knd.hash k/\e.2.scannable=true
def zlz (es:Array (Int×Value))(ds:List K):Prop:= ∃ds':List K,ds'.Perm ds/\kR (IsE knd) es.toList ds'
variable {knd}
end
end Sets
namespace Sets
open PySem PyProof.Rows
section
variable {prog:Program} {w:World} {A:Around} {E:Value->Shared->Prop} {s:Shared} {K:Type} [DecidableEq K] {knd:KeyKind prog w K}
def Holds (knd:KeyKind prog w K)(a:Addr)(ds:List K)(h:Heap):Prop:= ∃es,zlX (zoy w) a es h/\zlz knd es ds
end
end Sets
namespace Sets
open PySem PyProof.Rows
section
variable {prog:Program} {w:World} {A:Around} {E:Value->Shared->Prop} {s:Shared} {K:Type} [DecidableEq K] {knd:KeyKind prog w K}
end
end Sets
namespace L2
open PySem PySem.Spec PyProof.Rows
section
variable {X:Cx} {pins:List (Addr×Obj)} {σ:St} {H:Hp} {s s':Shared}
end
end L2
namespace L3
open PySem PySem.Spec PyProof.Rows L2
section
variable {X:Cx} {To:zB} {o:Expr} {p q pos ap:Pos}
end
end L3
set_option maxHeartbeats 1000000
namespace L3
section
variable {α:Type} [DecidableEq α] {w U u l:List α} {A B a b:Nat}
structure zlN (w:List α)(A B:Nat)(U:List α):Prop where
 ab:A<=B
 bn:B<=w.length
 an:A < w.length
 front: ∀x∈U,x∉w.take A
 qE: ∀x∈U,x∉w.drop B
 hd: ∀x,U.head?=some x->w[A]?≠some x
 ne:U= []->A < B
 ls:A < B->∀x,U.getLast?=some x->w[B - 1]?≠some x
def gl (w:List α):Nat->List (Nat×Nat×List α)->List α
 | k,[]=>w.drop k
 | k,(a,b,u)::r=>(w.take a).drop k++u++gl w b r
structure Dn (w:List α)(ds:List (Nat×Nat×List α)):Prop where
 nd:w.Nodup
 hull: ∀(i:Nat) (c:Nat×Nat×List α),ds[i]?=some c->zlN w c.1 c.2.1 c.2.2/\∀x∈c.2.2,x∉w
 apart: ∀(i j:Nat) (c d:Nat×Nat×List α),i < j->ds[i]?=some c->ds[j]?=some d->c.2.1<=d.1/\c.1 < d.1
variable {ds:List (Nat×Nat×List α)} {h k:Nat} {x:List α} {n:Nat}
end
end L3
set_option maxHeartbeats 4000000
namespace L2
open PySem PySem.Spec PyProof.Rows
section
variable {X:Cx}
end
end L2
namespace L3
open PySem PySem.Spec PyProof.Rows L2
section
variable {X:Cx}
def zdm:PV->zQ:=λx xs st Q=> ∃(i k:Nat) (y:PV) (zs:List PV),x= .obj i/\xs= [.int (k:Nat)]/\st[i]?=some (.lst zs)/\zs[k]?=some y/\Q y (st.set i (.lst (zs.eraseIdx k)))
theorem RVs.erase {K:Frag}{A:List Addr}{H:Hp} : ∀{xs:List PV} {vs:List V} (n:Nat),RVs K A H xs vs->RVs K A H (xs.eraseIdx n) (vs.eraseIdx n)
 | _,_,_,.nil=> .nil
 | _,_,0,.cons r t=>t
 | _,_,n+1,.cons r t=> .cons r (RVs.erase n t)
theorem zjj:uX X "list.pop" (rG X.K zdm):=by
 intro pins s σ H v vs vv us Q I rv rvs ⟨A,st,x,xs,Q3,rs,ex,exs,h,k⟩;obtain⟨i,n,y,zs,rfl,rfl,q,hy,h⟩:=h;obtain⟨w,rfl,e1⟩:=yP.one exs;cases xH e1;cases ex with
 | val e=>cases e
 | obj eo=>
  have hm:=ck eo;obtain⟨ws,h1,r,z⟩:=rs.at_ _ _ _ eo q;obtain⟨u,hu,ru⟩:=r.get hy;have hlt:n < ws.length:=(ad.mp hu).1;have hi:((n:Nat):Int) < 2 ^ 63:=Int.lt_of_lt_of_le (Int.ofNat_lt.mpr (bj hlt z)) (by decide);refine zoV pins s σ H _ _ vv us Q I rv rvs ⟨_,ws,(n:Int),n,u,rfl,rfl,h1,Int.le_trans (by decide: -(2:Int) ^ 63<=0) (wl n),hi,PySem.StrLaws.seqIndex_nonneg (wl n) (Int.ofNat_lt.mpr hlt),hu,k A _ _ _ _ (.put hm) (rs.put (q:= .lst (zs.eraseIdx n)) eo ⟨_,yO,(r.erase n).grow (.put hm),?_⟩) (.val (ru.grow (.put hm))) h⟩;exact bf (kg ..) z
end
end L3
namespace L2
open PySem PySem.Spec PyProof.Rows
section
variable {X:Cx} {es:List Expr} {pos:Pos} {t:TA}
end
end L2
namespace L3
open PySem PySem.Spec PyProof.Rows L2
section
variable {X:Cx} {Te:zB} {e:Expr} {p q r pos tp:Pos} {k:Nat}
end
end L3
namespace L2
open PySem PySem.Spec PyProof.Rows
section
variable {prog:Program} {w:World} {A:Around} {E:Value->Shared->Prop} {s:Shared}
end
section
variable {X:Cx} {elts:List Expr} {k:Nat} {pos':Pos}
end
end L2
namespace L3
open PySem PySem.Spec PyProof.Rows L2
section
variable {X:Cx} {a:Expr} {p pos:Pos} {TA:yE}
end
end L3
namespace L3
open PySem PySem.Spec PyProof.Rows L2
def p8 (m:Nat)(y:PV):Option PV->Option PV
 | some (.obj i)=>if i=m then some y else some (.obj i)
 | o=>o
def jG (m:Nat)(y:PV)(env:zG):zG:=env.map (p8 m y)
section
variable {K:Frag} {A:List Addr} {H:Hp} {σ:St} {env:zG} {st0:z7} {xs:List PV}
theorem yX.freeze (r:yX K A H σ env (st0++ [.lst xs])):yX K (A.take st0.length) H σ (jG st0.length (.lst xs) env) st0:=by
 have s:=r.rs.take st0.length;have et:(st0++ [PO.lst xs]).take st0.length=st0:=by rw[kz (ao _),ig]
 rw[et]at s;refine⟨s,by unfold jG;rw[ac];exact r.len,λi x e=> ?_⟩;unfold jG at e;rw[cg]at e;cases e1:env[i]? with
 | none=>rw[e1]at e;cases e
 | some o=>
  rw[e1]at e;have e2:p8 st0.length (.lst xs) o=some x:=ce e;cases o with
  | none=>cases e2
  | some y=>
   obtain⟨v,ev,re⟩:=r.at_ i y e1;refine⟨v,ev,?_⟩;cases re with
   | val rv=>
    have:y=x:=by
     cases y with
     | obj j=>cases rv
     | _=>exact ce e2
    rw[<- this];exact .val (rv.less oV)
   | obj eo=>
    rename_i j a;unfold p8 at e2;dsimp only at e2;by_cases hj:j=st0.length
    ·rw[if_pos hj]at e2
     cases e2;subst hj;obtain⟨vs,h1,rr,z⟩:=r.rs.at_ _ _ _ eo (by simp:(st0++ [PO.lst xs])[st0.length]?=some (.lst xs));refine .val (.lst (.inl ⟨.inl h1,λhm'=> ?_⟩) z (rr.less oV));obtain⟨k,hk,ek⟩:=or hm';rw[cj]at hk;have e3:A[k]?=some a:=by rw[<- dv (show k < st0.length by omega),bu (by rw[cj];omega),ek]
     have:=(du (ad.mp e3).1 r.rs.nd).mp (e3.trans eo.symm);omega
    ·rw[if_neg hj]at e2
     cases e2;have hl:=r.rs.len;have hlt:=(ad.mp eo).1;rw[ai,bw]at hl;exact .obj (by rw[dv (by omega)];exact eo)
end
section
variable {X:Cx} {a b:Stmt} {rst:List Stmt} {Ts Tu Tw:yQ}
def zkW (T:yQ):yQ:=λD env st=>T {D with nx:=λenv' st'=> ∃st0 xs,st'=st0++ [.lst xs]/\st.length<=st0.length/\D.nx (jG st0.length (.lst xs) env') st0} env st
theorem zr0 (h1:PS X a (xA X.K Ts))(h2:PS X b (xA X.K Tu))(h3:x8 X rst (xA X.K Tw)):x8 X (a::b::rst) (xA X.K (vY (zkW (vY Ts Tu)) Tw)):=
 iG (nB h1 (nB h2 h3)) λD σ H ⟨A,env,st,D3,rel,h,k⟩=>⟨A,env,st,_,rel,h,λA1 H1 σ1 env1 st1 g1 r1 h1=>⟨A1,env1,st1,_,r1,h1,λA2 H2 σ2 env2 st2 g2 r2 h2=>by
  obtain⟨st0,xs,rfl,hl,h2⟩:=h2;exact⟨_,_,st0,D3,r2.freeze,h2,k.after ((g1.trans g2).take (by rw[rel.rs.len];exact hl))⟩,k.rt.after g1,(k.after g1).bk,(k.after g1).ct⟩,k.rt,k.bk,k.ct⟩
end
end L3
namespace L3
open PySem PySem.Spec PyProof.Rows L2
section
variable {K:Frag} {A B:List Addr} {H H':Hp}
theorem xK.val {a:Addr}{k:z6}{x:PV} : ∀{kvs:List (z6×PV)} {us:List (z6×V)},xK K A H a kvs us->zI kvs k=some x->∃v,wJ us k=some v/\RE K A H x v
 | _,_,.nil,h=>by cases h
 | (k',x')::ps,(k2,v')::qs,.cons r t,h=>by
  have ek:k'=k2:=r.1;have rx:RR K A H a x' v':=r.2;subst ek;by_cases e:k'=k
  ·have e1:zI ((k',x')::ps) k=some x':=by unfold zI;rw[ci,decide_eq_true e];rfl
   rw[e1]at h;cases h;refine⟨v',lX e,?_⟩;cases rx with
   | val r=>exact .val r
   | obj _ _ e=>exact .obj e
  ·have e1:zI ((k',x')::ps) k=zI ps k:=by unfold zI;rw[ci,decide_eq_false e]
   rw[e1]at h;obtain⟨v,e2,r2⟩:=xK.val t h;exact⟨v,(lW (p:=(k',v')) e).trans e2,r2⟩
theorem zR.perm {C C':List Addr}(g:zR A H (A++C) H')(h: ∀b,b∈C'->b∈C):zR A H (A++C') H':=by
 obtain⟨⟨D,e,hD⟩,k,l⟩:=g;have:=rn e;subst this;exact⟨⟨C',rfl,λb m=>hD b (h b m)⟩,k,l⟩
theorem RS.rot {p:Addr}{st tl:z7}{o:PO}(hl:A.length=st.length)(s:RS K (A++p::B) H (st++o::tl))(hn: ∀x∈tl,∀kvs,x≠PO.rcd kvs):RS K (A++(B++ [p])) H (st++(tl++ [o])):=by
 have hm: ∀b,b∈A++(B++ [p])->b∈A++p::B:=λb h=>by
  simp only[au,az,jl,or_false]at h⊢
  rcases h with h | h | h <;> simp[h]
 have hlen:=s.len;rw[ai,ai,bq,bq]at hlen;have hlB:B.length=tl.length:=by omega
 refine⟨?_,by simp only[ai,bq,kq];omega,λi a u h1 h2=> ?_⟩
 ·have hp:(A++(B++ [p])).Perm (A++p::B):=fv A (jy p B)
  exact hp.nodup_iff.mpr s.nd
 ·by_cases hi:i < A.length
  ·rw[bo hi]at h1
   rw[bo (by omega)]at h2;have h1':(A++p::B)[i]?=some a:=by rw[bo hi];exact h1
   refine(s.at_ i a u h1' (by rw[bo (by omega)];exact h2)).less hm λi' j q e l e'=> ?_;have hii:i'=i:=(du (ad.mp e).1 s.nd).mp (e.trans h1'.symm);subst hii;refine⟨i',by rw[bo hi];exact h1,l,?_⟩;rw[bo (by omega)]at e'⊢
   exact e'
  ·rw[aq (by omega)]at h1
   rw[aq (by omega)]at h2;by_cases hj:i < A.length+B.length
   ·rw[bo (by omega)]at h1
    rw[bo (by omega)]at h2;have hu:=hn u (ck h2);have h1':(A++p::B)[i+1]?=some a:=by rw[aq (by omega),show i+1 - A.length=(i - A.length)+1 by omega,kh];exact h1
    have h2':(st++o::tl)[i+1]?=some u:=by rw[aq (by omega),show i+1 - st.length=(i - st.length)+1 by omega,kh];exact h2
    have oa:=s.at_ _ _ _ h1' h2';cases u with
    | lst xs=>obtain⟨vs,e,r,z⟩:=oa;exact⟨vs,e,r.less hm,z⟩
    | dct xs=>obtain⟨vs,e,r,z⟩:=oa;exact⟨vs,e,r.less hm,z⟩
    | tbl T pos q=>obtain⟨ea,ps,e,r⟩:=oa;exact⟨ea,ps,e,r.imp id λ⟨c',e1,e2,e3⟩=>⟨c',e1,e2,λm=>e3 (hm _ m)⟩⟩
    | itb kvs=>exact oa
    | rcd xs=>exact absurd rfl (hu xs)
    | fd ob xs=>obtain⟨vs,e,r,z⟩:=oa;exact⟨vs,e,r.less hm,z⟩
   ·rw[aq (by omega)]at h1
    rw[aq (by omega)]at h2;have hz:i - A.length - B.length=0:=by
     have:=(ad.mp h1).1;rw[bw]at this;omega
    rw[hz]at h1;rw[show i - st.length - tl.length=0 by omega]at h2;obtain rfl:p=a:=ce h1;obtain rfl:o=u:=ce h2;have h1':(A++p::B)[A.length]?=some p:=by rw[aq (ao _),fq];rfl
    refine(s.at_ A.length p o h1' (by rw[hl,aq (ao _),fq];rfl)).less hm λi' j q e l e'=> ?_;have hii:i'=A.length:=(du (ad.mp e).1 s.nd).mp (e.trans h1'.symm);subst hii;refine⟨A.length+B.length,by rw[aq (by omega),aq (by omega),show A.length+B.length - A.length - B.length=0 by omega];rfl,by omega,?_⟩;rw[bo (by omega)]at e'⊢
    exact e'
end
section
variable {X:Cx} {a b e:Expr} {es:List Expr} {pos p2:Pos} {Ta Tb:zB} {TA:yE}
def iP:R3:=λx y st Q=>match x with
 | .obj n=>(match y with
  | .str k=>(match st[n]? with | some (.rcd kvs)=>(match zI kvs (.inr k)with | some z=>Q z st | none=>False) | _=>False)
  | _=>False)
 | _=>False
theorem vT {k:Nat}(hr:zL k X.A):rB X (xN X.K iP):=by
 intro value slice pins s σ H v w vv ww Q I rv rw ⟨A,st,x,y,Q3,rs,ex,ey,h,k⟩ hs;unfold iP at h
 split at h
 ·split at h
  ·rename_i n y' kk
   split at h
   ·rename_i kvs q
    split at h
    ·rename_i z e
     cases ex with
     | val ex=>cases ex
     | obj eo=>
      obtain⟨us,h1,r,hzz⟩:=rs.at_ _ _ _ eo q;obtain⟨v',e2,r'⟩:=xK.val r e;exact zc6 hr value slice pins s σ H _ _ vv ww Q I rv rw ⟨_,v',rfl,.inl ⟨_,.inr kk,.inl h1,tT ey rfl,e2.symm⟩,k.now rs r' h⟩ hs
    ·exact h.elim
   ·exact h.elim
  ·exact h.elim
 ·exact h.elim
@[simp] theorem wG {n:Nat}{x:Str}{st:z7}{Q:K3} :iP (.obj n) (.str x) st Q=(match st[n]? with | some (.rcd kvs)=>(match zI kvs (.inr x)with | some z=>Q z st | none=>False) | _=>False):=rfl
def zdo:V->V->V->Hp->(Hp->Prop)->Prop:=λo i v H Q=> ∃a us k,o= .ref a/\i=kV k/\H a=some (.dK us)/\us.length < sizeLine/\Q (upd H a (.dK (wC us k v)))
theorem zkn {k:Nat}(hr:zL k X.A):kM X zdo:=by
 intro pins s σ H o i v ov iv u Q I ro ri rv ⟨a,us,kk,eo,ei,h1,hl,q⟩;subst eo ei;cases ro;exact zfs (by have:=hr.units;omega) I (.inl ⟨us,kk,h1,rfl,hl,rfl⟩) ri rv λs' I'=>⟨_,I',q⟩
theorem zcW {us:List (z6×V)}{k:z6}{v:V}(h:k∉us.map (·.1)):wC us k v=us++ [(k,v)]:=by
 unfold wC;rw[if_neg];intro z;obtain⟨p,hp,e⟩:=nh.mp z;exact h (bv.mpr ⟨p,hp,of_decide_eq_true e⟩)
theorem ziR: ∀{us acc:List (z6×V)},(us.map (·.1)).Nodup->(∀p∈us,p.1∉acc.map (·.1))->vS acc us=acc++us
 | [],acc,_,_=>(cn _).symm
 | p::us,acc,hn,hd=>by
  rw[am,dq]at hn;show vS (wC acc p.1 p.2) us=_;rw[zcW (hd p (ar ..)),ziR hn.2 λq hq=> ?_]
  ·simp
  ·rw[av,au]
   rintro(h | h)
   ·exact hd q (bc _ hq) h
   ·rw[am,ic,aj]at h
    exact hn.1 (h▸cf hq)
def sA (n:Nat):PV->PV
 | .obj j=>if j < n then .obj j else .obj (j - 1)
 | x=>x
theorem zkb {K:Frag}{A B:List Addr}{H:Hp}{p:Addr} : ∀{kvs:List (z6×PV)} {qs:List (V×V)},(A++(B++ [p])).Nodup->PRs K (A++p::B) H (kvs.map λkv=>(tB kv.1,kv.2)) qs->(∀q∈kvs,q.2≠ .obj A.length)->
  ∃us:List (z6×V),qs=us.map (λkv=>(kV kv.1,kv.2))/\us.map (·.1)=kvs.map (·.1)/\xK K (A++(B++ [p])) H p (kvs.map λq=>(q.1,sA A.length q.2)) us
 | [],qs,_,h,_=>by cases h;exact⟨[],rfl,rfl,.nil⟩
 | kv::kvs,qs,hd,h,hn=>by
  have hm: ∀b,b∈A++(B++ [p])->b∈A++p::B:=λb h=>by
   simp only[au,az,jl,or_false]at h⊢
   rcases h with h | h | h <;> simp[h]
  cases h with
  | @cons _ b _ _ r t=>
   obtain⟨us,rfl,ek,rk⟩:=zkb hd t λq hq=>hn q (bc _ hq);obtain⟨q1,q2⟩:=b;have e1:q1=kV kv.1:=tT r.1 zok;subst e1;refine⟨(kv.1,q2)::us,rfl,by rw[am,am,ek],.cons ⟨rfl,?_⟩ rk⟩;have h0:=hn kv (ar ..);obtain⟨k0,x0⟩:=kv;have r2:=r.2;dsimp only at r2 h0⊢
   have ip:(A++(B++ [p]))[A.length+B.length]?=some p:=by rw[aq (by omega),aq (by omega),show A.length+B.length - A.length - B.length=0 by omega];rfl
   cases r2 with
   | val rv=>
    have:sA A.length x0=x0:=by
     cases x0 with
     | obj j=>cases rv
     | _=>rfl
    rw[this];exact .val (rv.less hm)
   | obj eo=>
    rename_i j q;have hjA:j≠A.length:=λz=>h0 (by rw[z]);unfold sA;dsimp only
    split
    ·rename_i hj
     refine .obj ip (by omega) ?_;rw[bo hj]at eo⊢
     exact eo
    ·rename_i hj
     have hb:=(ad.mp eo).1;rw[ai,bq]at hb;refine .obj ip (by omega) ?_;rw[aq (by omega),show j - A.length=(j - 1 - A.length)+1 by omega,kh]at eo;rw[aq (by omega),bo (by omega)];exact eo
theorem xK.append {K:Frag}{A:List Addr}{H:Hp}{a:Addr} : ∀{x y:List (z6×PV)} {c d:List (z6×V)},xK K A H a x c->xK K A H a y d->xK K A H a (x++y) (c++d)
 | _,_,_,_,.nil,h=>h
 | _,_,_,_,.cons r t,h=> .cons r (xK.append t h)
def zkI (K:Frag)(i:Nat)(k5 k6:Str):TS:=lT (zkH (zdH zdI (zdH zdI zkD))) (zii K 2 (zcw (zcx (lU i) (tC (.str k5)) zdo) (zcw (zcx (lU i) (tC (.str k6)) zdo) zih)))
def nA (n:Nat)(k5 k6:Str)(kvs:List (z6×PV))(m:Nat):List (z6×PV):=kvs.map (λq=>(q.1,sA n q.2))++ [(.inr k5,.obj m),(.inr k6,.obj (m+1))]
def zea (i:Nat)(k5 k6:Str)(trs:List (zB×zB)):yQ:=λD env st=>fF trs env (st++ [.dct []]) λps st2=> ∃(kvs:List (z6×PV)) (tl:z7),ps=kvs.map (λkv=>(tB kv.1,kv.2))/\kvs.length<=13/\st2=st++ .dct []::tl/\
 (∀x∈tl,∀kvs,x≠PO.rcd kvs)/\(∀q∈kvs,q.2≠ .obj st.length)/\((kvs.map λ(q:z6×PV)=>q.1)++ [Sum.inr k5,Sum.inr k6]).Nodup/\i < env.length/\
 D.nx (env.set i (some (.obj (st.length+tl.length+2)))) (st++(tl++ [.dct [],.dct [],.rcd (nA st.length k5 k6 kvs (st.length+tl.length))]))
theorem zr1 {i:Nat}{x:Str}{k5 k6:Str}{pos' dpos:Pos}{keys:List (Option Expr)}{values:List Expr}{trs:List (zB×zB)}{s2:Stmt}{rst:List Stmt}{Tw:yQ}(hN:X.N.Nodup)(hi:X.N[i]?=some x)(hx:uW X.env.scope x)
  (h:qA X dpos keys values (j2 X.K trs)) (hall:keys.all (·.isSome)=true) (hl:keys.length=values.length) (h0:keys≠ []) (h15:keys.length<=15) (h2:PS X s2 (zkI X.K i k5 k6)) (h3:x8 X rst (xA X.K Tw))
  (hs:swapsWith (.Dict keys values dpos) (some (.Name x pos')) pos.line X.env=pure false:=by rfl) (hf:X.fn x=true∨X.env.scope.names.lookup x=some .local:=by first | exact .inl rfl | exact .inr rfl | assumption):
  x8 X (.Assign [.Name x pos'] (.Dict keys values dpos) pos::s2::rst) (xA X.K (vY (zea i k5 k6 trs) Tw)):=by
 refine iG (nB (zjG hN hi hx (zqz h hall hl h0 h15) hs hf) (nB h2 h3)) λD σ H ⟨A,env,st,D3,rel,hT,k⟩=> ?_;intro p hp;have hT':=hT;unfold vY zea at hT';have g0:zR A H (A++ [p]) (upd H p (.dK [])):= .newObj hp;have rs1:RS X.K (A++ [p]) (upd H p (.dK [])) (st++ [.dct []]):=rel.rs.newObj (q:= .dct []) hp ⟨[],yO,.nil,dg _⟩;refine zjz (rel.grow g0 rs1) hT' λA2 H2 st2 ps qs g s2 e hQ=> ?_;obtain⟨kvs,tl,rfl,h13,rfl,hno,hne,hnd,hie,q⟩:=hQ;have hAl:=rel.rs.len;obtain⟨B,eA,hB⟩:=g.ext;rw[bh,uo]at eA;subst eA;have g2:zR A H (A++p::B) H2:=g0.trans g;have s3:=s2.rot hAl hno;rw[<- hAl]at hne;obtain⟨us,rfl,ek,rr⟩:=zkb s3.nd e hne;have hpA:(A++p::B)[A.length]?=some p:=by rw[aq (ao _),fq];rfl
 obtain⟨us0,e0,r0,_⟩:=s2.at_ _ _ _ hpA (by rw[hAl,aq (ao _),fq];rfl);cases r0;have hul:us.length=kvs.length:=by rw[<- ac (f:=(·.1)),ek,ac]
 refine⟨e0,us,rfl,by omega,?_⟩;have hnd':=ba.mp hnd;have hm0:vS [] us=us:=by rw[ziR (by rw[ek];exact hnd'.1) (λ_ _ z=>by simp at z)];rfl
 rw[hm0];have g3:zR A H (A++(B++ [p])) H2:=g2.perm λb hb=>by
  simp only[au,az,jl,or_false]at hb⊢
  rcases hb with hb | hb <;> simp[hb]
 have hp3:(A++(B++ [p]))[A.length+B.length]?=some p:=by rw[aq (by omega),aq (by omega),show A.length+B.length - A.length - B.length=0 by omega];rfl
 have mp:p∈A++(B++ [p]):=ck hp3;have hlB:B.length=tl.length:=by
  have:=s2.len;rw[ai,ai,bq,bq]at this;omega
 have gp:zR (A++(B++ [p])) H2 (A++(B++ [p])) (upd H2 p (.dK us)):= .put mp;have s4:RS X.K (A++(B++ [p])) (upd H2 p (.dK us)) (st++(tl++ [.rcd (kvs.map λq=>(q.1,sA A.length q.2))])):=by
  have:=s3.put (o:= .dK us) (q:= .rcd (kvs.map λq=>(q.1,sA A.length q.2))) hp3 ⟨us,yO,xK.grow gp rr,by rw[cx];omega⟩;rw[fw _ _ (by omega),fw _ _ (by omega),show A.length+B.length - st.length - tl.length=0 by omega]at this;exact this
 show zkI X.K i k5 k6 _ (σ.set i (some (.ref p))) (upd H2 p (.dK us));intro p3 hp3n p4 hp4n;refine⟨by show 2<=sizeLine;decide,λp5 hp5n=>⟨p5,[.ref p3,.ref p4],rfl,.inl (.inl yO),rfl,?_⟩⟩;have hσ:(σ.set i (some (V.ref p)))[i]?=some (some (.ref p)):=by
  rw[gu (by rw[<- rel.len];exact hie)]
 have g5:zR (A++(B++ [p])) (upd H2 p (.dK us)) (A++(B++ [p])++ [p3]) (upd (upd H2 p (.dK us)) p3 (.dK [])):= .newObj hp3n;have s5:=s4.newObj (p:=p3) (o:= .dK []) (q:= .dct []) hp3n ⟨[],yO,.nil,dg _⟩;have s6:=s5.newObj (p:=p4) (o:= .dK []) (q:= .dct []) hp4n ⟨[],yO,.nil,dg _⟩;have g6:=g5.trans (.newObj (o:= .dK []) hp4n);have s7:=s6.new (o:= .tup [.ref p3,.ref p4]) hp5n;have g7:=g6.trans (.new (o:= .tup [.ref p3,.ref p4]) hp5n);have hpp3:p≠p3:=λz=>by rw[<- z,yO]at hp3n;cases hp3n
 have hpp4:p≠p4:=λz=>by rw[<- z,yN hpp3,yO]at hp4n;cases hp4n
 have hpp5:p≠p5:=λz=>by rw[<- z,yN hpp4,yN hpp3,yO]at hp5n;cases hp5n
 have eA':A++(B++ [p])++ [p3]++ [p4]=(A++B)++p:: [p3,p4]:=by simp
 have eS':st++(tl++ [PO.rcd (kvs.map λq=>(q.1,sA A.length q.2))])++ [PO.dct []]++ [PO.dct []]=(st++tl)++PO.rcd (kvs.map λq=>(q.1,sA A.length q.2)):: [.dct [],.dct []]:=by simp
 rw[eA',eS']at s7;have s8:=s7.rot (by rw[ai,ai];omega) (by intro x hx kvs z;subst z;simp at hx);rw[eA']at g7;have gAll:zR A H (A++(B++p:: [p3,p4])) (upd (upd (upd (upd H2 p (.dK us)) p3 (.dK [])) p4 (.dK [])) p5 (.tup [.ref p3,.ref p4])):=by
  have:=(g3.trans gp).trans g7;rw[bh]at this;exact this
 have g8:zR A H (A++(B++([p3,p4]++ [p]))) (upd (upd (upd (upd H2 p (.dK us)) p3 (.dK [])) p4 (.dK [])) p5 (.tup [.ref p3,.ref p4])):=gAll.perm λb hb=>by
  simp only[au,az,jl,or_false]at hb⊢
  rcases hb with hb | (hb | hb) | hb <;> simp[hb]
 rw[<- bh]at g8;have hat:(A++B++([p3,p4]++ [p]))[A.length+B.length+2]?=some p:=by
  rw[aq (by rw[ai];omega),ai,show A.length+B.length+2 - (A.length+B.length)=2 by omega];rfl
 obtain⟨us8,e8,r8,_⟩:=s8.at_ _ _ _ hat (by rw[aq (by rw[ai];omega),ai,show A.length+B.length+2 - (st.length+tl.length)=2 by omega];rfl);have e9:us8=us:=by
  rw[yN hpp5,yN hpp4,yN hpp3,yO]at e8;cases e8;rfl
 subst e9;have k1:(Sum.inr k5:z6)∉us8.map (·.1):=by
  rw[ek];intro z;exact hnd'.2.2 _ z _ (by simp) rfl
 have hk56:(Sum.inr k5:z6)≠ .inr k6:=by
  have:=hnd'.2.1;simp at this;intro z;cases z;exact this rfl
 have k2:(Sum.inr k6:z6)∉(us8++ [(Sum.inr k5,V.ref p3)]).map (λ(q:z6×V)=>q.1):=by
  rw[av,au,ek];rintro(z | z)
  ·exact hnd'.2.2 _ z _ (by simp) rfl
  ·simp only[am,ic,aj]at z
   exact hk56 z.symm
 refine⟨.ref p3,[.ref p4],rfl,.ref p,hσ,p,us8,.inr k5,rfl,rfl,e8,by rw[cx];omega,?_⟩;rw[zcW k1];refine⟨.ref p4,[],rfl,.ref p,hσ,p,_,.inr k6,rfl,rfl,yO,by rw[cx,ai,bw];omega,?_⟩;rw[zcW k2];refine⟨rfl,?_⟩;have m8:p∈A++B++([p3,p4]++ [p]):=ck hat;have g9:=(zR.put (H:=upd (upd (upd (upd H2 p (.dK us8)) p3 (.dK [])) p4 (.dK [])) p5 (.tup [.ref p3,.ref p4])) (o:=HO.dK (us8++ [(Sum.inr k5,V.ref p3)])) m8).trans (zR.put (o:=HO.dK (us8++ [(Sum.inr k5,V.ref p3)]++ [(Sum.inr k6,V.ref p4)])) m8);have a3:(A++B++([p3,p4]++ [p]))[A.length+B.length]?=some p3:=by
  rw[aq (by rw[ai];omega),ai,fq];rfl
 have a4:(A++B++([p3,p4]++ [p]))[A.length+B.length+1]?=some p4:=by
  rw[aq (by rw[ai];omega),ai,show A.length+B.length+1 - (A.length+B.length)=1 by omega];rfl
 have r9:=xK.append (xK.append (xK.grow g9 r8) (y:= [(Sum.inr k5,.obj (A.length+B.length))]) (d:= [(Sum.inr k5,V.ref p3)]) (.cons ⟨rfl,.obj hat (by omega) a3⟩ .nil)) (y:= [(Sum.inr k6,.obj (A.length+B.length+1))]) (d:= [(Sum.inr k6,V.ref p4)]) (.cons ⟨rfl,.obj hat (by omega) a4⟩ .nil);have s9:=s8.put (q:= .rcd ((kvs.map λ(q:z6×PV)=>(q.1,sA A.length q.2))++ [(Sum.inr k5,.obj (A.length+B.length))])) hat (o:=HO.dK (us8++ [(Sum.inr k5,V.ref p3)])) ⟨_,yO,xK.append (xK.grow (.put m8) r8) (.cons ⟨rfl,.obj hat (by omega) a3⟩ .nil),by rw[cx,ai,bw];omega⟩;have s10:=s9.put (q:= .rcd (nA A.length k5 k6 kvs (A.length+B.length))) hat (o:=HO.dK (us8++ [(Sum.inr k5,V.ref p3)]++ [(Sum.inr k6,V.ref p4)])) ⟨_,yO,by
  have:=r9;rw[bh (kvs.map _)]at this;exact this,by rw[cx,ai,ai,bw,bw];omega⟩
 have g10:=g8.trans g9;have eFin:(((st++tl)++([PO.dct [],.dct []]++ [PO.rcd (kvs.map λq=>(q.1,sA A.length q.2))])).set (A.length+B.length+2) (.rcd ((kvs.map λq=>(q.1,sA A.length q.2))++ [(Sum.inr k5,.obj (A.length+B.length))]))).set (A.length+B.length+2) (.rcd (nA A.length k5 k6 kvs (A.length+B.length)))=st++(tl++ [.dct [],.dct [],.rcd (nA st.length k5 k6 kvs (st.length+tl.length))]):=by
  rw[List.set_set,fw _ _ (by rw[ai];omega),ai,show A.length+B.length+2 - (st.length+tl.length)=2 by omega,bh,hAl,hlB];rfl
 rw[eFin]at s10;have hrel:=(rel.grow g10 s10).set i (x:= .obj (st.length+tl.length+2)) (v:= .ref p) (.obj (by rw[<- hAl,<- hlB];exact hat));exact⟨_,_,_,D3,hrel,q,k.after g10⟩
end
end L3
namespace L3
open PySem PySem.Spec PyProof.Rows L2
namespace LR
theorem no_len:typeLookup (.type "list_reverseiterator") "__len__" =pure none:=by rw[fg,di];kernel_rfl
theorem hint_at:typeLookup (.type "list_reverseiterator") "__length_hint__" =pure (some (.builtin "list_reverseiterator.__length_hint__")):=by rw[fg,di];kernel_rfl
end LR
section
variable {prog:Program} {w:World} {A:Around} {E:Value->Shared->Prop} {s:Shared}
theorem znK {I l:Addr}{i:Int}{Q:Bool->Shared->Prop}(hit:s.heap.IsRevIter I l i)(h:Q false s):ak (ay prog w) A (Builtin.List.listLengthHint (.ref I)) Q E s:=by
 have hT:=hit.typeIs;unfold Builtin.List.listLengthHint;refine aa (gd hT LR.no_len ?_);show ak _ A (specialOf (Value.ref I) (Str.ofString "__length_hint__") >>= _) _ _ _;refine aa (gd hT LR.hint_at ?_)
 (generalize hid:("list_reverseiterator.__length_hint__" :String)=id0;(fail_if_success (clear hid id0));wp_delta;rw[show splitId id0=some ("list_reverseiterator","__length_hint__")from by subst hid;decide+kernel];subst hid)
 refine aa (jk (b:=true) hT (by rw[il];kernel_rfl) ?_);refine lw (λhab=>absurd hab (by decide)) (λ_=> ?_);refine lw (λ_=> ?_) (λhab=>absurd (by decide+kernel) hab);refine lw (λhab=>absurd hab (by decide+kernel)) (λ_=> ?_);exact ah h
abbrev kQ (items:Array Value):Nat->Value->Prop:=λi v=>items[items.size - 1 - i]?=some v
theorem znz {R:Result->Shared->Prop}{I l S:Addr}{items:Array Value}(hh:A.handled=none)(hit:s.heap.IsRevIter I l ((items.size:Int) - 1))(hl:s.heap.IsList l items)(hlI:l≠I)(hSI:S≠I)(hSl:S≠l)(res:Value)(c₀:Nat)
  (hS:s.heap.get? S=some {cls:= .type "list",data:= .seq #[] c₀})
  (hR: ∀h' tk acc' c',(∀b o,b≠S->b≠I->s.heap.get? b=some o->h'.get? b=some o)->h'.get? S=some {cls:= .type "list",dict:=none,data:= .seq acc' c',slots:= #[]} ->ItemsOf (kQ items) acc' items.size->R (.ok (.ret res)) {s with heap:=h',toks:=tk}) (hn:items.size<=sizeLine):
  ak (ay prog w) A.in1 (Builtin.List.listExtendWith (.ref S) (.ref I) res)
   (λfin s'=>match fin with | .done f=>R (.ok f) s' | .again c'=>c'.quiet=true/\codeAny (ay prog w) A c' R s') (λe s'=>R (.error e) s') s:=by
 have hSf:S∉ [I,l]:=by simp only[az,jl,or_false,not_or];exact⟨hSI,hSl⟩
 have W:=Walks.listRev (prog:=prog) (w:=w) (A:=A.in1) hh I l hlI items;have st:0<=items.size/\s.heap.IsRevIter I l ((items.size:Int) - 1 - ((0:Nat):Int))/\s.heap.IsList l items:=⟨dg _,by simpa using hit,hl⟩;have key: ∀(h:Heap) (c₁ tk:Nat),(0<=items.size/\h.IsRevIter I l ((items.size:Int) - 1 - ((0:Nat):Int))/\h.IsList l items)->(∀b o,b≠S->s.heap.get? b=some o->h.get? b=some o)->
   h.get? S=some {cls:= .type "list",data:= .seq #[] c₁} ->codeAny (ay prog w) A (.builtin "list.extend.loop" ⟨[.ref S,.ref I,res],[]⟩) R {s with heap:=h,toks:=tk} :=by
  intro h c₁ tk hst hk hS₁;refine oh W.toS hn S hSf res items.size 0 _ #[] c₁ rfl (dg _) hst hS₁ (xa _) λs' acc' c' hm hS' hacc=> ?_;rw[xv hm];refine hR s'.heap s'.toks acc' c' (λb o hb hbI e=>hm.heap b o (λhmem=> ?_) (hk b o hb e)) hS' hacc;rcases az.mp hmem with e' | hmem
  ·exact hb e'
  ·exact hbI (aj.mp hmem)
 unfold Builtin.List.listExtendWith;refine aa (ib (T:= "list_reverseiterator") hit.typeIs ?_);have h1:Builtin.List.listSameRef (.ref S) (.ref I)=false:=by simp[Builtin.List.listSameRef,hSI]
 have h2:(Value.type "list_reverseiterator" ==Value.type "list")=false:=by decide
 have h3:(Value.type "list_reverseiterator" ==Value.type "tuple")=false:=by decide
 simp only[h1,h2,h3,pp,ir,if_false];refine aa (wpAny_pyIter_revIter hit ?_);refine aa (cq (znK hit ?_));refine lw (λ_=> ?_) (λ_=>ah ⟨gt kb _,key _ c₀ _ st (λb o _ e=>e) hS⟩);refine aa (km ?_);refine aa ?_;show ak _ _ (updateSeq S (·.push .none) >>= λ_=>updateSeq S (·.pop)) _ _ _;refine aa (ix hS rfl ?_);have hS₂:=cz (Obj.mapSeq (·.push Value.none)) hS rfl;refine ix (hz:=by seq_fits) hS₂ rfl ?_;have hS₃:=cz (Obj.mapSeq (·.pop)) hS₂ rfl;refine ah ⟨gt kb _,key _ _ _ ?_ (λb o hb e=> ?_) hS₃⟩
 ·refine W.frame 0 _ _ st λb hb o e=> ?_
  have hbS:b≠S:=λh=>hSf (h▸hb);exact(bp _ _ (dk hbS)).trans ((bp _ _ (dk hbS)).trans e)
 ·exact(bp _ _ (dk hb)).trans ((bp _ _ (dk hb)).trans e)
theorem zmE {Q:Value->Shared->Prop}{I l:Addr}{items:Array Value}(hh:A.handled=none)(hit:s.heap.IsRevIter I l ((items.size:Int) - 1))(hl:s.heap.IsList l items)(hlI:l≠I)(hn:items.size<=sizeLine)
  (hQ: ∀h' tk acc' c',(∀b o,b≠I->s.heap.get? b=some o->h'.get? b=some o)->h'.get? s.heap.objs.size=some {cls:= .type "list",dict:=none,data:= .seq acc' c',slots:= #[]} ->ItemsOf (kQ items) acc' items.size->Q (.ref s.heap.objs.size) {s with heap:=h',toks:=tk}):
  ak (ay prog w) A (call (.type "list") [.ref I]) Q E s:=by
 refine lh (Q₁:=λobj s₁=>obj= .ref s.heap.objs.size/\s₁= {s with heap:=s.heap.push {cls:= .type "list",data:= .seq #[]}}) vp (rp _) rq
  (code_list_new _ ⟨rfl,rfl⟩) λobj s₁ h₁=> ?_
 obtain⟨rfl,rfl⟩:=h₁;have hIl:I < s.heap.objs.size:=by obtain⟨o,e,_⟩:=id hit;exact aw e
 have hll:l < s.heap.objs.size:=by obtain⟨o,e,_⟩:=id hl;exact aw e
 have kp: ∀b o,s.heap.get? b=some o->(s.heap.push {cls:= .type "list",data:= .seq #[]}).get? b=some o:=λb o e=>ae _ e;generalize hS':s.heap.objs.size=S at *;have hS:(s.heap.push {cls:= .type "list",data:= .seq #[]}).get? S=some {cls:= .type "list",data:= .seq #[]} :=by rw[<- hS'];exact br _ rfl
 refine⟨⟨_,hS,rfl⟩,qw _ _,?_⟩;show ak _ _ (do let old <- Builtin.List.listItems (.ref S);Builtin.List.listUpdate (.ref S) (λ_=> #[]);letGo old.toList.reverse;Builtin.List.listExtendWith (.ref S) (.ref I) .none) _ _ _;refine aa ?_;unfold Builtin.List.listItems;refine aa (uh hS rfl (ah ?_));show ak _ _ (updateSeq S (λ_=> #[]) >>= λ_=>letGo (#[]:Array Value).toList.reverse >>= λ_=>Builtin.List.listExtendWith (.ref S) (.ref I) .none) _ _ _;refine aa (ix hS rfl ?_);have hS₂:=cz (Obj.mapSeq (λ_=>(#[]:Array Value))) hS rfl;have oth: ∀b o,b≠S->s.heap.get? b=some o->((s.heap.push {cls:= .type "list",data:= .seq #[]}).update S (Obj.mapSeq (λ_=>(#[]:Array Value)))).get? b=some o:=
  λb o hb e=>(bp _ _ (dk hb)).trans (kp b o e)
 refine aa (wpAny_letGo ?_);refine znz (A:=A.in1) hh (hit.at λo e=>oth _ _ (bb hIl) e) (hl.at λo e=>oth _ _ (bb hll) e) hlI (dz hIl) (dz hll) .none _ hS₂ (λh' tk acc' c' hk hSS hacc=> ?_) hn;refine⟨rfl,?_⟩;exact hQ h' tk acc' c' (λb o hb e=>hk b o (by rw[<- hS'];exact bb (aw e)) hb (oth b o (by rw[<- hS'];exact bb (aw e)) e)) hSS hacc
end
section
variable {X:Cx}
def zsT (K:Frag)(te:TE):TE:=λσ H Q=>te σ H λx H1=> ∃(a:Addr) (xs:List V),x= .ref a/\yT K H1 a xs/\∀p,H1 p=none->Q (.ref p) (upd H1 p (.lst xs.reverse))
theorem zq2 {e:Expr}{te:TE}{p p2 pos pos2:Pos}(hc:X.calm=true)(hg:Gl X "list")(hm:X.mg "list" =none)(hg2:Gl X "reversed")(hm2:X.mg "reversed" =none)(he:PE X e te)
  (hs:starEach [e] X.env= [(false,eval e X.env)]) (hs2:starEach [.Call (.Name "reversed" p2) [e] [] pos2] X.env= [(false,eval (.Call (.Name "reversed" p2) [e] [] pos2) X.env)]):
  PE X (.Call (.Name "list" p) [.Call (.Name "reversed" p2) [e] [] pos2] [] pos) (zsT X.K te):=⟨λpins s σ H Q I h=>by
 refine ef (tU I hg hm (show bootBuiltins "list" =some (.type "list") by decide+kernel) (callWith_type1 ?_ hs2 rfl));rw[hs2];show ak _ _ (spliced ((false,eval (.Call (.Name "reversed" p2) [e] [] pos2) X.env)::backTo pos [])) _ _ s;refine jq (ef (tU I hg2 hm2 zeX (callWith_type1 ?_ hs rfl)));rw[hs];show ak _ _ (spliced ((false,eval e X.env)::backTo pos2 [])) _ _ s;refine jq (zM (he pins s σ H _ I h) λu s1 ⟨x,H1,I1,r1,q1⟩=>jz ?_);obtain⟨a,xs,rfl,hq,q⟩:=q1;cases r1;obtain⟨its,rv,ip,hz⟩:=I1.list hq;have hl:=rv.length;have hzz:its.toArray.size<=sizeLine:=by rw[be];omega
 have al:a < s1.heap.objs.size:=by obtain⟨o,e,_⟩:=id ip.isList;exact aw e
 refine call_reversed_list ip.isList ?_;refine jz ?_;have kp: ∀b o,s1.heap.get? b=some o->(s1.heap.push (revObj a ((its.toArray.size:Int) - 1))).get? b=some o:=λb o e=>ae _ e;refine zmE (I:=s1.heap.objs.size) (l:=a) (items:=its.toArray) (I1.ok.hd hc) ⟨_,br _ rfl,rfl,rfl⟩ (ip.isList.at λo e=>kp _ _ e) (bb al) hzz λh' tk acc c' k1 hS hacc=> ?_;have k5: ∀b o,s1.heap.get? b=some o->h'.get? b=some o:=λb o e=>k1 b o (bb (aw e)) (kp b o e);have hfr:H1 (s1.heap.push (revObj a ((its.toArray.size:Int) - 1))).objs.size=none:=I1.hok.fresh (by rw[iu];exact fz _);refine⟨.ref _,_,I1.laid (t':=tk) (o:= .lst xs.reverse) k5 (by rw[iu];exact fz _) ⟨by rw[cm];exact hz,acc.toList,c',zjX rv hacc,?_⟩,rfl,q _ hfr⟩;simpa using hS⟩
def zkZ (T:zB):zB:=λenv st Q=>T env st λx st1=>match x with | .lst xs=>Q (.lst xs.reverse) st1 | _=>False
@[simp] theorem zxj {T:zB}{env:zG}{st:z7}{Q:K3} :zkZ T env st Q=(T env st λx st1=>match x with | .lst xs=>Q (.lst xs.reverse) st1 | _=>False):=rfl
theorem zro {e:Expr}{Ta:zB}{p p2 pos pos2:Pos}(hc:X.calm=true)(hg:Gl X "list")(hm:X.mg "list" =none)(hg2:Gl X "reversed")(hm2:X.mg "reversed" =none)(he:PE X e (zK X.K Ta))
  (hs:starEach [e] X.env= [(false,eval e X.env)]:=by rfl) (hs2:starEach [.Call (.Name "reversed" p2) [e] [] pos2] X.env= [(false,eval (.Call (.Name "reversed" p2) [e] [] pos2) X.env)]:=by rfl):
  PE X (.Call (.Name "list" p) [.Call (.Name "reversed" p2) [e] [] pos2] [] pos) (zK X.K (zkZ Ta)):=by
 refine xL (zq2 hc hg hm hg2 hm2 he hs hs2) λσ H Q ⟨A,env,st,Q3,rel,h,k⟩=>⟨A,env,st,_,rel,h,λA1 H1 st1 x v g1 s1 e1 h1=> ?_⟩
 split at h1
 ·cases e1 with | val e=>cases e with | lst t z r=>
   exact⟨_,_,rfl,t.sq,(k.after g1).lst s1 r.reverse (by rw[cm];exact z) h1⟩
 ·exact h1.elim
def oK (lo hi:Int):List V:=(List.range (hi - lo).toNat).map λ(i:Nat)=> .int (lo+(i:Int))
def zsV (ta:TA):TE:=λσ H Q=>ta σ H λvs H1=> ∃lo hi:Int,vs= [.int lo,.int hi]/\(-(2 ^ 20)<=lo/\lo < 2 ^ 20/\ -(2 ^ 20)<=hi/\hi < 2 ^ 20)/\∀p,H1 p=none->Q (.ref p) (upd H1 p (.lst (oK lo hi)))
theorem zq4 {a b:Expr}{ta:TA}{p p2 pos pos2:Pos}(hc:X.calm=true)(hg:Gl X "list")(hm:X.mg "list" =none)(hg2:Gl X "range")(hm2:X.mg "range" =none)(ha:PA X [a,b] ta)
  (hs:starEach [a,b] X.env= [(false,eval a X.env),(false,eval b X.env)]) (hs1:starEach [b] X.env= [(false,eval b X.env)]) (hs2:starEach [.Call (.Name "range" p2) [a,b] [] pos2] X.env= [(false,eval (.Call (.Name "range" p2) [a,b] [] pos2) X.env)]):
  PE X (.Call (.Name "list" p) [.Call (.Name "range" p2) [a,b] [] pos2] [] pos) (zsV ta):=⟨λpins s σ H Q I h=>by
 refine ef (tU I hg hm (show bootBuiltins "list" =some (.type "list") by decide+kernel) (callWith_type1 ?_ hs2 rfl));rw[hs2];show ak _ _ (spliced ((false,eval (.Call (.Name "range" p2) [a,b] [] pos2) X.env)::backTo pos [])) _ _ s;refine jq (ef (tU I hg2 hm2 boot_range (callWith_type1 (zM (ha pos2 pins s σ H _ I h) λus s1 ⟨vs,H1,I1,r1,q1⟩=> ?_) (by rw[hs,hs1]) (by rw[hs1];rfl))));obtain⟨lo,hi,rfl,⟨b1,b2,b3,b4⟩,q⟩:=q1;cases r1 with
 | cons r rr=>
  cases rr with
  | cons r' rr=>
   cases rr;obtain⟨t,rfl⟩:=r;obtain⟨t',rfl⟩:=r';refine call_range_2 ?_;refine jz ?_;have hrs:Builtin.Range.rangeSize lo hi 1=(((hi - lo).toNat:Nat):Int):=by rw[rangeSize_one];split <;> omega
   refine call_list_range (n:=(hi - lo).toNat) (I1.ok.hd hc) (IsRange.new ..) (small_one (by omega) (by omega) (by omega) (by omega)) hrs (by omega) λh' tk acc c' k1 hS hacc=> ?_;have kp:=k1;have k5: ∀b o,s1.heap.get? b=some o->h'.get? b=some o:=λb o e=>k1 b o (ae _ e);refine⟨.ref _,_,I1.laid (t':=tk) (o:= .lst (oK lo hi)) k5 (by rw[iu];exact fz _) ⟨by unfold oK;rw[ac,mq,cx];omega,acc.toList,c',lY ?_ λj v x hv hx=> ?_,by simpa using hS⟩,rfl,q _ (I1.hok.fresh (by rw[iu];exact fz _))⟩
   ·unfold oK;rw[ac,mq];simpa using hacc.1.symm
   ·obtain⟨u,rfl⟩:=hacc.2 j v (by simpa using hv)
    unfold oK at hx;rw[cg]at hx;cases ej:(List.range (hi - lo).toNat)[j]? with
    | none=>rw[ej]at hx;cases hx
    | some k=>
     rw[ej]at hx;cases hx;have:=ad.mp ej;obtain⟨hj,e⟩:=this;rw[wm]at e;subst e;exact⟨u,by rw[Int.mul_one]⟩⟩
def zlb (T:yE):zB:=λenv st Q=>T env st λxs st1=>match xs with | [.int lo,.int hi]=>(-(2 ^ 20)<=lo/\lo < 2 ^ 20/\ -(2 ^ 20)<=hi/\hi < 2 ^ 20)/\Q (.obj st1.length) (st1++ [.lst ((List.range (hi - lo).toNat).map λ(i:Nat)=> .int (lo+(i:Int)))]) | _=>False
@[simp] theorem zxk {T:yE}{env:zG}{st:z7}{Q:K3} :zlb T env st Q=(T env st λxs st1=>match xs with | [.int lo,.int hi]=>(-(2 ^ 20)<=lo/\lo < 2 ^ 20/\ -(2 ^ 20)<=hi/\hi < 2 ^ 20)/\Q (.obj st1.length) (st1++ [.lst ((List.range (hi - lo).toNat).map λ(i:Nat)=> .int (lo+(i:Int)))]) | _=>False):=rfl
theorem zkc {K:Frag}{A:List Addr}{H:Hp}{α:Type}(f:α->Int): ∀l:List α,RVs K A H (l.map λi=>PV.int (f i)) (l.map λi=>V.int (f i))
 | []=> .nil
 | x::l=> .cons (.int _) (zkc f l)
theorem zrq {a b:Expr}{TA:yE}{p p2 pos pos2:Pos}(hc:X.calm=true)(hg:Gl X "list")(hm:X.mg "list" =none)(hg2:Gl X "range")(hm2:X.mg "range" =none)(ha:PA X [a,b] (vD X.K TA))
  (hs:starEach [a,b] X.env= [(false,eval a X.env),(false,eval b X.env)]:=by rfl) (hs1:starEach [b] X.env= [(false,eval b X.env)]:=by rfl) (hs2:starEach [.Call (.Name "range" p2) [a,b] [] pos2] X.env= [(false,eval (.Call (.Name "range" p2) [a,b] [] pos2) X.env)]:=by rfl):
  PE X (.Call (.Name "list" p) [.Call (.Name "range" p2) [a,b] [] pos2] [] pos) (zK X.K (zlb TA)):=by
 refine xL (zq4 hc hg hm hg2 hm2 ha hs hs1 hs2) λσ H Q ⟨A,env,st,Q3,rel,h,k⟩=>⟨A,env,st,_,rel,h,λA1 H1 st1 xs vs g1 s1 e1 h1=> ?_⟩
 split at h1
 ·rename_i lo hi
  obtain⟨v,w,rfl,r1,r2⟩:=yP.two e1;cases xH r1;cases xH r2;refine⟨lo,hi,rfl,h1.1,λp hp=>k (A1++ [p]) _ _ _ _ (g1.trans (.newObj hp)) (s1.newObj (q:= .lst _) hp ⟨_,yO,zkc _ _,?_⟩) (.obj (jY s1.len)) h1.2⟩;have:=h1.1;unfold oK;rw[ac,mq,cx];omega
 ·exact h1.elim
end
section
variable {prog:Program} {w:World} {A:Around} {E:Value->Shared->Prop}
theorem zf0 {I:Addr}{fp wr:List Addr}{n:Nat}{P:Nat->Value->Prop}{St:Nat->Heap->Prop}(W:Walks prog w A I fp wr n P St): ∀(m i:Nat) (s:Shared) (Q:List Value->Shared->Prop),St i s.heap->i+m<=n->
  (∀vs h' tk,vs.length=m->(∀(j:Nat) (v:Value),vs[j]?=some v->P (i+j) v)->St (i+m) h'->(∀b o,b∉wr->s.heap.get? b=some o->h'.get? b=some o)->Q vs {s with heap:=h',toks:=tk})->ak (ay prog w) A (draw (.ref I) m) Q E s
 | 0,i,s,Q,st,_,hQ=>by
  show ak _ _ (pure []) Q E s;exact ah (hQ [] s.heap s.toks rfl (λj v h=>by simp at h) st λ_ _ _ e=>e)
 | m+1,i,s,Q,st,hle,hQ=>by
  show ak _ _ (pyNext (.ref I) >>= _) Q E s;refine aa (W.item i s _ _ (by omega) st λv h1 tk1 hv st1 k1=> ?_);refine aa (cq (zf0 W m (i+1) {s with heap:=h1,toks:=tk1} _ st1 (by omega) λvs h2 tk2 hl hP st2 k2=>ah ?_));refine hQ (v::vs) h2 tk2 (by rw[bq,hl]) (λj u hj=> ?_) (by rw[show i+(m+1)=i+1+m by omega];exact st2) λb o hb e=>k2 b o hb (k1 b o hb e);cases j with
  | zero=>simp at hj;subst hj;exact hv
  | succ j=>rw[show i+(j+1)=i+1+j by omega];exact hP j u (by simpa using hj)
theorem zt3 {x:Str}{t:Tok}{targets:List (Bool×(Value->Sem Unit))}{Q:Unit->Shared->Prop}{s:Shared}(hh:A.handled=none)(hn:targets.length=x.cps.size)(hst:targets.findIdx? (·.1)=none)
  (h: ∀vs h' tk,vs.length=x.cps.size->(∀(j:Nat) (v:Value),vs[j]?=some v->SignAt x j v)->(∀b o,s.heap.get? b=some o->h'.get? b=some o)->ak (ay prog w) A (assignInOrder (targets.map (·.2)) vs) Q E {s with heap:=h',toks:=tk}):
  ak (ay prog w) A (unpack (.str x t) targets) Q E s:=by
 unfold unpack;rw[hn,hst];refine aa (cq ?_);unfold unpackItems;refine aa ?_;unfold notIterableAtAll;refine aa (gd (T:= "str") rfl PySem.F.slot_str_iter.lookup ?_);refine ah ?_;simp only[ir,if_false];refine aa (cq (wpAny_pyIter_strU ?_));have hW: ∃St:Nat->Heap->Prop,Walks prog w A s.heap.objs.size [s.heap.objs.size] [s.heap.objs.size] x.cps.size (SignAt x) St/\St 0 (s.heap.push {cls:= .type (strIterType x),data:= .fields #[.str x t,.int 0 0]}):=by
  unfold strIterType;by_cases ha:x.cps.all (· < 128)=true
  ·rw[if_pos ha]
   exact⟨_,Walks.strAscii hh _ x t,⟨_,br _ rfl,rfl,rfl⟩⟩
  ·rw[if_neg ha]
   exact⟨_,Walks.strWide hh _ x t,⟨_,br _ rfl,rfl,rfl⟩⟩
 obtain⟨St,W,st⟩:=hW;refine aa (cq (zf0 W x.cps.size 0 _ _ st (by omega) λvs h1 tk1 hl hP st1 k1=> ?_));rw[if_neg (by omega)];refine aa (cq (W.done _ _ _ (by simpa using st1) λh2 tk2 k2=> ?_));simp only[Option.isSome_none,ir,if_false];refine ah (h vs h2 tk2 hl (λj v hj=>by simpa using hP j v hj) λb o e=> ?_);have hb:b∉ [s.heap.objs.size]:=λz=>bb (aw e) (aj.mp z);exact k2 b o hb (k1 b o hb (ae _ e))
end
section
variable {X:Cx} {es:List Expr} {pos:Pos}
def nM (x:Str):List Str:=x.cps.toList.map λc=>⟨#[c]⟩
def zn9 (n:Nat)(t:u6):TG:=λv σ H Q=> ∃x:Str,v= .str x/\x.cps.size=n/\t ((nM x).map V.str) σ H Q
theorem zqH {k:Nat}{t:u6}{n:Nat}(hc:X.calm=true)(h:vL X es t)(hn:(assignEach es X.env).length=n:=by rfl)(hst:(assignEach es X.env).findIdx? (·.1)=none:=by rfl):PG X (.Tuple es k pos) (zn9 n t):=by
 refine⟨λpins s σ H v u Q I r hw=> ?_⟩;obtain⟨x,rfl,hl,hw⟩:=hw;obtain⟨t0,rfl⟩:=r;rw[assign_Tuple];refine aa (ju (zt3 (I.ok.hd hc) (by rw[hn,hl]) hst λvs h' tk hv hP kp=> ?_));have I1:z5 X pins σ H {s with heap:=h',toks:=tk} :=I.kept (t':=tk) kp;refine h pins _ σ H _ _ Q I1 (lY ?_ λj v x' hv' hx'=> ?_) hw
 ·unfold nM;rw[ac,ac,fm,hv]
 ·obtain⟨c,u,e,rfl⟩:=hP j v hv'
  unfold nM at hx';rw[bt,cg]at hx';rw[gz,e]at hx';cases hx';exact⟨u,rfl⟩
def gTS (n:Nat)(gs:t5):xW:=λx env st Q=>match x with | .str z=>z.cps.size=n/\gs ((nM z).map PV.str) env st Q | _=>False
@[simp] theorem zuC {n:Nat}{gs:t5}{z:Str}{env:zG}{st:z7}{Q:zG->z7->Prop} :gTS n gs (.str z) env st Q=(z.cps.size=n/\gs ((nM z).map PV.str) env st Q):=rfl
theorem zkd {K:Frag}{A:List Addr}{H:Hp} : ∀l:List Str,yP K A H (l.map PV.str) (l.map V.str)
 | []=> .nil
 | x::l=> .cons (.val (.str _)) (zkd l)
theorem zru {k:Nat}{n:Nat}{Tgs:t5}(hc:X.calm=true)(h:vL X es (mK X.K Tgs))(hn:(assignEach es X.env).length=n:=by rfl)(hst:(assignEach es X.env).findIdx? (·.1)=none:=by rfl):PG X (.Tuple es k pos) (vE X.K (gTS n Tgs)):=
 zcR (zqH hc h hn hst) λv σ H Q ⟨A,env,st,x,Q3,rel,e,q,k⟩=>by
  unfold gTS at q
  split at q
  ·cases sB e
   exact⟨_,rfl,q.1,A,env,st,_,Q3,rel,zkd _,q.2,k⟩
  ·exact q.elim
end
section
variable {K:Frag} {A:List Addr} {H:Hp} {st:z7}
end
section
variable {X:Cx}
end
end L3
namespace L3
open PySem PySem.Spec PyProof.Rows L2
def oI (kvs:List (z6×PV))(k:z6):List (z6×PV):=kvs.filter λkv=>decide (kv.1≠k)
theorem RKs.drop {K:Frag}{A:List Addr}{H:Hp}{k:z6} : ∀{kvs:List (z6×PV)} {us:List (z6×V)},RKs K A H kvs us->RKs K A H (oI kvs k) (oH us k)
 | _,_,.nil=> .nil
 | _,_,.cons (k:=k') r t=>by
  unfold oI oH;rw[jj,jj];by_cases e:k'=k
  ·rw[if_neg (by simp[e]),if_neg (by simp[e])];exact RKs.drop t
  ·rw[if_pos (by simp[e]),if_pos (by simp[e])];exact .cons r (RKs.drop t)
section
variable {X:Cx}
def zjS:PV->zQ:=λx xs st Q=> ∃(i:Nat) (k:z6) (z:PV) (kvs:List (z6×PV)) (y:PV),x= .obj i/\xs= [y]/\wM y=some k/\st[i]?=some (.dct kvs)/\zI kvs k=some z/\Q z (st.set i (.dct (oI kvs k)))
theorem zpx:uX X "dict.pop" (rG X.K zjS):=by
 intro pins s σ H v vs vv us Q I rv rvs ⟨A,st,x,xs,Q3,rs,ex,exs,h,k⟩;obtain⟨i,kk,z,kvs,y,rfl,rfl,ek,q,hz,h⟩:=h;obtain⟨w,rfl,ey⟩:=yP.one exs;cases ex with
 | val e=>cases e
 | obj eo=>
  have hm:=ck eo;obtain⟨ks,h1,r,hl⟩:=rs.at_ _ _ _ eo q;cases rv;obtain⟨u,rfl,ru⟩:=zJ.one rvs;have ew:=tT ey ek;subst ew;rcases r.val (k:=kk)with⟨x',v',e1,e2,r'⟩ | ⟨e1,e2⟩
  ·rw[hz]at e1;cases e1
   refine znb I h1 ru e2 (.inl rfl) λw' s' I' rw'=>⟨v',_,I',rw',k A _ _ _ _ (.put hm) (rs.put (q:= .dct (oI kvs kk)) eo ⟨_,yO,(r.grow (.put hm)).drop,bf (zf1 ks kk) hl⟩) (.val (r'.grow (.put hm))) h⟩
  ·rw[hz]at e1;cases e1
def zjT:PV->zQ:=λx xs st Q=> ∃(i:Nat) (kvs more:List (z6×PV)),x= .obj i/\xs= [.dct more]/\st[i]?=some (.dct kvs)/\kvs.length+more.length<=sizeLine/\Q .non (st.set i (.dct (uD kvs more)))
theorem zp1:uX X "dict.update" (rG X.K zjT):=by
 intro pins s σ H v vs vv us Q I rv rvs ⟨A,st,x,xs,Q3,rs,ex,exs,h,k⟩;obtain⟨i,kvs,more,rfl,rfl,q,hl,h⟩:=h;obtain⟨w,rfl,ey⟩:=yP.one exs;cases ex with
 | val e=>cases e
 | obj eo=>
  rename_i a;have hm:=ck eo;obtain⟨ks,h1,r,hz⟩:=rs.at_ _ _ _ eo q;cases ey with | val ey=>cases ey with | dct t z2 r2=>
   rename_i o ms;cases rv;obtain⟨u,rfl,ru⟩:=zJ.one rvs;cases ru;have hao:a≠o:=λz=>t.2 (z▸hm);obtain⟨z,hd,vs1,rel,dd⟩:=oE I.hok h1;obtain⟨z',hd',vs2,rel2,dd2⟩:=oE I.hok t.1;have hlen:vs1.length+vs2.length<=sizeLine:=by rw[<- rel.length,<- rel2.length,<- r.len,<- r2.len];exact hl
   refine call_meetsIn qy dd.typeIs PySem.F.entry_dict_update (PySem.F.args_dict_update_2 _ _) (meets_dict_update (xB X.prog X.w) a o hao hd') ⟨vs1,vs2,dd,dd2,hlen,λh' dd' ddo hs=> ?_⟩;have he: ∃q,h'.get? a=some q:=let⟨q,_,_,hq,_⟩:=dd';⟨q,hq⟩;have hml:(vS ks ms).length<=sizeLine:=bf (oR ms ks) (by rw[<- r.len,<- r2.len];exact hl);have I':=mL (t':=s.toks) I (by rw[h1];exact True.intro) hs he (oB hml hd (rel2.merge rel) dd');exact⟨.non,_,I',rfl,k A _ _ _ _ (.put hm) (rs.put (q:= .dct (uD kvs more)) eo ⟨_,yO,RKs.merge (r.grow (.put hm)) (r2.grow (.put hm)),hml⟩) (.val .non) h⟩
end
section
variable {prog:Program} {w:World} {A:Around} {E:Value->Shared->Prop} {s:Shared}
theorem zo1 {I t:Addr}{items:Array Value}{Q:Bool->Shared->Prop}(hit:uV s.heap I t ((items.size:Int) - 1))(ht:IsTup s.heap t items)(hn:items.size<=sizeLine)
  (h: ∀tk,Q ((items.size:Int) !=0) {s with toks:=tk}):ak (ay prog w) A (Builtin.List.listLengthHint (.ref I)) Q E s:=by
 have hT:s.TypeIs (.ref I) "reversed" :=⟨_,hit,rfl⟩;unfold Builtin.List.listLengthHint;refine aa (gd hT RV.no_len ?_);show ak _ A (specialOf (Value.ref I) (Str.ofString "__length_hint__") >>= _) _ _ _;refine aa (gd hT RV.slot_hint.lookup ?_)
 (generalize hid:("reversed.__length_hint__" :String)=id0;(fail_if_success (clear hid id0));wp_delta;rw[show splitId id0=some ("reversed","__length_hint__")from by subst hid;decide+kernel];subst hid)
 refine aa (jk (b:=true) hT (by rw[il];kernel_rfl) ?_);show ak _ A (rule "list.length-hint.hint" >>= _) _ _ _;refine aa (km ?_);refine aa (ik (RV.slot_hint.bind _) ?_);dsimp only;refine aa (jw (znL hit ht hn λtk u htk=> ?_));dsimp only;rw[show asInt? (Value.int (items.size:Int) u)=pure (some (items.size:Int))from rfl];rw[pure_bind];dsimp only;have f1:Builtin.List.listFitsIndex (items.size:Int)=true:=by
  unfold Builtin.List.listFitsIndex;have:=sR;simp only[fb,decide_eq_true_eq];omega
 have f2:Builtin.List.listTooLong (items.size:Int).toNat=false:=by
  unfold Builtin.List.listTooLong;simp only[wo,decide_eq_false_iff_not];omega
 try dsimp only
 rw[if_neg (by rw[f1];decide)];rw[if_neg (by omega)];rw[if_neg (by rw[f2];decide)];exact ah (h tk)
theorem zn0 {R:Result->Shared->Prop}{I l S:Addr}{items:Array Value}(hh:A.handled=none)(hit:uV s.heap I l ((items.size:Int) - 1))(hl:IsTup s.heap l items)(hlI:l≠I)(hSI:S≠I)(hSl:S≠l)(res:Value)(c₀:Nat)
  (hS:s.heap.get? S=some {cls:= .type "list",data:= .seq #[] c₀})
  (hR: ∀h' tk acc' c',(∀b o,b≠S->b≠I->s.heap.get? b=some o->h'.get? b=some o)->h'.get? S=some {cls:= .type "list",dict:=none,data:= .seq acc' c',slots:= #[]} ->ItemsOf (kQ items) acc' items.size->R (.ok (.ret res)) {s with heap:=h',toks:=tk}) (hn:items.size<=sizeLine):
  ak (ay prog w) A.in1 (Builtin.List.listExtendWith (.ref S) (.ref I) res)
   (λfin s'=>match fin with | .done f=>R (.ok f) s' | .again c'=>c'.quiet=true/\codeAny (ay prog w) A c' R s') (λe s'=>R (.error e) s') s:=by
 have hSf:S∉ [I,l]:=by simp only[az,jl,or_false,not_or];exact⟨hSI,hSl⟩
 have W:=zlZ (prog:=prog) (w:=w) (A:=A.in1) hh I l hlI items hn;have st:0<=items.size/\uV s.heap I l ((items.size:Int) - 1 - ((0:Nat):Int))/\IsTup s.heap l items:=⟨dg _,by simpa using hit,hl⟩;have hT:s.TypeIs (.ref I) "reversed" :=⟨_,hit,rfl⟩;have key: ∀(h:Heap) (c₁ tk:Nat),(0<=items.size/\uV h I l ((items.size:Int) - 1 - ((0:Nat):Int))/\IsTup h l items)->(∀b o,b≠S->s.heap.get? b=some o->h.get? b=some o)->
   h.get? S=some {cls:= .type "list",data:= .seq #[] c₁} ->codeAny (ay prog w) A (.builtin "list.extend.loop" ⟨[.ref S,.ref I,res],[]⟩) R {s with heap:=h,toks:=tk} :=by
  intro h c₁ tk hst hk hS₁;refine oh W.toS hn S hSf res items.size 0 _ #[] c₁ rfl (dg _) hst hS₁ (xa _) λs' acc' c' hm hS' hacc=> ?_;rw[xv hm];refine hR s'.heap s'.toks acc' c' (λb o hb hbI e=>hm.heap b o (λhmem=> ?_) (hk b o hb e)) hS' hacc;rcases az.mp hmem with e' | hmem
  ·exact hb e'
  ·exact hbI (aj.mp hmem)
 unfold Builtin.List.listExtendWith;refine aa (ib (T:= "reversed") hT ?_);have h1:Builtin.List.listSameRef (.ref S) (.ref I)=false:=by simp[Builtin.List.listSameRef,hSI]
 have h2:(Value.type "reversed" ==Value.type "list")=false:=by decide
 have h3:(Value.type "reversed" ==Value.type "tuple")=false:=by decide
 simp only[h1,h2,h3,pp,ir,if_false];refine aa (zi3 hit ?_);refine aa (cq (zo1 hit hl hn λtk=> ?_));refine lw (λ_=> ?_) (λ_=>ah ⟨gt kb _,key _ c₀ _ st (λb o _ e=>e) hS⟩);refine aa (km ?_);refine aa ?_;show ak _ _ (updateSeq S (·.push .none) >>= λ_=>updateSeq S (·.pop)) _ _ _;refine aa (ix (s:= {s with toks:=tk}) hS rfl ?_);have hS₂:=cz (Obj.mapSeq (·.push Value.none)) hS rfl;refine ix (s:= {s with heap:=s.heap.update S (Obj.mapSeq (·.push Value.none)),toks:=tk}) (hz:=by seq_fits) hS₂ rfl ?_;have hS₃:=cz (Obj.mapSeq (·.pop)) hS₂ rfl;refine ah ⟨gt kb _,key _ _ _ ?_ (λb o hb e=> ?_) hS₃⟩
 ·refine W.frame 0 _ _ st λb hb o e=> ?_
  have hbS:b≠S:=λh=>hSf (h▸hb);exact(bp _ _ (dk hbS)).trans ((bp _ _ (dk hbS)).trans e)
 ·exact(bp _ _ (dk hb)).trans ((bp _ _ (dk hb)).trans e)
theorem zmF {Q:Value->Shared->Prop}{I l:Addr}{items:Array Value}(hh:A.handled=none)(hit:uV s.heap I l ((items.size:Int) - 1))(hl:IsTup s.heap l items)(hlI:l≠I)(hn:items.size<=sizeLine)
  (hQ: ∀h' tk acc' c',(∀b o,b≠I->s.heap.get? b=some o->h'.get? b=some o)->h'.get? s.heap.objs.size=some {cls:= .type "list",dict:=none,data:= .seq acc' c',slots:= #[]} ->ItemsOf (kQ items) acc' items.size->Q (.ref s.heap.objs.size) {s with heap:=h',toks:=tk}):
  ak (ay prog w) A (call (.type "list") [.ref I]) Q E s:=by
 refine lh (Q₁:=λobj s₁=>obj= .ref s.heap.objs.size/\s₁= {s with heap:=s.heap.push {cls:= .type "list",data:= .seq #[]}}) vp (rp _) rq
  (code_list_new _ ⟨rfl,rfl⟩) λobj s₁ h₁=> ?_
 obtain⟨rfl,rfl⟩:=h₁;have hIl:I < s.heap.objs.size:=aw hit;have hll:l < s.heap.objs.size:=by obtain⟨o,e,_⟩:=id hl;exact aw e
 have kp: ∀b o,s.heap.get? b=some o->(s.heap.push {cls:= .type "list",data:= .seq #[]}).get? b=some o:=λb o e=>ae _ e;generalize hS':s.heap.objs.size=S at *;have hS:(s.heap.push {cls:= .type "list",data:= .seq #[]}).get? S=some {cls:= .type "list",data:= .seq #[]} :=by rw[<- hS'];exact br _ rfl
 refine⟨⟨_,hS,rfl⟩,qw _ _,?_⟩;show ak _ _ (do let old <- Builtin.List.listItems (.ref S);Builtin.List.listUpdate (.ref S) (λ_=> #[]);letGo old.toList.reverse;Builtin.List.listExtendWith (.ref S) (.ref I) .none) _ _ _;refine aa ?_;unfold Builtin.List.listItems;refine aa (uh hS rfl (ah ?_));show ak _ _ (updateSeq S (λ_=> #[]) >>= λ_=>letGo (#[]:Array Value).toList.reverse >>= λ_=>Builtin.List.listExtendWith (.ref S) (.ref I) .none) _ _ _;refine aa (ix hS rfl ?_);have hS₂:=cz (Obj.mapSeq (λ_=>(#[]:Array Value))) hS rfl;have oth: ∀b o,b≠S->s.heap.get? b=some o->((s.heap.push {cls:= .type "list",data:= .seq #[]}).update S (Obj.mapSeq (λ_=>(#[]:Array Value)))).get? b=some o:=
  λb o hb e=>(bp _ _ (dk hb)).trans (kp b o e)
 refine aa (wpAny_letGo ?_);have hit2:uV ((s.heap.push {cls:= .type "list",data:= .seq #[]}).update S (Obj.mapSeq (λ_=>(#[]:Array Value)))) I l ((items.size:Int) - 1):=oth _ _ (bb hIl) hit;have hl2:IsTup ((s.heap.push {cls:= .type "list",data:= .seq #[]}).update S (Obj.mapSeq (λ_=>(#[]:Array Value)))) l items:=by obtain⟨o,e,r⟩:=id hl;exact⟨o,oth _ _ (bb hll) e,r⟩
 refine zn0 (A:=A.in1) (items:=items) (I:=I) (l:=l) hh hit2 hl2 hlI (dz hIl) (dz hll) .none _ hS₂ (λh' tk acc' c' hk hSS hacc=> ?_) hn;refine⟨rfl,?_⟩;exact hQ h' tk acc' c' (λb o hb e=>hk b o (by rw[<- hS'];exact bb (aw e)) hb (oth b o (by rw[<- hS'];exact bb (aw e)) e)) hSS hacc
end
section
variable {X:Cx}
def zsU (K:Frag)(te:TE):TE:=λσ H Q=>te σ H λx H1=> ∃(a:Addr) (xs:List V),x= .ref a/\xI K H1 a xs/\∀p,H1 p=none->Q (.ref p) (upd H1 p (.lst xs.reverse))
theorem zq3 {e:Expr}{te:TE}{p p2 pos pos2:Pos}(hc:X.calm=true)(hg:Gl X "list")(hm:X.mg "list" =none)(hg2:Gl X "reversed")(hm2:X.mg "reversed" =none)(he:PE X e te)
  (hs:starEach [e] X.env= [(false,eval e X.env)]) (hs2:starEach [.Call (.Name "reversed" p2) [e] [] pos2] X.env= [(false,eval (.Call (.Name "reversed" p2) [e] [] pos2) X.env)]):
  PE X (.Call (.Name "list" p) [.Call (.Name "reversed" p2) [e] [] pos2] [] pos) (zsU X.K te):=⟨λpins s σ H Q I h=>by
 refine ef (tU I hg hm (show bootBuiltins "list" =some (.type "list") by decide+kernel) (callWith_type1 ?_ hs2 rfl));rw[hs2];show ak _ _ (spliced ((false,eval (.Call (.Name "reversed" p2) [e] [] pos2) X.env)::backTo pos [])) _ _ s;refine jq (ef (tU I hg2 hm2 zeX (callWith_type1 ?_ hs rfl)));rw[hs];show ak _ _ (spliced ((false,eval e X.env)::backTo pos2 [])) _ _ s;refine jq (zM (he pins s σ H _ I h) λu s1 ⟨x,H1,I1,r1,q1⟩=>jz ?_);obtain⟨a,xs,rfl,hq,q⟩:=q1;cases r1;obtain⟨its,rv,ip,hz⟩:=I1.tuple hq;have hl:=rv.length;have hzz:its.toArray.size<=sizeLine:=by rw[be];omega
 have al:a < s1.heap.objs.size:=by obtain⟨o,e,_⟩:=id ip;exact aw e
 refine zmG (show IsTup s1.heap a its.toArray from ip) hzz λtk=> ?_;refine jz ?_;have kp: ∀b o,s1.heap.get? b=some o->(s1.heap.push (lA a ((its.toArray.size:Int) - 1))).get? b=some o:=λb o e=>ae _ e;refine zmF (I:=s1.heap.objs.size) (l:=a) (items:=its.toArray) (I1.ok.hd hc) (br _ rfl) (by obtain⟨o,e,r⟩:=id ip;exact⟨o,kp _ _ e,r⟩) (bb al) hzz λh' tk acc c' k1 hS hacc=> ?_;have k5: ∀b o,s1.heap.get? b=some o->h'.get? b=some o:=λb o e=>k1 b o (bb (aw e)) (kp b o e);have hfr:H1 (s1.heap.push (lA a ((its.toArray.size:Int) - 1))).objs.size=none:=I1.hok.fresh (by rw[iu];exact fz _);refine⟨.ref _,_,I1.laid (t':=tk) (o:= .lst xs.reverse) k5 (by rw[iu];exact fz _) ⟨by rw[cm];exact hz,acc.toList,c',zjX rv hacc,?_⟩,rfl,q _ hfr⟩;simpa using hS⟩
def zla (T:zB):zB:=λenv st Q=>T env st λx st1=>match x with | .tup xs=>Q (.lst xs.reverse) st1 | _=>False
@[simp] theorem ztz {T:zB}{env:zG}{st:z7}{Q:K3} :zla T env st Q=(T env st λx st1=>match x with | .tup xs=>Q (.lst xs.reverse) st1 | _=>False):=rfl
theorem zrp {e:Expr}{Ta:zB}{p p2 pos pos2:Pos}(hc:X.calm=true)(hg:Gl X "list")(hm:X.mg "list" =none)(hg2:Gl X "reversed")(hm2:X.mg "reversed" =none)(he:PE X e (zK X.K Ta))
  (hs:starEach [e] X.env= [(false,eval e X.env)]:=by rfl) (hs2:starEach [.Call (.Name "reversed" p2) [e] [] pos2] X.env= [(false,eval (.Call (.Name "reversed" p2) [e] [] pos2) X.env)]:=by rfl):
  PE X (.Call (.Name "list" p) [.Call (.Name "reversed" p2) [e] [] pos2] [] pos) (zK X.K (zla Ta)):=by
 refine xL (zq3 hc hg hm hg2 hm2 he hs hs2) λσ H Q ⟨A,env,st,Q3,rel,h,k⟩=>⟨A,env,st,_,rel,h,λA1 H1 st1 x v g1 s1 e1 h1=> ?_⟩
 split at h1
 ·cases e1 with | val e=>cases e with | tup t z r=>
   exact⟨_,_,rfl,t.sq,(k.after g1).lst s1 r.reverse (by rw[cm];exact z) h1⟩
 ·exact h1.elim
end
end L3
namespace L3
open PySem PySem.Spec PyProof.Rows L2
section
variable {X:Cx} {a b c:Expr} {pos:Pos} {Ta Tb Tc:zB}
def zt7 (R R':R3)(Ta Tb Tc:zB):zB:=λenv st Q=>Ta env st λx st1=>Tb env st1 λy st2=>R x y st2 λr st3=>match r with
 | .bl true=>Tc env st3 λz st4=>R' y z st4 Q
 | .bl false=>Q (.bl false) st3
 | _=>False
@[simp] theorem zwV {R R':R3}{env:zG}{st:z7}{Q:K3} :zt7 R R' Ta Tb Tc env st Q=(Ta env st λx st1=>Tb env st1 λy st2=>R x y st2 λr st3=>match r with | .bl true=>Tc env st3 λz st4=>R' y z st4 Q | .bl false=>Q (.bl false) st3 | _=>False):=rfl
end
end L3
namespace L2
open PySem PySem.Spec PyProof.Rows
section
variable {X:Cx} {tg:Expr}
end
end L2
namespace L3
open PySem PySem.Spec PyProof.Rows L2
section
variable {X:Cx} {iter tg a b:Expr} {Ta:zB}
def znN (T:zB):uL:=λenv st Q=>T env st λx st1=> ∃(i:Nat) (kvs:List (z6×PV)),x= .obj i/\((st1[i]?=some (.dct kvs)/\∀o,Q (some (i,.fd o kvs)) (kvs.map λq=>tB q.1) (st1.set i (.fd o kvs)))∨∃o,st1[i]?=some (.fd o kvs)/\Q (some (i,.fd o kvs)) (kvs.map λq=>tB q.1) st1)
def zr9:R3:=λx y st Q=>match x with
 | .obj n=>(match y with
  | .str k=>(match st[n]? with | some (.fd _ kvs)=>(match zI kvs (.inr k)with | some z=>Q z st | none=>False) | _=>False)
  | _=>False)
 | _=>False
end
@[simp] theorem zwG {T:zB}{env:zG}{st:z7}{Q:xO->List PV->z7->Prop} :znN T env st Q=(T env st λx st1=> ∃(i:Nat) (kvs:List (z6×PV)),x= .obj i/\((st1[i]?=some (.dct kvs)/\∀o,Q (some (i,.fd o kvs)) (kvs.map λq=>tB q.1) (st1.set i (.fd o kvs)))∨∃o,st1[i]?=some (.fd o kvs)/\Q (some (i,.fd o kvs)) (kvs.map λq=>tB q.1) st1)):=rfl
@[simp] theorem zvk {n:Nat}{x:Str}{st:z7}{Q:K3} :zr9 (.obj n) (.str x) st Q=(match st[n]? with | some (.fd _ kvs)=>(match zI kvs (.inr x)with | some z=>Q z st | none=>False) | _=>False):=rfl
end L3
namespace L2
open PySem PySem.Spec PyProof.Rows PySem.W
section
variable {prog:Program} {w:World} {A:Around} {E:Value->Shared->Prop} {s:Shared}
theorem zo2:typeLookup (.type "list") "keys" =pure none:=by rw[fg,di];kernel_rfl
theorem zor {a:Addr}{xs:Array Value}{k:Nat}{sl:Array (Option Value)}{u:Tok}{Q:Value->Shared->Prop}
  (hx:s.heap.get? a=some {cls:= .type "list",dict:=none,data:= .seq xs k,slots:=sl}) (hA:A.handled=none)
  (h: ∀h' tk e,Heap.NewExcOf s.heap h' e "AttributeError" ->E (.ref e) {s with heap:=h',toks:=tk}):
  ak (ay prog w) A (getAttrBy (.ref a) (.str "keys" u) false) Q E s:=by
 obtain⟨hp,g,d,tk,os⟩:=s;have hT: ∀tk',(⟨hp,g,d,tk',os⟩:Shared).TypeIs (.ref a) "list" :=λ_=>⟨_,hx,rfl⟩;have f1:=md;have f3:=mf.lookup;have f4:=mf.bind (.ref a);have f5:=am_list_getattr_none;unfold getAttrBy
 repeat(any_goals (first | assumption | exact hT _ | ((with_reducible show ak _ _ (call (Value.builtin "list.__getattribute__") _ _) _ _ _);refine lm mf (hT _) am_entry_list_getattribute (F.args_list_getattribute_2 _ _) (meets_getattribute_miss_list a xs k sl "keys" _ zo2 (by decide+kernel) (by size_fits)) ⟨hx,hA,λh' tk' e hx'=> ?_⟩) | wp_step))
 obtain⟨t',u',he⟩:=hx'.there;show ak _ _ (getattributeRaised _ _ _ _ _ _ _) _ _ _;unfold getattributeRaised
 repeat(any_goals (first | assumption | wp_step))
 exact h _ _ _ hx'.of
theorem zot {a:Addr}{xs:Array Value}{k:Nat}{sl:Array (Option Value)}{Q:Option Value->Shared->Prop}
  (hx:s.heap.get? a=some {cls:= .type "list",dict:=none,data:= .seq xs k,slots:=sl}) (hA:A.handled=none)
  (h: ∀h' tk,(∀b o,s.heap.get? b=some o->h'.get? b=some o)->Q none {s with heap:=h',toks:=tk}):
  ak (ay prog w) A (getAttr? (.ref a) "keys") Q E s:=by
 unfold getAttr? getAttrBy?;refine aa (wb ?_);refine aa (jw ?_);refine zor hx hA λh' tk e x=> ?_;obtain⟨o,xs',he,hc,_⟩:=x.there;refine aa (jk (T:= "AttributeError") ⟨_,he,hc⟩ md ?_);rw[if_pos rfl];exact ah (h h' tk x.keeps)
end
section
variable {prog:Program} {w:World} {A:Around} {E:Value->Shared->Prop} {s:Shared}
theorem zfq {K:Type}[DecidableEq K]{knd:KeyKind prog w K}{D I t:Addr}{items:Array Value}{res:Value}{R:Result->Shared->Prop}(hh:A.handled=none)(hIt:I≠t)(hDt:D≠t)(hDI:D≠I):
  ∀(zO:List (K×Addr×Value)) (i:Nat) (kvs:List (K×Value)) (z:Int) (tok:Tok) (s:Shared),s.heap.IsListIter I t i->s.heap.IsList t items->s.heap.DictOf knd D kvs->
   items.toList.drop i=zO.map (λq=>Value.ref q.2.1)->(∀q∈zO,(∃key,knd.is q.1 key=true/\IsTup s.heap q.2.1 #[key,q.2.2])/\q.2.1≠I/\q.2.1≠D)->kvs.length+zO.length<=sizeLine->
   (∀h' tk,h'.DictOf knd D (merged kvs (zO.map λq=>(q.1,q.2.2)))->(∀b o,b≠I->b≠D->s.heap.get? b=some o->h'.get? b=some o)->R (.ok (.ret res)) {s with heap:=h',toks:=tk})->
   codeAny (ay prog w) A (.builtin "dict.update.loop" ⟨[.ref D,.ref I,.int z tok,res],[]⟩) R s
 | [],i,kvs,z,tok,s,hit,ht,hm,hd,hq,hsz,h=>by
  refine iw j8 ?_;rw[gm qL _];have hx:items[i]?=none:=by
   rw[<- gz];have:items.toList.length<=i:=vb.mp hd;exact qg.mpr this
  show ak _ A.in1 (pyNext (.ref I) >>= _) _ _ _;refine aa (ue (A:=A.in1) hh hit ht hx λh1 k1=> ?_);show ak _ A.in1 (Builtin.Dict.addKeywords D [] >>= λ_=>ret res) _ _ _;refine aa (ah (ah ?_));exact h h1 s.toks (hm.at λo e=>k1 D o hDI e) λb o b1 _ e=>k1 b o b1 e
 | q::zO,i,kvs,z,tok,s,hit,ht,hm,hd,hq,hsz,h=>by
  refine iw j8 ?_;rw[gm qL _];obtain⟨⟨key,hk,hb⟩,hbI,hbD⟩:=hq q (.head _);have hx:items[i]?=some (Value.ref q.2.1):=by
   rw[<- gz];have:=congrArg (λl=>l[0]?) hd;simpa using this
  have hd':items.toList.drop (i+1)=zO.map (λq=>Value.ref q.2.1):=by
   have:=congrArg List.tail hd;simpa using this
  show ak _ A.in1 (pyNext (.ref I) >>= _) _ _ _;refine aa (sy (A:=A.in1) hit ht hx λh1 it1 sb1=> ?_);have hb1:IsTup h1 q.2.1 #[key,q.2.2]:=nV hb λo e=>(sb1.2 _ hbI).trans e;have hm1:h1.DictOf knd D kvs:=hm.at λo e=>(sb1.2 D hDI).trans e;dsimp only;refine aa (cq ?_);refine aa (wpAny_tryCatch (zjx (s:= {s with heap:=h1}) hb1 ?_));dsimp only;refine cq (vo (s:= {s with heap:=h1}) hk hm1 (λh2 hm2 sb2=> ?_) (by have:=hsz;simp only[bq]at this;omega));refine ah ⟨gt qL _,?_⟩;have hlen:(stored kvs q.1 q.2.2).length<=kvs.length+1:=by
   unfold stored
   split <;> simp
  refine zfq hh hIt hDt hDI zO (i+1) (stored kvs q.1 q.2.2) _ _ _ (let⟨o,ho,r⟩:=it1;⟨o,(sb2.2 I (dk hDI)).trans ho,r⟩) ?_ hm2 hd' (λq' m=> ?_) (by simp only[bq]at hsz;omega) λh' tk a b=> ?_
  ·obtain⟨o,ho,r⟩:=ht
   exact⟨o,(sb2.2 t (dk hDt)).trans ((sb1.2 t (dk hIt)).trans ho),r⟩
  ·obtain⟨⟨key',hk',hb'⟩,hbI',hbD'⟩:=hq q' (.tail _ m)
   exact⟨⟨key',hk',nV hb' λo e=>(sb2.2 _ hbD').trans ((sb1.2 _ hbI').trans e)⟩,hbI',hbD'⟩
  ·refine h h' tk a λc o c1 c2 e=>b c o c1 c2 ((sb2.2 c c2).trans ((sb1.2 c c1).trans e))
theorem zmB {K:Type}[DecidableEq K]{knd:KeyKind prog w K}{t:Addr}{n:Nat}{sl:Array (Option Value)}{zO:List (K×Addr×Value)}{Q:Value->Shared->Prop}(hh:A.handled=none)
  (ht:s.heap.get? t=some {cls:= .type "list",dict:=none,data:= .seq (zO.map λq=>Value.ref q.2.1).toArray n,slots:=sl})
  (hq: ∀q∈zO,∃key,knd.is q.1 key=true/\IsTup s.heap q.2.1 #[key,q.2.2]) (hsz:zO.length<=sizeLine)
  (h: ∀h' tk,h'.DictOf knd s.heap.objs.size (merged [] (zO.map λq=>(q.1,q.2.2)))->(∀b o,s.heap.get? b=some o->h'.get? b=some o)->Q (.ref s.heap.objs.size) {s with heap:=h',toks:=tk}):
  ak (ay prog w) A (call (.type "dict") [.ref t]) Q E s:=by
 refine lh (Q₁:=λobj s₁=>obj= .ref s.heap.objs.size/\s₁= {s with heap:=s.heap.push {cls:= .type "dict",data:= .dict #[]}}) F.kt_called_dict (vc _) wu (kt_code_dict_new _ ⟨rfl,rfl⟩) ?_;rintro obj s₁ ⟨rfl,rfl⟩;have hnew:(s.heap.push {cls:= .type "dict",data:= .dict #[]}).DictOf knd s.heap.objs.size []:=su s.heap;have ht1:(s.heap.push {cls:= .type "dict",data:= .dict #[]}).get? t=some {cls:= .type "list",dict:=none,data:= .seq (zO.map λq=>Value.ref q.2.1).toArray n,slots:=sl} :=ae _ ht;refine⟨hnew.typeIs,wc _ _,?_⟩;unfold Builtin.«dict.__init__»;refine aa ?_;unfold Builtin.Dict.selfAndRest;refine aa (uk hnew.typeIs ?_);show ak _ _ (pure (s.heap.objs.size,[Value.ref t])) _ _ _;refine ah ?_;show ak _ _ (Builtin.Dict.updateFrom "dict.__init__" s.heap.objs.size (.ref t) [] .none) _ _ _;unfold Builtin.Dict.updateFrom;refine aa (ib (T:= "list") ⟨_,ht1,rfl⟩ ?_);rw[if_pos (by decide)];refine aa (zot ht1 hh λh1 tk k1=> ?_);rw[if_pos (show(none:Option Value).isNone=true from rfl)];refine aa (km ?_);have ht2:=k1 _ _ ht1;have hD1:h1.DictOf knd s.heap.objs.size []:=hnew.at λo e=>k1 _ o e;refine aa (wpAny_pyIter_list (s:= {s with heap:=h1,toks:=tk}) ⟨_,ht2,rfl,_,rfl⟩ ?_);have lD:s.heap.objs.size < h1.objs.size:=by obtain⟨o,es,ep,ho,_⟩:=id hD1;exact aw ho
 have lt:t < s.heap.objs.size:=aw ht;refine ah ⟨gt qL _,?_⟩;refine zfq (A:=A.in1) (knd:=knd) (t:=t) (items:=(zO.map λq=>Value.ref q.2.1).toArray) hh (dz (ie lt lD)) (dz lt) (bb lD) zO 0 [] _ _ {s with heap:=h1.push {cls:= .type "list_iterator",data:= .fields #[.ref t,.int 0 0]},toks:=tk} ⟨_,br _ rfl,rfl,rfl⟩ ⟨_,ae _ ht2,rfl,_,rfl⟩ (hD1.push _) (by simp) (λq m=> ?_) (by simpa using hsz) λh' tk' a b=> ?_
 ·obtain⟨key,hk,hb⟩:=hq q m
  have lb:q.2.1 < s.heap.objs.size:=hb.lt;exact⟨⟨key,hk,nV hb λo e=>ae _ (k1 _ _ (ae _ e))⟩,bb (ie lb lD),bb lb⟩
 ·refine⟨rfl,h h' tk' a λc o e=> ?_⟩
  have lc:=aw e;exact b c o (bb (ie lc lD)) (bb lc) (ae _ (k1 _ _ (ae _ e)))
end
section
variable {X:Cx} {pins:List (Addr×Obj)} {σ:St} {H:Hp} {s:Shared}
theorem zfb (hc:X.calm=true):w4 X (.type "dict") (λxs H Q=> ∃(t:Addr) (as:List Addr) (ps:List (z6×V)),xs= [.ref t]/\yT X.K H t (as.map V.ref)/\kN X.K H as ps/\∀p,H p=none->Q (.ref p) (upd H p (.dK (vS [] ps)))):=by
 intro pins s σ H xs us Q I r h;obtain⟨t,as,ps,rfl,ht,hp,q⟩:=h;obtain⟨u,rfl,ru⟩:=rY r;cases ru;obtain⟨its,rv,⟨o,n,e1,e3,hd,e4⟩,hz⟩:=I.list ht;cases zdt rv;obtain⟨zO,r1,r2,r3⟩:=zdu I hp;have hl:=zc8 r2;rw[ac]at hl;have hz':zO.length<=sizeLine:=by
  rw[ac,<- r1,ac]at hz;exact hz
 obtain⟨c,dct,dat,sl⟩:=o;dsimp only at hd e3 e4;subst hd e3 e4;have ea:as.map Value.ref=zO.map λq=>Value.ref q.2.1:=by rw[<- r1,bt];rfl
 rw[ea]at e1;refine zmB (knd:=xB X.prog X.w) (I.ok.hd hc) e1 r3 hz' λh' tk dd k=> ?_;refine⟨.ref s.heap.objs.size,_,I.laid (t':=tk) (o:= .dK (vS [] ps)) k (ao _) ?_,rfl,q _ I.fresh⟩;refine oB ?_ (beq_eq_false_iff_ne.mpr (dk (bb I.big))) (KV.merge r2 .nil) dd;have:=oR ps [];simp only[kq,we]at this;exact bf this (by rw[hl];exact hz')
end
end L2
namespace L3
open PySem PySem.Spec PyProof.Rows L2
def iN:zQ:=λxs st Q=>match xs with | [.lst ys]=> ∃ps,ys.map qK=ps.map some/\Q (.dct (uD [] ps)) st | _=>False
def zdc:zQ:=λxs st Q=>match xs with | [.lst ys]=> ∃ps,ys.map qK=ps.map some/\Q (.obj st.length) (st++ [.dct (uD [] ps)]) | _=>False
section
variable {X:Cx}
theorem zje (hc:X.calm=true):w4 X (.type "dict") (tO X.K iN):=by
 intro pins s σ H vs us Q I rv ⟨A,st,xs,Q3,rs,ex,h,k⟩;unfold iN at h
 split at h
 ·obtain⟨v,rfl,ex1⟩:=yP.one ex
  obtain⟨ps,e,h⟩:=h;cases ex1 with | val e1=>cases e1 with | lst t z r=>
   obtain⟨as,ks,rfl,hp,hk⟩:=iC r e;have hl:ks.length<=sizeLine:=by rw[<- ii hp];rw[ac]at z;exact z
   exact zfb hc pins s σ H _ us Q I rv ⟨_,as,ks,rfl,t.sq,hp,k.dct rs (RKs.merge .nil hk) (zcD hl) h⟩
 ·exact h.elim
theorem zpr (hc:X.calm=true):w4 X (.type "dict") (tO X.K zdc):=by
 intro pins s σ H vs us Q I rv ⟨A,st,xs,Q3,rs,ex,h,k⟩;unfold zdc at h
 split at h
 ·obtain⟨v,rfl,ex1⟩:=yP.one ex
  obtain⟨ps,e,h⟩:=h;cases ex1 with | val e1=>cases e1 with | lst t z r=>
   obtain⟨as,ks,rfl,hp,hk⟩:=iC r e;have hl:ks.length<=sizeLine:=by rw[<- ii hp];rw[ac]at z;exact z
   exact zfb hc pins s σ H _ us Q I rv ⟨_,as,ks,rfl,t.sq,hp,k.dctO rs (RKs.merge .nil hk) (zcD hl) h⟩
 ·exact h.elim
end
end L3
namespace L2
open PySem PySem.Spec PyProof.Rows
structure pY (h:Heap)(e C:Addr)(od:Option Addr)(T:Addr)(fl:Value):Prop where
 ob: ∃oe vs,h.get? e=some oe/\oe.cls= .ref C/\oe.dict=od/\oe.data= .fields vs/\vs[1]?=some (.ref T)
 ne:T≠e
 tr: ∃oT ts,h.get? T=some oT/\oT.data= .fields ts/\ts[3]?=some fl
def fL (h:Heap)(e C:Addr)(od:Option Addr)(ch:List Addr):Prop:=
 (ch= [e]/\∃t,h.get? e=some (uA C od t))∨∃T,ch= [e,T]/\pY h e C od T .none
structure w5 (fs ch:List Addr)(h h':Heap):Prop where
 size:h.objs.size<=h'.objs.size
 keep: ∀b o,h.get? b=some o->b∉fs->b∉ch->h'.get? b=some o
 slot: ∀b o,h.get? b=some o->b∉ch->∃sl,h'.get? b=some {o with slots:=sl}
 there: ∀b o,h.get? b=some o->∃o',h'.get? b=some o'
theorem w5.trans {fs ch:List Addr}{h h1 h2:Heap}(a:w5 fs ch h h1)(b:w5 fs ch h1 h2):w5 fs ch h h2:=
 ⟨bf a.size b.size,λc o e n m=>b.keep c o (a.keep c o e n m) n m,λc o e m=>by
  obtain⟨s1,e1⟩:=a.slot c o e m;obtain⟨s2,e2⟩:=b.slot c _ e1 m;exact⟨s2,e2⟩,λc o e=>let⟨o1,e1⟩:=a.there c o e;b.there c o1 e1⟩
theorem w5.upd {fs ch:List Addr}{h:Heap}{a:Addr}{o:Obj}{f:Array Value->Array Value}(ho:h.get? a=some o)(m:a∈ch){vs:Array Value}(hd:o.data= .fields vs):w5 fs ch h (h.update a (Obj.mapFields f)):=by
 have ne: ∀b,b∉ch->a≠b:=λb n z=>n (z▸m);refine⟨qp (Heap.size_after_update ..).symm,λb ob e _ n=> ?_,λb ob e n=>⟨ob.slots,?_⟩,λb ob e=> ?_⟩
 ·rw[bp _ _ (ne b n)];exact e
 ·rw[bp _ _ (ne b n)];exact e
 ·by_cases z:a=b
  ·subst z
   exact⟨_,cz _ ho (nk (mh hd _))⟩
  ·exact⟨ob,by rw[bp _ _ z];exact e⟩
theorem w5.push {fs ch:List Addr}{h:Heap}{o:Obj} :w5 fs ch h (h.push o):=
 ⟨by simp[Heap.push],λb ob e _ _=>ae _ e,λb ob e _=>⟨ob.slots,ae _ e⟩,λb ob e=>⟨ob,ae _ e⟩⟩
theorem w5.slots {fs ch S:List Addr}{h h':Heap}(x:Heap.SlotsOnly S h h')(sub: ∀b∈S,b∈fs):w5 fs ch h h':=
 ⟨qp x.1.symm,λb ob e n _=>(x.2.1 b λz=>n (sub b z)).trans e,λb ob e _=>x.2.2 b ob e,λb ob e=>let⟨_,z⟩:=x.2.2 b ob e;⟨_,z⟩⟩
theorem zne (o:Obj)(f:Array Value->Array Value):(o.mapFields f).dict=o.dict:=by
 obtain⟨c,d,dt,sl⟩:=o;cases dt <;> rfl
section
variable {M:Model} {A:Around} {E:Value->Shared->Prop} {s:Shared} {base:Heap} {env:Env} {outer:List Env} {L e C:Addr} {od:Option Addr} {ch:List Addr} {Q:Unit->Shared->Prop}
theorem ziZ {oe:Obj}{vs:Array Value}{head:Value}{had:Bool}(hfr:A.frames=some (env::outer))(hl:s.heap.FunFrames base (env::outer))(hf:env.frame=some L)
  (he:s.heap.get? e=some oe) (hc:oe.cls= .ref C) (ho:oe.dict=od) (hd:oe.data= .fields vs) (hz:1 < vs.size) (me:e∈ch)
  (h: ∀h' T,w5 (xS (env::outer)) ch s.heap h'->s.heap.objs.size<=T->pY h' e C od T (rawInt L)->Q () {s with heap:=h'}):
  ak M A (do let a <- frameOf env;let pl <- entryPlaceOf L had;let b <- EntryCells.newEntry head a .none (rawInt L) .none pl;setField (.ref e) 1 b) Q E s:=by
 have nfr:e∉xS (env::outer):=λm=>by
  obtain⟨_,o,q,nf⟩:=hl.mem m;rw[he]at q;cases q;exact nf vs hd
 refine aa (wpAny_frameOf_fun hfr hl hf λh1 s1=>aa (wpAny_entryPlaceOf λpl hpl=> ?_));unfold EntryCells.newEntry newFields;refine aa (cr ?_ (hpl.sizeOk5 _ _ _ _ _));have e1:h1.get? e=some oe:=(s1.2.1 e nfr).trans he;have e2:=ae (h:=h1) {cls:= .type "traceback",dict:=none,data:= .fields ([head,Value.ref L,Value.none,rawInt L,Value.none]++(if pl.isEmpty then List.replicate 6 Value.none else pl)).toArray} e1;refine uq e2 hd hz (h _ h1.objs.size ?_ (qp s1.1.symm) ?_)
 ·exact(w5.slots s1 λb z=>z).trans (w5.push.trans (w5.upd e2 me hd))
 ·have ne:h1.objs.size≠e:=dz (aw e1)
  have d3:=mh hd (·.setIfInBounds 1 (Value.ref h1.objs.size));refine⟨⟨_,_,cz _ e2 (nk d3),(Obj.cls_mapFields _ _).trans hc,(zne _ _).trans ho,d3,by simp[hz]⟩,ne,?_⟩;refine⟨_,_,(by rw[bp _ _ (dk ne)];exact br _ rfl),rfl,?_⟩
  ·rcases hpl with rfl | ⟨_,_,_,_,_,_,_,rfl⟩ <;> simp
theorem zja (hfr:A.frames=some (env::outer))(hl:s.heap.FunFrames base (env::outer))(hf:env.frame=some L)(x:fL s.heap e C od ch)
  (h: ∀h' T,w5 (xS (env::outer)) ch s.heap h'->s.heap.objs.size<=T->pY h' e C od T (rawInt L)->Q () {s with heap:=h'}):ak M A (noteFrame (.ref e) env) Q E s:=by
 unfold noteFrame;simp only[hf];rcases x with⟨rfl,t,he⟩ | ⟨T,rfl,⟨oe,vs,he,hc,ho,hd,h1⟩,ne,oT,ts,hT,hdT,h3⟩
 ·refine aa (fe he rfl rfl ?_)
  rw[if_neg (by simp)];exact ziZ hfr hl hf he rfl rfl rfl (by simp) (by simp) h
 ·refine aa (fe he hd h1 ?_)
  rw[if_pos (show(Value.ref T !=Value.none)=true from by simp)];refine aa (fe hT hdT h3 ?_);rw[if_neg (show ¬ ((Value.none==rawInt L)=true)from by simp[rawInt])];refine aa (uq hT hdT (jv.mp h3).1 ?_);have st:w5 (xS (env::outer)) [e,T] s.heap (s.heap.update T (Obj.mapFields (·.setIfInBounds 3 Value.none))):=w5.upd hT (by simp) hdT;have e1:(s.heap.update T (Obj.mapFields (·.setIfInBounds 3 Value.none))).get? e=some oe:=by rw[bp _ _ ne];exact he
  refine ziZ hfr (hl.of_keeps λb o q nf=> ?_) hf e1 hc ho hd (jv.mp h1).1 (by simp) λh' T' s2 z f=>h h' T' (st.trans s2) (bf st.size z) f;by_cases z:T=b
  ·subst z;rw[hT]at q;cases q;exact absurd hdT (nf ts)
  ·exact⟨o,by rw[bp _ _ z];exact q,rfl⟩
theorem zc9 {T:Addr}{fl:Value}(x:pY s.heap e C od T fl)(h: ∀h',w5 [] [T] s.heap h'->pY h' e C od T .none->Q () {s with heap:=h'}):ak M A (setFlight (.ref e) none) Q E s:=by
 obtain⟨⟨oe,vs,he,hc,ho,hd,h1⟩,ne,oT,ts,hT,hdT,h3⟩:=x;unfold setFlight;refine aa (fe he hd h1 ?_);rw[if_pos (show(Value.ref T !=Value.none)=true from by simp)];have hz:3 < ts.size:=(jv.mp h3).1;refine uq hT hdT hz (h _ (w5.upd hT (by simp) hdT) ⟨⟨oe,vs,?_,hc,ho,hd,h1⟩,ne,⟨_,_,cz _ hT (nk (mh hdT _)),mh hdT _,by simp[hz]⟩⟩);rw[bp _ _ ne];exact he
end
section
variable {X:Cx} {pins:List (Addr×Obj)} {σ:St} {H:Hp} {s:Shared}
def mD (X:Cx)(pins:List (Addr×Obj))(b:Addr):Prop:=(b∈X.ex∨X.s₀.heap.objs.size<=b)/\b≠X.env.locals/\(∀x c,X.env.cells.lookup x=some c->c≠b)/\∀p∈X.pn++pins,p.1≠b
theorem z5.priv (I:z5 X pins σ H s){b:Addr}(h:s.heap.objs.size<=b):mD X pins b:=by
 refine⟨.inr (bf I.sz h),λz=> ?_,λx c q z=> ?_,λp hp z=> ?_⟩
 ·exact absurd I.lt (uy.mpr (z▸h))
 ·obtain⟨v,o,ho,_⟩:=I.cell x c q
  exact absurd (aw ho) (uy.mpr (z▸h))
 ·exact absurd (aw (I.pin p hp).1) (uy.mpr (z▸h))
theorem z5.stays {h':Heap}{ch:List Addr}(I:z5 X pins σ H s)(st:w5 (xS X.stack) ch s.heap h')(hch: ∀b∈ch,mD X pins b/\H b=none):z5 X pins σ H {s with heap:=h'} :=by
 have nt: ∀b u,H b=some u->b∉ch:=λb u z m=>by rw[(hch b m).2]at z;cases z
 refine I.call' (s':= {s with heap:=h'}) (ch:=ch) rfl ⟨λb o e n nf nx=>st.keep b o e nf nx,λb o e n _ nx=>st.slot b o e nx,λb o e n _=>n,λb o e _=>st.there b o e,λb xs z=>z,λb o u z=>z,λb ps z=>⟨#[],by simpa using z⟩⟩ ?_ I.bare λb m=>(hch b m).1;intro b u z;refine(I.hok b u z).stay (λc v hc q=> ?_) (λc q=>q) λc xs q=>q;have hH:H c≠none:=by
  rcases hc with rfl | w
  ·rw[z];exact dn _
  ·rw[w];exact dn _
 refine st.keep c v q (λm=>hH (I.stkFree c m)) λm=>hH (hch c m).2
theorem z5.drop {e:Addr}{f:Heap->Prop}(I:z5 X pins σ H s)(h:H e=some (.ext f)):z5 X pins σ (λb=>if b=e then none else H b) s:=by
 have ne: ∀b u,H b=some u->(∀g,u≠ .ext g)->b≠e:=λb u z n w=>by rw[w,h]at z;cases z;exact n f rfl
 refine I.un (t':=s.toks) (h':=s.heap) ⟨λb o q _ _ _=>q,λb o q _ _ _=>⟨o.slots,q⟩,λb o q n _=> ?_,λb o q _=>⟨o,q⟩,λb xs z=> ?_,λb o u z=> ?_,λb ps z=>⟨#[],?_⟩⟩ λb u z=> ?_
 ·show(if b=e then none else H b)=none;split
  ·rfl
  ·exact n
 ·rw[if_neg (ne b _ z (by intro g w;cases w))];exact z
 ·rw[if_neg (ne b _ z (by intro g w;cases w))];exact z
 ·rw[if_neg (ne b _ z (by intro g w;cases w))];simpa using z
 ·replace z:(if b=e then none else H b)=some u:=z
  split at z
  ·cases z
  ·refine(I.hok b u z).stay (λc v _ q=>q) (λc q=> ?_) λc xs q=> ?_
   ·rw[if_neg (ne c _ q (by intro g w;cases w))];exact q
   ·rw[if_neg (ne c _ q (by intro g w;cases w))];exact q
end
def tM (P:Program)(w:World):u0:=λouter H s E ev s'=> ∃(e C T:Addr) (od:Option Addr) (H':Hp),ev= .ref e/\E (.ref C) od H'/\s'.os=s.os/\AllBare s'.gens/\Un (xS outer) [] H H' s.heap s'.heap/\x6 P w H' s'.heap/\
 pY s'.heap e C od T .none/\H' e=none/\H' T=none/\s.heap.objs.size<=e/\s.heap.objs.size<=T
section
variable {P:Program} {w:World} {K:Frag} {mg:Str->Option Value} {base:Heap} {N:List Str} {qual:Str} {scope:Scope} {f:Addr} {cd:Value} {A:Around} {outer:List Env} {s0:Shared} {H0:Hp} {E:XK}
theorem zox {pins:List (Addr×Obj)}{σ:St}{H:Hp}{s:Shared}{e C:Addr}{od:Option Addr}{ch:List Addr}(I:z5 (t8 (tM P w) P w K mg base N qual scope f cd A outer s0 H0 E) pins σ H s)(x:fL s.heap e C od ch)(ne:H e=none)
  (hch: ∀b∈ch,mD (t8 (tM P w) P w K mg base N qual scope f cd A outer s0 H0 E) pins b/\H b=none) (me:e∈ch) (q:E (.ref C) od H):(t8 (tM P w) P w K mg base N qual scope f cd A outer s0 H0 E).xe (.ref e) s:=by
 show ak (ay P w) (A.deeper (envOfC qual scope s0.heap.objs.size f cd)) (leaving (envOfC qual scope s0.heap.objs.size f cd) (.ref e)) (λ_ s''=>tM P w outer H0 s0 E (.ref e) s'') (λe' s''=>tM P w outer H0 s0 E e' s'') s;unfold leaving;refine aa (zja I.ok.frames I.stack rfl x λh1 T st zT fl=> ?_);have I1:=I.stays st hch;have zT0:s0.heap.objs.size<=T:=bf I.sz zT;have nT:H T=none:=I.hok.fresh zT;have pT:=I.priv zT;refine zc9 fl λh2 st2 fl2=> ?_;have I2:=I1.stays (h':=h2) (ch:= [T]) ⟨st2.size,λb o z n m=>st2.keep b o z (by simp) m,st2.slot,st2.there⟩ (λb m=>by rw[aj.mp m];exact⟨pT,nT⟩);have e0:s0.heap.objs.size<=e:=by
  rcases(hch e me).1.1 with z | z
  ·exact absurd (show e∈([]:List Addr)from z) (by simp)
  ·exact z
 exact⟨e,C,T,od,H,rfl,q,I2.os,I2.bare,I2.base,I2.hok,fl2,ne,nT,e0,zT0⟩
end
end L2
namespace L3
open PySem PySem.Spec PyProof.Rows L2
def qV (w:World)(K:Frag)(a:Addr)(us:List (z6×V)):Prop:=(a==sysModules)=false/\∃(vs:List (z6×Value)),KV us vs/\∀(P:Program) (h:Heap),K.In h->h.DictOf (xB P w) a vs
def txE (w:World)(x:Str×Tok×Value):DictEntry:=⟨zi_ w (.inr x.1),.str x.1 x.2.1,x.2.2⟩
theorem zj0 {P:Program}{w:World} : ∀l:List (Str×Tok×Value),Pairs (xB P w) (l.map (txE w)) (l.map λx=>(Sum.inr x.1,x.2.2))
 | []=> .nil
 | x::l=> .cons (zcF P w x.1 x.2.1) rfl (zj0 l)
theorem zi9 {w:World}{K:Frag}{a:Addr}{n:Nat}{l:List (Str×Tok×Value)}{us:List (z6×V)}(h:K.lookup a=some ⟨.type "dict",none,.dict (l.map (txE w)).toArray n,#[]⟩)(ha:(a==sysModules)=false)
  (hu:KV us (l.map λx=>(Sum.inr x.1,x.2.2))) (hn:((l.map λx=>(Sum.inr x.1:z6))).Nodup):qV w K a us:=by
 refine⟨ha,_,hu,λP hp X=>⟨_,_,_,X _ _ h,⟨rfl,rfl,rfl⟩,rfl,λe he=> ?_,by rw[vq];exact zj0 l,by rw[bt];exact hn⟩⟩;obtain⟨x,_,rfl⟩:=bv.mp (List.mem_toArray.mp he);exact⟨.inr x.1,zcF P w x.1 x.2.1,rfl⟩
def zdh (kvs:List (z6×PV)):PV->z7->K3->Prop:=λy st Q=>match wM y with | some k=>(match zI kvs k with | some z=>Q z st | none=>False) | none=>False
def iQ (kvs:List (z6×PV)):PV->z7->K3->Prop:=λy st Q=>match wM y with | some k=>Q (.bl (zI kvs k).isSome) st | none=>False
theorem zf5 {kvs:List (z6×PV)}{x:Str}{st:z7}{Q:K3} :iQ kvs (.str x) st Q=Q (.bl (zI kvs (.inr x)).isSome) st:=rfl
theorem ziB {kvs:List (z6×PV)}{x:Str}{z:PV}{st:z7}{Q:K3}(h:zI kvs (.inr x)=some z)(q:Q z st):zdh kvs (.str x) st Q:=by
 show(match zI kvs (.inr x)with | some z=>Q z st | none=>False);rw[h];exact q
section
variable {X:Cx} {a b:Expr} {x:Str} {D:Addr} {us:List (z6×V)} {kvs:List (z6×PV)} {Ta:zB} {pos p:Pos}
theorem zoe (d:qV X.w X.K D us):rB X (λx y H Q=> ∃k v,x= .ref D/\y=kV k/\wJ us k=some v/\Q v H):=by
 intro value slice pins s σ H x y vv ww Q I rx ry h hs;obtain⟨k,v,rfl,rfl,l,q⟩:=h;cases rx;obtain⟨_,vs,rel,dd⟩:=d;have dd:=dd X.prog _ I.kIn;have hT:=dd.typeIs;unfold subscriptTail;refine aa ?_;rw[ul hT.not_modules];refine aa (gd hT qh.lookup ?_);obtain⟨w',hw,rw'⟩:=uY.some_of (v:=v) (o:=valueAt vs k) (by rw[<- l];exact rel.val k);have fin:ak (ay X.prog X.w) X.A (subscripted slice false (.ref D) ww) (λr s₃=>ak (ay X.prog X.w) X.A (letTemporaryGo value (.ref D) r >>= λ_=>pure r) (EP X pins σ Q) X.xe s₃) X.xe s:=by
  rw[hs];exact wpAny_operating (wpAny_getItem_of (sP ry) dd.mapOf hw (aa (ve (ah ⟨v,H,I.tok _,rw',q⟩))))
 first
  | exact ah (aa fin)
  | exact aa (ah (aa fin))
  | exact aa fin
theorem znS (d:qV X.w X.K D us):yA X (compareOp .In) (λx y H Q=> ∃k,y= .ref D/\x=kV k/\Q (.bl (wJ us k).isSome) H):=by
 intro pins s σ H x y vv ww Q I rx ry h;obtain⟨k,rfl,rfl,q⟩:=h;cases ry;obtain⟨hd,vs,rel,dd⟩:=d;have dd:=dd X.prog _ I.kIn;refine wpAny_in_of (sP rx) hd dd.mapOf ?_;refine⟨.bl _,H,I.tok _,rfl,?_⟩;rw[<- (rel.val k).isSome_eq];exact q
theorem zjM (hg:Gl X x)(hm:X.mg x=some (.ref D))(d:qV X.w X.K D us)(hv: ∀A H,RKs X.K A H kvs us)(hb:PE X b (zK X.K Ta))(hs:kP b)(hd:(x==("__debug__" :Str))=false:=by decide):PE X (.Subscript (.Name x p) b pos) (zK X.K (nX (zdh kvs) Ta)):=by
 refine xL (zj7 (zoe d) (zj6 (v:= .ref D) hg hm rfl hd) hb hs) λσ H Q ⟨A,env,st,Q3,rel,h,k⟩=> ?_;refine⟨A,env,st,_,rel,h,λA1 H1 st1 y v g1 s1 e1 h1=> ?_⟩;unfold zdh at h1
 split at h1
 ·rename_i kk ek
  split at h1
  ·rename_i z e
   rcases(hv A1 H1).val (k:=kk)with⟨x',v',e1',e2,r'⟩ | ⟨e1',e2⟩
   ·rw[e]at e1';cases e1'
    exact⟨kk,v',rfl,tT e1 ek,e2,k A1 H1 st1 _ _ g1 s1 (.val r') h1⟩
   ·rw[e]at e1';cases e1'
  ·exact h1.elim
 ·exact h1.elim
theorem zmO {σ:St}{H:Hp}{Q:VK}(hv: ∀A H,RKs X.K A H kvs us):zK X.K (nX (iQ kvs) Ta) σ H Q->nR (λx y H Q=> ∃k,y= .ref D/\x=kV k/\Q (.bl (wJ us k).isSome) H) (zK X.K Ta) (tC (.ref D)) σ H Q:=by
 rintro⟨A,env,st,Q3,rel,h,k⟩;refine⟨A,env,st,_,rel,h,λA1 H1 st1 y v g1 s1 e1 h1=> ?_⟩;unfold iQ at h1
 split at h1
 ·rename_i kk ek
  refine⟨kk,rfl,tT e1 ek,?_⟩;have e:(wJ us kk).isSome=(zI kvs kk).isSome:=by
   rcases(hv A1 H1).val (k:=kk)with⟨x',v',e1',e2,r'⟩ | ⟨e1',e2⟩
   ·rw[e1',e2];rfl
   ·rw[e1',e2];rfl
  rw[e];exact k A1 H1 st1 _ _ g1 s1 (.val (.bl _)) h1
 ·exact h1.elim
theorem zr2 (hg:Gl X x)(hm:X.mg x=some (.ref D))(d:qV X.w X.K D us)(hv: ∀A H,RKs X.K A H kvs us)(ha:PE X a (zK X.K Ta))(hk:behindInMarks .In (.Name x p)=false)(hd:(x==("__debug__" :Str))=false:=by decide):
  PT X (.Compare a [.In] [.Name x p] pos) (yU X.K (pR (nX (iQ kvs) Ta))):=by
 refine iH (zjI (znS d) ha (zj6 (v:= .ref D) hg hm rfl hd) hk) λσ H Q h=> ?_;have:=zff h;exact zmO hv this
end
end L3
namespace L2
open PySem PySem.Spec PyProof.Rows
section
variable {M:Model} {A:Around} {E:Value->Shared->Prop} {env:Env}
variable {nm q:Str} {C N:Addr} {bs bm:List Value} {hdct:Bool} {sn:List Str} {sub:List Value} {ab:Bool} {col:Option Bool} {dd:Option Addr} {k0 k1 k2 k3 k5:Option Value} {newId:String}
theorem zrN {s:Shared}{x:Sem Value}{Q:Flow->Shared->Prop}(hb:bm.contains (.type "BaseException")=true)(hh:A.handled=none)
  (h:ak M A x (λv s1=> ∃e t od,v= .ref e/\s1.heap.get? C=some (excClassObj nm q C N bs bm hdct sn sub ab col dd k0 k1 k2 k3 k5 newId)/\s1.heap.get? e=some (uA C od t)/\E (.ref e) s1) E s):ak M A (raiseStmt env (some x) none) Q E s:=by
 have hc:(Value.ref C::bm).contains (.type "BaseException")=true:=by rw[kx,hb,wn]
 unfold raiseStmt;refine aa (zM h λv s1 ⟨e,t,od,ev,hC,he,hE⟩=> ?_);subst ev;obtain⟨hp,g,d,tk,os⟩:=s1
 repeat(first | with_reducible refine ja he ?_ | with_reducible refine ja hC ?_ | (with_reducible refine lr hC ?_;rw[hc]) | wp_step)
 exact wpAny_raiseNew_none hh hE
end
def eL (X:Cx)(W:XK):Prop:= ∀(pins:List (Addr×Obj)) (σ:St) (H:Hp) (s:Shared) (e C:Addr) (od:Option Addr) (ch:List Addr),z5 X pins σ H s->fL s.heap e C od ch->H e=none->(∀b∈ch,mD X pins b/\H b=none)->e∈ch->W (.ref C) od H->X.xe (.ref e) s
theorem ztn {P:Program}{w:World}{K:Frag}{mg:Str->Option Value}{base:Heap}{N:List Str}{qual:Str}{scope:Scope}{f:Addr}{cd:Value}{A:Around}{outer:List Env}{s0:Shared}{H0:Hp}{E:XK} :
  eL (t8 (tM P w) P w K mg base N qual scope f cd A outer s0 H0 E) E:=λ_ _ _ _ _ _ _ _ I x ne hch me q=>zox I x ne hch me q
section
variable {X:Cx} {CX:u0} {k:Nat} {f C HE:Addr} {fd:FuncData} {ps:List Str} {sp:Sp} {E:XK}
theorem zrV {pins:List (Addr×Obj)}{σ:St}{H:Hp}{s:Shared}{Q:VK}{us:List Value}{vs:List V}(T:qX X.K HE)(M:u7 X.K HE C)(MI:kT X.K C f)(F:zU X.prog X.w X.K X.mg X.base CX k f fd ps sp)(hr:zL (k+1) X.A)(hb:wT X.K fd ps [])
  (hx:mC CX X E) (I:z5 X pins σ H s) (r:zJ vs us) (hz:us.length<=1000)
  (h: ∀e,H e=none->s.heap.objs.size<=e->sp (.ref e::vs) (upd H e (tL e C none)) (λv H2=>v= .non/\Q (.ref e) H2) E):
  ak (ay X.prog X.w) X.A (call (.ref C) us) (EP X pins σ Q) X.xe s:=by
 obtain⟨hp,gg,d,tk,os⟩:=s;have KX:X.K.In hp:=I.kIn;obtain⟨nm,q,N,bs,sn,sub,ab,col,dd,k0,k1,k2,k3,k5,l⟩:=M.ob;have hf:PySem.W.typeIn X.K (.ref f)=some (.type "function"):=beq_iff_eq.mp MI.fn;have hq:=h (hp.objs.size+1) (I.hok.fresh (fz _)) (fz _);have eX:((hp.push {cls:= .type "tuple",data:= .seq us.toArray}).push (uA C none hp.objs.size)).get? (hp.objs.size+1)=some (uA C none hp.objs.size):=by heap_get
 have I2:z5 X pins σ (upd H (hp.objs.size+1) (tL (hp.objs.size+1) C none)) ⟨(hp.push {cls:= .type "tuple",data:= .seq us.toArray}).push (uA C none hp.objs.size),gg,d,tk,os⟩:=
  I.laid (t':=tk) (λb u z=>ae _ (ae _ z)) (fz _) (xok eX)
 have r2:zJ (V.ref (hp.objs.size+1)::vs) (Value.ref (hp.objs.size+1)::us):= .cons rfl r;have hl:(Value.ref (hp.objs.size+1)::us++ []).length=ps.length:=by
  have e:=r2.length;rw[F.len _ _ _ _ hq]at e;simpa using e.symm
 have bd:=hb _ (Value.ref (hp.objs.size+1)::us) I2.kIn hl;rw[cn]at bd;refine ml (znx (T.tail hp KX) (KX _ _ l) (wg KX MI.init) (λself=>PySem.W.bind_fn KX self hf) (bf hz (by decide)) ?_);refine ly (F.run _ X.stack _ _ ⟨Value.ref (hp.objs.size+1)::us,[]⟩ (Value.ref (hp.objs.size+1)::us) _ _ E (hr.make C us []) (I2.env0.make C us []) bd r2 hq) λrr s' hq'=> ?_;cases rr with
 | error e=>exact hx pins σ _ _ e s' I2 hq'
 | ok fl=>
  cases fl with
  | ret u=>
   obtain⟨v,H',I3,rv,ev,q3⟩:=I2.after hq';subst ev;exact⟨rv,⟨V.ref (hp.objs.size+1),H',I3,rfl,q3⟩⟩
  | next=>exact False.elim hq'
  | brk=>exact False.elim hq'
  | cont=>exact False.elim hq'
variable {x:Str} {p pos pos':Pos} {W:XK}
def zrY (C:Addr)(sp:Sp)(E W:XK):TS:=λ_ _ H=> ∀(e:Addr) (R:Hp->Prop),H e=none->(∀H2 od,H2 e=some (tL e C od)->W (.ref C) od (λb=>if b=e then none else H2 b)->R H2)->sp [.ref e] (upd H e (tL e C none)) (λv H2=>v= .non/\R H2) E
theorem zra (T:qX X.K HE)(M:u7 X.K HE C)(MI:kT X.K C f)(F:zU X.prog X.w X.K X.mg X.base CX k f fd ps sp)(hr:zL (k+1) X.A)(hg:Gl X x)(hm:X.mg x=some (.ref C))(hb:wT X.K fd ps [])(hx:mC CX X E)(tw:eL X W)(hc:X.calm=true)
  (hdb:(x==("__debug__" :Str))=false:=by decide):PS X (.Raise (some (.Call (.Name x p) [] [] pos)) none pos') (zrY C sp E W):=⟨λpins s σ H D I h=>by
 obtain⟨nm,q,N,bs,sn,sub,ab,col,dd,k0,k1,k2,k3,k5,l⟩:=id M.ob;rw[arm_exec_Raise];refine aa (ju ?_);refine zrN (nm:=nm) (q:=q) (C:=C) (N:=N) (bs:=bs) (bm:= .ref HE::vO) (hdct:=true) (sn:=sn) (sub:=sub) (ab:=ab) (col:=col) (dd:=dd) (k0:=k0) (k1:=k1) (k2:=k2) (k3:=k3) (k5:=k5) (newId:= "ValueError.__new__") (by simp) (I.ok.hd hc) (aa ?_);have g:ak (ay X.prog X.w) X.A (eval (.Call (.Name x p) [] [] pos) X.env) (EP X pins σ λv H2=> ∃e od,v= .ref e/\mD X pins e/\H2 e=some (tL e C od)/\W (.ref C) od (λb=>if b=e then none else H2 b)) X.xe s:=by
  refine ef (oQ I hg hm ?_ hdb);refine PySem.W.callWith_K0 I.kIn M.kp (zrV (us:= []) T M MI F hr hb hx I .nil (dg _) λe he hz=> ?_);exact h e _ he λH2 od z w=>⟨e,od,rfl,I.priv hz,z,w⟩
 refine zM g λv s1 ⟨x1,H2,J,rx,e,od,ev,pe,he,w⟩=>aa (ju (ah ?_));subst ev;obtain⟨t,hE⟩:=J.exc he;refine⟨e,t,od,rx,J.kIn _ _ l,hE,?_⟩;refine tw pins σ _ s1 e C od [e] (J.drop he) (.inl ⟨rfl,t,hE⟩) (if_pos rfl) (λb m=> ?_) (by simp) w;rw[aj.mp m];exact⟨pe,if_pos rfl⟩⟩
end
end L2
namespace L2
open PySem PySem.Spec PyProof.Rows
def p9:HO->Bool | .tup _=>true | .frz _ (.tup _)=>true | _=>false
def vJ (H:Hp):Hp:=λb=>match H b with | some u=>if p9 u=true then some u else none | none=>none
theorem f9 {H:Hp}{b:Addr}{u:HO}(h:H b=some u)(t:p9 u=true):vJ H b=some u:=by unfold vJ;rw[h];exact if_pos t
theorem zkN {H:Hp}{b:Addr}{u:HO}(h:vJ H b=some u):p9 u=true/\H b=some u:=by
 unfold vJ at h
 split at h
 ·rename_i v e
  split at h
  ·rename_i t;cases h;exact⟨t,e⟩
  ·cases h
 ·cases h
theorem zdU {H:Hp}{b:Addr}(h: ∀u,H b=some u->p9 u=false):vJ H b=none:=by
 cases e:vJ H b with
 | none=>rfl
 | some u=>obtain⟨t,z⟩:=zkN e;rw[h u z]at t;cases t
theorem zjk {P:Program}{w:World}{H H':Hp}{h:Heap}{a:Addr}{u:HO}(t:p9 u=true)(x:xR P w H h a u):xR P w H' h a u:=by
 cases u with
 | tup xs=>exact x
 | frz o v=>cases v with
  | tup xs=>exact x
  | _=>cases t
 | _=>cases t
section
variable {X:Cx} {pins:List (Addr×Obj)} {σ:St} {H H':Hp} {s s':Shared}
theorem sG.tups {P:Program}{w:World}{K:Frag}{mg:Str->Option Value}{base:Heap}{A:Around}{outer:List Env}(e:sG P w K mg base A outer s H):sG P w K mg base A outer s (vJ H):=by
 have no: ∀b,H b=none->vJ H b=none:=λb z=>zdU λu q=>by rw[z]at q;cases q
 refine⟨e.frames,e.mod,λb o z=>⟨(e.bs b o z).1,no b (e.bs b o z).2⟩,e.bsz,e.funs,λb m=>no b (e.frf b m),λb u z=> ?_,e.bare⟩;obtain⟨t,q⟩:=zkN z;exact zjk t (e.hok b _ q)
theorem z5.behind (I:z5 X pins σ H s)(os:s'.os=s.os)(bare:AllBare s'.gens)(un:Un (xS X.stack) [] (vJ H) H' s.heap s'.heap)(hok:x6 X.prog X.w H' s'.heap):z5 X pins σ H s':=by
 have no: ∀b,H b=none->vJ H b=none:=λb z=>zdU λu q=>by rw[z]at q;cases q
 refine I.call' (ch:= []) os ⟨λb o e n nf nx=>un.keep b o e (no b n) nf nx,λb o e n nf nx=>un.slot b o e (no b n) nf nx,λb o e n _=>n,λb o e nx=>un.there b o e nx,λb xs z=>z,λb o u z=>z,λb ps z=>⟨#[],by simpa using z⟩⟩ (λb u z=> ?_) bare (λb z=>absurd z (by simp));cases ht:p9 u with
 | true=>
  have h':H' b=some u:=by
   cases u with
   | tup xs=>exact un.tups b xs (f9 z ht)
   | frz o v=>exact un.frzs b o v (f9 z ht)
   | _=>cases ht
  exact zjk ht (hok b u h')
 | false=>
  refine(I.hok b u z).stay (λc v hc q=> ?_) (λc q=>q) λc xs q=>q;have hH:H c≠none/\∀u,H c=some u->p9 u=false:=by
   rcases hc with rfl | w
   ·exact⟨by rw[z];exact dn _,λu' w=>by rw[z]at w;cases w;exact ht⟩
   ·rw[w];exact⟨dn _,λu' w'=>by cases w';rfl⟩
  exact un.keep c v q (zdU hH.2) (λm=>hH.1 (I.stkFree c m)) (by simp)
abbrev Cx.exc (X:Cx)(e:Addr)(pn:List (Addr×Obj))(E:Value->Shared->Prop):Cx:= {X with A:=X.A.mark (some (.ref e)),calm:=false,pn:=pn,xe:=E}
theorem Cx.Ok.exc {e:Addr}{pn:List (Addr×Obj)}{E:Value->Shared->Prop}(k:X.Ok):(X.exc e pn E).Ok:=
 ⟨k.mod,k.kind,k.glob,k.blt,k.above,k.inj,k.has,k.cab,(λh=>absurd (show false=true from h) dm),k.frames,k.stk,k.exf,k.bs,k.bsz,k.noex,k.exfs,k.funs,k.frf⟩
theorem Cx.Ok.unexc {e:Addr}{pn:List (Addr×Obj)}{E:Value->Shared->Prop}(k:(X.exc e pn E).Ok)(hd:X.calm=true->X.A.handled=none):X.Ok:=
 ⟨k.mod,k.kind,k.glob,k.blt,k.above,k.inj,k.has,k.cab,hd,k.frames,k.stk,k.exf,k.bs,k.bsz,k.noex,k.exfs,k.funs,k.frf⟩
theorem z5.exc_in {e:Addr}{oe:Obj}{E:Value->Shared->Prop}{vs:Array Value}(I:z5 X pins σ H s)(he:s.heap.get? e=some oe)(hd:oe.data= .fields vs)(ne:H e=none)(nl:e≠X.env.locals):z5 (X.exc e (X.pn++ [(e,oe)]) E) pins σ H s:=by
 refine⟨I.ok.exc,I.os,I.bare,I.base,I.loc,I.cell,I.free,I.freeC,λp hp=> ?_,I.hok,I.len⟩;rcases au.mp hp with hp | hp
 ·rcases au.mp hp with hp | hp
  ·exact I.pin p (ax _ hp)
  ·rw[aj.mp hp]
   refine⟨he,ne,nl,λm=> ?_,λv z=>by rw[hd]at z;cases z⟩;obtain⟨_,o,q,nf⟩:=I.funs.mem m;rw[he]at q;cases q;exact nf vs hd
 ·exact I.pin p (af _ hp)
theorem z5.exc_out {e:Addr}{pn:List (Addr×Obj)}{E:Value->Shared->Prop}(I:z5 (X.exc e (X.pn++pn) E) pins σ H s)(hd:X.calm=true->X.A.handled=none):z5 X pins σ H s:=
 ⟨I.ok.unexc hd,I.os,I.bare,I.base,I.loc,I.cell,I.free,I.freeC,λp hp=>I.pin p ((au.mp hp).elim (λz=>ax _ (ax _ z)) λz=>af _ z),I.hok,I.len⟩
theorem z5.gone {h':Heap}{t':Nat}{m':Str->Option Value}(I:z5 X pins σ H s)(hn:h'.Ns X.env.locals m')(hs:Heap.SameBut X.env.locals s.heap h'):z5 X pins (List.replicate σ.length none) H {s with heap:=h',toks:=t'} :=by
 have lo: ∀b o,X.s₀.heap.get? b=some o->b≠X.env.locals:=λb o z=>bb (bj (aw z) I.ok.above);refine⟨I.ok,I.os,I.bare,⟨λb o z n nf nx=>(hs.2 b (lo b o z)).trans (I.base.keep b o z n nf nx),λb o z n nf nx=> ?_,I.base.free,λb o z nx=> ?_,I.base.tups,I.base.frzs,I.base.tbls⟩,
  ⟨m',hn,λi x v _ e2 _=> ?_⟩,λx c z=> ?_,I.free,I.freeC,λp hp=> ?_,λb u z=> ?_,by rw[gy];exact I.len⟩
 ·obtain⟨sl,q⟩:=I.base.slot b o z n nf nx
  exact⟨sl,(hs.2 b (lo b o z)).trans q⟩
 ·obtain⟨o',q⟩:=I.base.there b o z nx
  exact⟨o',(hs.2 b (lo b o z)).trans q⟩
 ·rw[im]at e2
  split at e2 <;> cases e2
 ·obtain⟨v,o,ho,hv⟩:=I.cell x c z
  exact⟨v,o,(hs.2 c (I.cne x c z)).trans ho,hv⟩
 ·obtain⟨p1,p2,p3,p4⟩:=I.pin p hp
  exact⟨(hs.2 p.1 p3).trans p1,p2,p3,p4⟩
 ·refine(I.hok b u z).stay (λc v hc q=>(hs.2 c ?_).trans q) (λc q=>q) λc xs q=>q
  rintro rfl;rcases hc with w | w
  ·rw[<- w,I.free]at z;cases z
  ·rw[I.free]at w;cases w
end
section
variable {M:Model} {A:Around} {E:Value->Shared->Prop}
variable {nm q:Str} {C N:Addr} {bs bm:List Value} {hdct:Bool} {sn:List Str} {sub:List Value} {ab:Bool} {col:Option Bool} {dd:Option Addr} {k0 k1 k2 k3 k5:Option Value} {newId:String}
theorem zoG {h:Heap}{g:Array GenState}{d:Drawn}{t:Nat}{os:OsState}{e D N2:Addr}{oe:Obj}{nm2 q2:Str}{bs2 bm2:List Value}{hdct2:Bool}{sn2:List Str}{sub2:List Value}{ab2:Bool}{col2:Option Bool}{dd2:Option Addr}{l0 l1 l2 l3 l5:Option Value}{newId2:String}{Q:Bool->Shared->Prop}
  (hC:h.get? C=some (excClassObj nm q C N bs bm hdct sn sub ab col dd k0 k1 k2 k3 k5 newId)) (hD:h.get? D=some (excClassObj nm2 q2 D N2 bs2 bm2 hdct2 sn2 sub2 ab2 col2 dd2 l0 l1 l2 l3 l5 newId2)) (hm:bm2.contains (.type "BaseException")=true) (he:h.get? e=some oe) (hc:oe.cls= .ref C) (hb:bm.contains (.ref D)=true)
  (hq:Q true ⟨h,g,d,t,os⟩):ak M A (excMatches (.ref e) (.ref D)) Q E ⟨h,g,d,t,os⟩:=by
 have h1:(Value.ref C::bm).contains (.ref D)=true:=by rw[kx,hb,wn]
 have h2:(Value.ref D::bm2).contains (.type "BaseException")=true:=by rw[kx,hm,wn]
 have f:=tc_notTuple;unfold excMatches
 repeat(first | (with_reducible refine ja he ?_;rw[hc]) | with_reducible refine ja hD ?_ | (with_reducible refine lr hC ?_;rw[h1]) | (with_reducible refine lr hD ?_;rw[h2]) | wp_step)
 exact hq
end
end L2
namespace L2
open PySem PySem.Spec PyProof.Rows
def zeF (K:Frag)(HE:Addr):Prop:= ∃(nm q:Str) (N:Addr) (bs:List Value) (hd:Bool) (sn:List Str) (sub:List Value) (ab:Bool) (col:Option Bool) (dd:Option Addr) (k0 k1 k2 k3 k5:Option Value) (nw:String),
 K.lookup HE=some (excClassObj nm q HE N bs vO hd sn sub ab col dd k0 k1 k2 k3 k5 nw)
section
variable {X:Cx} {k i:Nat} {f C HE:Addr} {fd:FuncData} {ps:List Str} {sp:Sp} {E:XK} {x y n:Str} {p cpos epos yp hpos pos:Pos} {a:Expr} {as:List Expr} {b0:Stmt} {suite:List Stmt} {ta:TA} {t1:Addr->TS}
def zrZ (i:Nat)(sp:Sp)(E:XK)(ta:TA)(t1:Addr->TS):TS:=λD σ H=>ta σ H λvs H1=>sp vs (vJ H1) (λ_ _=>False) E/\∀e,t1 e {nx:=λ_ _=>False,rt:=D.rt} (σ.set i (some (.ref e))) H1
theorem zrb (F:zU X.prog X.w X.K X.mg X.base (tM X.prog X.w) k f fd ps sp)(hr:zL k X.A)(hg:Gl X x)(hm:X.mg x=some (.ref f))(hk:keepIn X.K (.ref f)=true)(hb:wT X.K fd ps [])(ha: ∀EE,PA (X.wish EE) (a::as) ta)
  (hE: ∀c od H,E c od H->c= .ref C/\od=none) (M:u7 X.K HE C) (Z:zeF X.K HE) (hgy:Gl X y) (hmy:X.mg y=some (.ref HE)) (hst:X.stack=X.env::X.outer) (hfr:X.env.frame=some X.env.locals) (hc:X.calm=true)
  (hN:X.N.Nodup) (hi:X.N[i]?=some n) (hx:X.env.kindOf n=some .local) (hs: ∀e ws sl EE,x8 (X.exc e (X.pn++ [(e,⟨.ref C,none,.fields ws,sl⟩)]) EE) (b0::suite) (t1 e))
  (hdb:(x==("__debug__" :Str))=false:=by decide) (hdy:(y==("__debug__" :Str))=false:=by decide) (hsw:swapsWith (.Call (.Name x p) (a::as) [] cpos) none epos.line X.env=pure false:=by rfl)
  (he:starEach (a::as) X.env=(false,eval a X.env)::starEach as X.env:=by rfl) (hpl:(backTo cpos (starEach as X.env)).any (·.1)=false:=by rfl):
  PS X (.Try [.Expr (.Call (.Name x p) (a::as) [] cpos) epos] [.ExceptHandler (some (.Name y yp)) (some n) (b0::suite) hpos] [] [] pos) (zrZ i sp E ta t1):=⟨λpins s σ H D I h=>by
 have hA: ∀EE:Value->Shared->Prop,ak (ay X.prog X.w) X.A (spliced (backTo cpos (starEach (a::as) X.env))) (AP (X.wish EE) pins σ λvs H1=>sp vs (vJ H1) (λ_ _=>False) E/\∀e,t1 e {nx:=λ_ _=>False,rt:=D.rt} (σ.set i (some (.ref e))) H1) EE s:=λEE=>(ha EE).run cpos pins s σ H _ (I.wish EE) h;refine wpAny_Try_except (qi (wpAny_Expr_any ?_ I.quiet hsw));refine ef (oQ I hg hm ?_ hdb);refine callWith_K (h₀:=X.base) I.ok.mod.kin hk (zM (hA _) λus s1 ⟨vs,H1,I1,r,q⟩=>⟨I1.kIn,?_⟩) he hpl;obtain⟨q,q1⟩:=q;have I1:=I1.unwish;have hl:(us++ []).length=ps.length:=by rw[cn,<- r.length];exact F.len _ _ _ _ q
 have bd:=hb s1 us I1.kIn hl;rw[cn]at bd;refine ml (ly (F.run X.A X.stack s1 (vJ H1) ⟨us,[]⟩ us vs _ E hr I1.env0.tups bd r q) λrr s' hq=> ?_);cases rr with
 | ok fl=>
  cases fl with
  | ret u=>obtain⟨_,_,_,_,_,_,_,z⟩:=hq;exact z.elim
  | next=>exact False.elim hq
  | brk=>exact False.elim hq
  | cont=>exact False.elim hq
 | error ev=>
  obtain⟨e,C',T,od,H',rfl,eE,os,bare,un,hok,fl,_,_,ze,zT⟩:=hq;obtain⟨eC,rfl⟩:=hE _ _ _ eE;cases eC;have J:=I1.behind os bare un hok;have ne:H1 e=none:=I1.hok.fresh ze;have nT:H1 T=none:=I1.hok.fresh zT;refine zja (L:=X.env.locals) (by rw[J.ok.frames,hst]) (hst▸J.stack) hfr (.inr ⟨T,rfl,fl⟩) λh1 T1 st zT1 fl1=> ?_;have J1:=J.stays (h':=h1) (ch:= [e,T]) (hst▸st) (λb m=>by
   rcases az.mp m with rfl | m
   ·exact⟨I1.priv ze,ne⟩
   ·rw[aj.mp m];exact⟨I1.priv zT,nT⟩)
  have pT1:=J.priv zT1;have nT1:H1 T1=none:=J.hok.fresh zT1;have on: ∀{s2:Shared} {h2:Heap},z5 X pins σ H1 s2->w5 [] [T1] s2.heap h2->z5 X pins σ H1 {s2 with heap:=h2} :=λ{s2 h2} I2 st2=>
   I2.stays (ch:= [T1]) ⟨st2.size,λb o z n m=>st2.keep b o z (by simp) m,st2.slot,st2.there⟩ (λb m=>by rw[aj.mp m];exact⟨pT1,nT1⟩)
  refine zc9 fl1 λh2 st2 fl2=> ?_;have J2:=on J1 st2;refine wpAny_handleBy_cons (codeAny_handlers_test ?_) (by intro q;cases q);obtain⟨oe,ws,eo,oc,od,odt,_⟩:=fl2.ob;have nl:e≠X.env.locals:=(I1.priv ze).2.1;refine oQ (X:=X.exc e (X.pn++ [(e,oe)]) (λ_ _=>False)) (J2.exc_in eo odt ne nl) hgy hmy ?_ hdy;obtain⟨nm,qq,N,bs,sn,sub,ab,col,dd,k0,k1,k2,k3,k5,l⟩:=id M.ob;obtain⟨nm',q',N',bs',hd',sn',sub',ab',col',dd',l0,l1,l2,l3,l5,nw',l'⟩:=id Z;refine zoG (J2.kIn _ _ l) (J2.kIn _ _ l') rfl eo oc (by simp) ?_;refine codeAny_handlers_suite_as (zc9 fl2 λh3 st3 fl3=> ?_);have J3:=on J2 st3;obtain⟨⟨c9,d9,t9,sl9⟩,ws,eo,oc,od,odt,_⟩:=fl3.ob;cases oc;cases od;cases odt;refine lS (X:=X.exc e (X.pn++ [(e,_)]) (λ_ _=>False)) (v:= .ref e) (J3.exc_in eo rfl ne nl) hN hi (.inl hx) rfl (λs4 J4=> ?_) (.inr hx);refine zM ((hs e ws sl9 _).run pins s4 _ H1 _ ((J4.wish _)) (q1 e)) λf s5 hf=> ?_;cases f with
  | ret u=>
   obtain⟨v,σ5,H5,J5,rv,q5⟩:=hf;have J5:=J5.exc_out I.ok.hd;obtain⟨m,hn,_⟩:=J5.loc;refine wpAny_nameGoes hx hn (by rw[J5.ok.kind];rfl) λh6 m6 hn6 hs6=> ?_;exact⟨v,_,H5,J5.gone hn6 hs6,rv,q5⟩
  | next=>obtain⟨_,_,_,z⟩:=hf;exact z.elim
  | brk=>obtain⟨_,_,_,z⟩:=hf;exact z.elim
  | cont=>obtain⟨_,_,_,z⟩:=hf;exact z.elim⟩
end
end L2
namespace L2
open PySem PySem.Spec PyProof.Rows
theorem ztL {K:Frag}{e C HE:Addr}{ws:Array Value}{sl:Array (Option Value)}(T:qX K HE)(M:u7 K HE C):PySem.W.KitX K (.ref e) (.ref C) (λh=>h.get? e=some ⟨.ref C,none,.fields ws,sl⟩) where
 ty:=λM' h _ q=>(PySem.W.Looks.ld q).andThen .now
 it:=λM' h KX _=>by
  obtain⟨nm,qn,N,bs,sn,sub,ab,col,dd,k0,k1,k2,k3,k5,l⟩:=M.ob;intro A' Q' E' s' k q;unfold isType loadHead;exact aa (wpAny_loadPart (k _ _ (KX _ _ l)) (ah q))
 ne:=λh tp dd its n sl KX q=>by
  obtain⟨nm,qn,N,bs,sn,sub,ab,col,dd',k0,k1,k2,k3,k5,l⟩:=M.ob;refine Bool.eq_false_iff.mpr λz=> ?_;have w:C=tp:=Value.ref.inj (beq_iff_eq.mp z);subst w;have:=KX _ _ l;rw[q]at this;exact absurd (congrArg (λo:Option Obj=>o.map (·.cls)) this) (by simp)
 ca:=λ{prog w A E Q s} KX q hQ=>by
  obtain⟨cd,hcl,hm,hdi⟩:=M.cls;refine znv (odo:=none) KX ⟨q,rfl,rfl,trivial⟩ hcl hm M.ga M.gg ?_ hQ;unfold findObj;rw[hcl,ln,M.cc,ln];dsimp only;rw[T.dget,ln];dsimp only;rw[T.dset]
  rfl
theorem zmC {X:Cx}{e C HE:Addr}{ws:Array Value}{sl:Array (Option Value)}(T:qX X.K HE)(M:u7 X.K HE C)(hp:(e,(⟨.ref C,none,.fields ws,sl⟩:Obj))∈X.pn):
  w4 X (.builtin "isinstance") (λxs H Q=> ∃c cv b,xs= [.ref e,c]/\dE c=some cv/\kitOne X.K (.ref C) cv=some b/\Q (.bl b) H):=by
 intro pins s σ H xs us Q I r h;obtain⟨c,cv,b,rfl,rc,hk,q⟩:=h;obtain⟨u1,u2,rfl,ru1,ru2⟩:=zJ.two r;cases ru1;obtain rfl:=zmS rc ru2;exact PySem.W.kia_one (ztL T M) I.kIn (I.pin _ (ax _ hp)).1 hk (by intro z;cases z) λtk=>⟨.bl b,H,I.tok _,rfl,q⟩
end L2
namespace L3
open PySem PySem.Spec PyProof.Rows L2
mutual
def xZ:PV->Bool
 | .tup xs=>tupVs xs
 | .non=>true
 | .bl _=>true
 | .int _=>true
 | .str _=>true
 | .ty _=>true
 | _=>false
def tupVs:List PV->Bool
 | []=>true
 | x::xs=>xZ x&&tupVs xs
end
section
variable {K:Frag} {A:List Addr} {H:Hp}
theorem uM.tups {a:Addr}{vs:List V}(h:uM K A H a vs):uM K [] (vJ H) a vs:=by
 rcases h with⟨h | ⟨o,h⟩,_⟩ | h
 ·exact .inl ⟨.inl (f9 h rfl),by simp⟩
 ·exact .inl ⟨.inr ⟨o,f9 h rfl⟩,by simp⟩
 ·exact .inr h
mutual
theorem RV.tups {x:PV}{v:V} :RV K A H x v->xZ x=true->RV K [] (vJ H) x v
 | .non,_=> .non
 | .bl b,_=> .bl b
 | .int i,_=> .int i
 | .str x,_=> .str x
 | .ty n,_=> .ty n
 | .tup t z r,h=> .tup t.tups z (RVs.tups r (by unfold xZ at h;exact h))
 | .lst t z r,h=>by unfold xZ at h;cases h
 | .dct t z r,h=>by unfold xZ at h;cases h
 | .itb e n,h=>by unfold xZ at h;cases h
 | .clo e,h=>by unfold xZ at h;cases h
theorem RVs.tups {xs:List PV}{vs:List V} :RVs K A H xs vs->tupVs xs=true->RVs K [] (vJ H) xs vs
 | .nil,_=> .nil
 | .cons r t,h=>by
  unfold tupVs at h;have h:=oj.mp h;exact .cons (RV.tups r h.1) (RVs.tups t h.2)
end
theorem RE.rvT {x:PV}{v:V}(h:RE K A H x v)(t:xZ x=true):RV K A H x v:=by
 cases h with
 | val r=>exact r
 | obj e=>unfold xZ at t;cases t
end
def spR (K:Frag)(C:Addr)(S:PV->Prop):Sp:=λvs H _ E=>(∀H',E (.ref C) none H')/\∃x v,vs= [v]/\RV K [] H x v/\S x
theorem zp3 {P:Program}{w:World}{K:Frag}{mg:Str->Option Value}{base:Heap}{x qual:Str}{st:Stmt}{f C:Addr}{fd:FuncData}{N:List Str}{a:Str}{k:Nat}{S:PV->Prop}(F:yD K x qual st f fd)(sc:yM N [a] (zV st))
  (hB: ∃T:yQ,(∀(cdv:Value) (A:Around) (outer:List Env) (s:Shared) (H:Hp) (E:XK),zL k (A.deeper (envOfC qual (zV st) s.heap.objs.size f cdv))->(∀H',E (.ref C) none H')->x8 (t8 (tM P w) P w K mg base N qual (zV st) f cdv A outer s H E) (sL st) (xA K T))/\
   ∀x,S x->T {nx:=λ_ _=>False,rt:=λ_ _=>False} (sY N [x]) []):zU P w K mg base (tM P w) (k+1) f fd [a] (spR K C S):=by
 obtain⟨T,hT,hb⟩:=hB;obtain⟨oc,od,kV,doc,pm,an,cdv,ct,osl,rfl,lk,hcd⟩:=F.ex;refine zig lk hcd sc (λvs H Q E h=> ?_) λA outer s H vs Q E hr hsp=> ?_
 ·obtain⟨_,x,v,rfl,_⟩:=h;rfl
 ·obtain⟨hE,x,v,rfl,r,hS⟩:=hsp
  refine⟨_,hT cdv A outer s H E hr hE,[],sY N [x],[],_,yX.begin ⟨by simp,rfl,λi a o h=>by cases h⟩ (.cons (.val r) .nil),hb x hS,?_⟩;exact⟨λA' H' σ' env' st' g r q=>q.elim,λA' H' st' r v g s e q=>q.elim,λA' H' σ' env' st' g r q=>q.elim,λA' H' σ' env' st' g r q=>q.elim⟩
def ztG:yQ:=λ_ _ _=>True
section
variable {X:Cx} {k:Nat} {f C HE:Addr} {fd:FuncData} {E:XK} {x:Str} {p pos pos':Pos}
def zdD (C:Addr):Sp:=λvs H Q _=> ∃e,vs= [.ref e]/\H e=some (tL e C none)/\Q .non H
theorem zry (T:qX X.K HE)(M:u7 X.K HE C)(MI:kT X.K C f)(F:zU X.prog X.w X.K X.mg X.base y3 k f fd ["self"] (zdD C))(hr:zL (k+1) X.A)(hg:Gl X x)(hm:X.mg x=some (.ref C))(hb:wT X.K fd ["self"] [])(tw:eL X E)(hE: ∀H',E (.ref C) none H')(hc:X.calm=true)
  (hdb:(x==("__debug__" :Str))=false:=by decide):PS X (.Raise (some (.Call (.Name x p) [] [] pos)) none pos') (xA X.K ztG):=
 tI (zra (E:=E0) T M MI F hr hg hm hb zj3 tw hc hdb) λD σ H _ e R he hR=>⟨e,rfl,yO,rfl,hR _ none yO (hE _)⟩
end
end L3
namespace L2
open PySem PySem.Spec PyProof.Rows
section
variable {K:Frag} {HE C:Addr}
theorem u7.sub (M:u7 K HE C)(b:Value):subIn K (.ref C) b=some ((Value.ref C:: .ref HE::vO).contains b):=by
 obtain⟨cd,hcl,hm,hd⟩:=M.cls;show mroIn K C b=_;unfold mroIn;rw[hcl,ln,hm]
 rfl
theorem u7.kit_ve (M:u7 K HE C):kitOne K (.ref C) (.type "ValueError")=some true:=by
 unfold kitOne;rw[if_neg (by intro z;cases(beq_iff_eq.mp z))];show(if kitMeta "ValueError" =true then subIn K (.ref C) (.type "ValueError")else none)=_;rw[if_pos (show kitMeta "ValueError" =true by decide+kernel),M.sub]
 congr 1
end
end L2
namespace L3
open PySem PySem.Spec PyProof.Rows L2
section
variable {X:Cx}
def l7 (neg:Bool):R3:=λx y st Q=>match x,y with | .bl a,.bl b=>Q (.bl (if neg then !(a==b)else a==b)) st | _,_=>False
theorem zf3 {neg a b:Bool}{st:z7}{Q:K3} :l7 neg (.bl a) (.bl b) st Q=Q (.bl (if neg then !(a==b)else a==b)) st:=rfl
theorem zps:yA X (compareOp .Is) (xN X.K (l7 false)):=uF λpins s σ H A st x y v w vv ww Q3 Q I rs ex ey rv rw h k=>by
 unfold l7 at h
 split at h
 ·rename_i a b
  cases ex with | val ex=>cases ex;cases ey with | val ey=>cases ey;cases rv;cases rw;exact aa (ah (ah ⟨.bl (a==b),H,I,(by cases a <;> cases b <;> rfl),k.now rs (.val (.bl _)) h⟩))
 ·exact h.elim
theorem zpv:yA X (compareOp .IsNot) (xN X.K (l7 true)):=uF λpins s σ H A st x y v w vv ww Q3 Q I rs ex ey rv rw h k=>by
 unfold l7 at h
 split at h
 ·rename_i a b
  cases ex with | val ex=>cases ex;cases ey with | val ey=>cases ey;cases rv;cases rw;exact aa (ah (ah ⟨.bl (!(a==b)),H,I,(by cases a <;> cases b <;> rfl),k.now rs (.val (.bl _)) h⟩))
 ·exact h.elim
end
end L3
namespace L3
open PySem PySem.Spec PyProof.Rows L2
section
variable {prog:Program} {w:World} {A:Around} {E:Value->Shared->Prop} {s:Shared}
theorem zmg {sl:Addr}{vs:Value}{n:Nat}{Q:Int×Int×Nat->Shared->Prop}(hs:s.heap.IsSliceOf sl .none .none vs)(pv:IsPart vs (some (-1)))(h:Q ((n:Int) - 1,-1,n) s):ak (ay prog w) A (Builtin.Slice.sliceApplied (.ref sl) (pure (n:Int))) Q E s:=by
 obtain⟨os,hos,hcs,hds⟩:=id hs;unfold Builtin.Slice.sliceApplied Builtin.Slice.sliceFields;refine aa (aa (fe hos hds (x:= .none) rfl (aa (fe hos hds (x:= .none) rfl (aa (fe hos hds (x:=vs) rfl (ah ?_)))))));refine aa (HT.slicePart_ pv ?_);show ak _ _ (if((-1:Int)==0)=true then _ else _) _ _ s;rw[if_neg (by decide)];refine aa (HT.slicePart_ .none (aa (HT.slicePart_ .none (aa (ah ?_)))));have e1:Builtin.Slice.sliceAdjust none none (-1) (n:Int)=((n:Int) - 1,-1):=by unfold Builtin.Slice.sliceAdjust;simp
 have e2:Builtin.Slice.slicePlaces ((n:Int) - 1) (-1) (-1)=n:=by
  unfold Builtin.Slice.slicePlaces;rw[if_neg (by decide),show(- -1:Int)=1 by decide,vz]
  split <;> omega
 show ak _ _ (match Builtin.Slice.sliceAdjust none none (-1) (n:Int)with | (lo,hi)=>pure (lo,(-1:Int),Builtin.Slice.slicePlaces lo hi (-1))) _ _ s;rw[e1];show ak _ _ (pure ((n:Int) - 1,(-1:Int),Builtin.Slice.slicePlaces ((n:Int) - 1) (-1) (-1))) _ _ s;rw[e2];exact ah h
theorem zqO (xs:Array Value):((List.range xs.size).filterMap λ(m:Nat)=>xs[((xs.size:Int) - 1+(m:Int) * (-1)).toNat]?).toArray=xs.toList.reverse.toArray:=by
 have gen: ∀(l:List Value) (n:Nat),n<=l.length->(List.range n).filterMap (λ(m:Nat)=>l.toArray[((n:Int) - 1+(m:Int) * (-1)).toNat]?)=(l.take n).reverse:=by
  intro l n
  induction n with
  | zero=>intro _;simp
  | succ n ih=>
   intro h;rw[mx,bx,ko];have h1:l.toArray[(((n+1:Nat):Int) - 1+((0:Nat):Int) * (-1)).toNat]?=some l[n]:=by
    rw[show((((n+1:Nat):Int) - 1+((0:Nat):Int) * (-1)).toNat)=n by omega];simp
   rw[h1];have e:((λ(m:Nat)=>l.toArray[(((n+1:Nat):Int) - 1+(m:Int) * (-1)).toNat]?) ∘ Nat.succ)=λ(m:Nat)=>l.toArray[((n:Int) - 1+(m:Int) * (-1)).toNat]?:=by
    funext m
    show l.toArray[(((n+1:Nat):Int) - 1+((m+1:Nat):Int) * (-1)).toNat]?=_
    congr 2
    omega
   rw[e,ih (by omega),nS (x:=l[n]) (by simp),fo];rfl
 have:=gen xs.toList xs.size (by simp);simp only[oi]at this;rw[this,bz (by simp)]
theorem znB {t sl:Addr}{items:Array Value}{vs:Value}{Q:Value->Shared->Prop}(ht:IsTup s.heap t items)(hs:s.heap.IsSliceOf sl .none .none vs)(pv:IsPart vs (some (-1)))
  (h:Q (.ref s.heap.objs.size) {s with heap:=s.heap.push {cls:= .type "tuple",data:= .seq items.toList.reverse.toArray}})
  (hsz:items.size<=sizeLine):ak (ay prog w) A (getItem (.ref t) (.ref sl)) Q E s:=by
 have htake:sizeOk (.seq items.toList.reverse.toArray):=by
  show items.toList.reverse.toArray.size<=sizeLine;rw[be,cm,fm];exact hsz
 obtain⟨os,hos,hcs,hds⟩:=id hs;have hTs:s.TypeIs (.ref sl) "slice" :=⟨os,hos,hcs⟩;unfold getItem
 try with_reducible refine cq ?_
 first | refine aa (ah ?_) | skip
 refine aa (pz ht.typeIs (by decide) ?_);refine aa (jb (name:=Str.ofString "__getitem__") ht.typeIs cy
  (ji cy ht.typeIs oo ?_ (ow _ _)))
 show ak _ _ (Builtin.Tuple.tupleItemsOf (.ref t) >>= _) _ _ s;refine aa (vj ht ?_);refine aa (ib hTs ?_);rw[if_pos (by decide)];refine aa (zmg hs pv ?_);have hno: ¬ (((items.size:Int) - 1==0&&(-1:Int)==1&&items.size==items.size)=true):=by
  intro q;rw[fb,fb]at q;exact absurd q.1.2 (by decide)
 show ak _ _ (if((items.size:Int) - 1==0&&(-1:Int)==1&&items.size==items.size)=true then _ else _) _ _ s;rw[if_neg hno,zqO]
 first
  | exact aa (m:=Builtin.Tuple.tupleExact _) (cr (ah ⟨_,rfl,ah h⟩) htake)
  | exact aa (m:=Builtin.Tuple.tupleExact _) (cr (aa (ah (ah ⟨_,rfl,ah h⟩))) htake)
  | exact aa (aa (m:=Builtin.Tuple.tupleExact _) (cr (ah (ah ⟨_,rfl,ah h⟩)) htake))
  | exact aa (aa (m:=Builtin.Tuple.tupleExact _) (cr (ah ⟨_,rfl,ah h⟩) htake))
end
section
variable {X:Cx}
def zte (K:Frag)(te:TE)(tl:TO):TE:=λσ H Q=>te σ H λx H1=>tl σ H1 λl H2=>l=some (-1)/\∃a xs,x= .ref a/\xI K H2 a xs/\∀p,H2 p=none->Q (.ref p) (upd H2 p (.tup xs.reverse))
theorem zq9 {e se:Expr}{te:TE}{tl:TO}{p2 pos:Pos}(he:PE X e te)(hl:L2.PO X (some se) tl):PE X (.Subscript e (.Slice none none (some se) p2) pos) (zte X.K te tl):=by
 refine⟨λpins s σ H Q I h=> ?_⟩;refine uu (zM (he pins s σ H _ I h) λv s1 ⟨x,H1,I1,r1,q1⟩=> ?_);refine wy ?_;rw[po];refine ah (ah ?_);refine zM (hl pins s1 σ H1 _ I1 q1) λvu s3 ⟨u,H3,I3,pu,hu,a,xs,ex,hx,q⟩=> ?_;subst hu ex;cases r1;have I4:z5 X pins σ H3 {s3 with heap:=s3.heap.push {cls:= .type "slice",data:= .fields #[.none,.none,vu]}} :=I3.kept (t':=s3.toks) λb ob q=>ae _ q;obtain⟨its,r,ht,hz⟩:=I4.tuple hx;have hlen:=r.length;show ak (ay X.prog X.w) X.A (subscriptTail e (.Slice none none (some se) p2) (.ref a) (.ref s3.heap.objs.size)) (EP X pins σ Q) X.xe {s3 with heap:=s3.heap.push {cls:= .type "slice",data:= .fields #[.none,.none,vu]}};refine xc (ops:= [.ref a,.ref s3.heap.objs.size]) ht.typeIs cy.lookup ?_ (by with_unfolding_all rfl);refine znB ht (oy ..) pu ?_ (by rw[be] <;> omega);refine⟨.ref _,_,I4.laid (t':=s3.toks) (o:= .tup xs.reverse) (λb ob q=>ae _ q) (ao _) ?_,rfl,q _ (I4.hok.fresh (ao _))⟩;exact⟨by rw[cm];exact hz,its.reverse,r.reverse,uJ.new _ _⟩
def zlh (T:zB)(Tl:t6):zB:=λenv st Q=>T env st λx st1=>Tl env st1 λl st2=>l=some (-1)/\(match x with | .tup xs=>Q (.tup xs.reverse) st2 | _=>False)
theorem zjN {e se:Expr}{Ta:zB}{Tl:t6}{p2 pos:Pos}(he:PE X e (zK X.K Ta))(hl:L2.PO X (some se) (o9 X.K Tl)):PE X (.Subscript e (.Slice none none (some se) p2) pos) (zK X.K (zlh Ta Tl)):=by
 refine xL (zq9 he hl) λσ H Q ⟨A,env,st,Q3,rel,h,k⟩=>⟨A,env,st,_,rel,h,λA1 H1 st1 x v g1 s1 e1 h1=>⟨A1,env,st1,_,rel.grow g1 s1,h1,λA2 H2 st2 l g2 s2 h2=>⟨h2.1,?_⟩⟩⟩;have h3:=h2.2
 split at h3
 ·cases e1.grow g2 with | val e=>cases e with | tup t z r=>
   exact⟨_,_,rfl,t.sq,(k.after (g1.trans g2)).tup s2 r.reverse (by rw[cm];exact z) h3⟩
 ·exact h3.elim
theorem zt0 {T:zB}{Tl:t6}{env:zG}{st:z7}{Q:K3} :zlh T Tl env st Q=T env st λx st1=>Tl env st1 λl st2=>l=some (-1)/\(match x with | .tup xs=>Q (.tup xs.reverse) st2 | _=>False):=rfl
end
end L3
namespace L3
open PySem PySem.Spec PyProof.Rows L2
section
variable {X:Cx} {a b e:Expr} {es:List Expr} {x:Str} {p pos pos':Pos} {k:Nat} {Ta Tb:zB} {TA:yE}
theorem qx (hr:zL k X.A)(ha:PE X a (zK X.K Ta))(hb:PE X b (zK X.K Tb))(hs:kP b:=by exact λ_ _=>rfl):PE X (.Subscript a b pos) (zK X.K (sD rT Ta Tb)):=vF (zpt hr) ha hb hs
theorem qn (i:Nat)(hN:X.N.Nodup)(hi:X.N[i]?=some x:=by rfl)(hx:uW X.env.scope x:=by exact Or.inl rfl)(hf:X.fn x=true∨X.env.scope.names.lookup x=some .local:=by first | exact .inl rfl | exact .inr rfl | assumption):PG X (.Name x pos) (vE X.K (gN i)):=zrt hN hi hx hf
theorem qz (i:Nat)(hN:X.N.Nodup)(he:PE X e (zK X.K Ta))(hi:X.N[i]?=some x:=by rfl)(hx:uW X.env.scope x:=by exact Or.inl rfl)(hs:swapsWith e (some (.Name x pos')) pos.line X.env=pure false:=by rfl)(hf:X.fn x=true∨X.env.scope.names.lookup x=some .local:=by first | exact .inl rfl | exact .inr rfl | assumption):
  PS X (.Assign [.Name x pos'] e pos) (xA X.K (pP Ta (gN i))):=zcZ hN hi hx he hs hf
theorem qc {op:CmpOp}{R:R3}(ho:yA X (compareOp op) (xN X.K R))(ha:PE X a (zK X.K Ta))(hb:PE X b (zK X.K Tb))(hm:behindInMarks op b=false:=by exact rP _):PT X (.Compare a [op] [b] pos) (yU X.K (pR (sD R Ta Tb))):=uH ho ha hb hm
theorem qk {S:zQ}{f:Addr}{fd:FuncData}{ps:List Str}{q:Str}{st:Stmt}(F:zU X.prog X.w X.K X.mg X.base y3 k f fd ps (y2 X.K S))(hr:zL k X.A)(hm:X.mg x=some (.ref f))(hk:yD X.K x q st f fd)(hb:wT X.K fd ps [])
  (ha:PA X (e::es) (vD X.K TA)) (hg:Gl X x:=by rfl) (hdb:(x==("__debug__" :Str))=false:=by decide) (he:starEach (e::es) X.env=(false,eval e X.env)::starEach es X.env:=by rfl) (hpl:(backTo pos (starEach es X.env)).any (·.1)=false:=by rfl):
  PE X (.Call (.Name x p) (e::es) [] pos) (zK X.K (r6 S TA)):=zrn F hr hg hm hk.kp hb ha hdb he hpl
end
end L3
set_option maxHeartbeats 1000000
namespace N17
open PySem L2 L3
def top (i:Nat):Stmt:=PySem.Challenge.pw_copiedhouse_k17_programs_let_by.main.body.getD i (.Pass ⟨0,0,0,0⟩)
theorem rE:bootBuiltins "tuple" =some (.type "tuple"):=by decide+kernel
theorem j0:bootBuiltins "dict" =some (.type "dict"):=by decide+kernel
theorem o8:bootBuiltins "int" =some (.type "int"):=by decide+kernel
abbrev gY:Stmt:=top 10
local macro_rules | `(tactic| ac_rfl)=> `(tactic| exact⟨rfl,rfl,rfl,by decide+kernel,rfl,by decide+kernel,by decide+kernel⟩)
theorem zsj:yM ["term"] ["term"] (zV gY):=by ac_rfl
abbrev gF:Stmt:=top 11
theorem zsc:yM ["row"] ["row"] (zV gF):=by ac_rfl
abbrev gW:Stmt:=top 12
theorem zsh:yM ["deed"] ["deed"] (zV gW):=by ac_rfl
abbrev gX:Stmt:=top 13
theorem zsi:yM ["deed"] ["deed"] (zV gX):=by ac_rfl
abbrev lP:Stmt:=top 15
theorem zd3:yM ["program","kind","named","hand"] ["program","kind"] (zV lP):=by ac_rfl
abbrev lM:Stmt:=top 16
theorem lI:yM ["program","splits","order","waiting","word"] ["program"] (zV lM):=by ac_rfl
abbrev lN:Stmt:=top 20
theorem zkj:yM ["program"] ["program"] (zV lN):=by ac_rfl
abbrev gP:Stmt:=top 21
theorem zd2:yM ["tuples","met","one"] ["tuples"] (zV gP):=by ac_rfl
abbrev nN:Stmt:=top 22
theorem lJ:yM ["program","manners","hand","taken","row"] ["program"] (zV nN):=by ac_rfl
abbrev gL:Stmt:=top 23
theorem zse:yM ["row","taken"] ["row","taken"] (zV gL):=by ac_rfl
abbrev gJ:Stmt:=top 24
theorem zkk:yM ["row","manners","deed"] ["row","manners"] (zV gJ):=by ac_rfl
abbrev gO:Stmt:=top 25
theorem zkl:yM ["term","manners","inner"] ["term","manners"] (zV gO):=by ac_rfl
abbrev gM:Stmt:=top 26
theorem zsf:yM ["S","manners","fitting"] ["S","manners","fitting"] (zV gM):=by ac_rfl
abbrev lO:Stmt:=top 27
theorem zd1:yM ["program","come_to","hand"] ["program"] (zV lO):=by ac_rfl
abbrev gK:Stmt:=top 28
theorem zd0:yM ["program","ends","left"] ["program"] (zV gK):=by ac_rfl
abbrev gG:Stmt:=top 29
theorem gE:yM ["program","rows_of","ends","word"] ["program"] (zV gG):=by ac_rfl
abbrev gH:Stmt:=top 30
theorem zdz:yM ["rows","ends","held","row"] ["rows","ends"] (zV gH):=by ac_rfl
abbrev lK:Stmt:=top 31
theorem zsd:yM ["program","held"] ["program","held"] (zV lK):=by ac_rfl
abbrev iW:Stmt:=top 33
theorem lF:yM ["_law_script","_law_k","_law_cell","_law_seed"] ["_law_script","_law_k"] (zV iW):=by ac_rfl
abbrev gA:Stmt:=top 34
theorem zdy:yM ["_law_box_here","_law_many","_law_digit","_law_one"] ["_law_box_here","_law_many"] (zV gA):=by ac_rfl
abbrev lC:Stmt:=top 35
theorem uS:yM ["_law_box_here","_law_many","_law_letters","_law_k","_law_common","_law_at","_law_first","_law_longer","_law_found","_law_word","_law_own"] ["_law_box_here","_law_many"] (zV lC):=by ac_rfl
abbrev hU:Stmt:=top 36
theorem zkh:yM ["_law_box_here","_law_form"] ["_law_box_here"] (zV hU):=by ac_rfl
abbrev gB:Stmt:=top 37
theorem pL:yM ["_law_box_here","_law_leaves_here","_law_room","_law_deep","_law_form","_law_third","_law_one","_law_other","_law_half"] ["_law_box_here","_law_leaves_here","_law_room","_law_deep"] (zV gB):=by ac_rfl
abbrev iV:Stmt:=top 38
theorem zkf:yM ["_law_box_here","_law_leaves_here","_law_room"] ["_law_box_here","_law_leaves_here"] (zV iV):=by ac_rfl
abbrev hJ:Stmt:=top 39
theorem lH:yM ["_law_box_here","_law_kinds","_law_calm","_law_word","_law_three","_law_term_here"] ["_law_box_here","_law_kinds","_law_calm"] (zV hJ):=by ac_rfl
abbrev lB:Stmt:=top 40
theorem lE:yM ["_law_box_here","_law_manner_here","_law_things","_law_found","_law_word","_law_many"] ["_law_box_here","_law_manner_here","_law_things"] (zV lB):=by ac_rfl
abbrev h9:Stmt:=top 41
theorem lG:yM ["_law_box_here","_law_shelves","_law_things","_law_found","_law_ks","_law_manner_here","_law_begin_here"] ["_law_box_here","_law_shelves","_law_things"] (zV h9):=by ac_rfl
abbrev iX:Stmt:=top 42
theorem pJ:yM ["_law_box_here","_law_shelf","_law_leaves_here","_law_things","_law_ks","_law_manner_here","_law_begin_here","_law_word","_law_term_here"] ["_law_box_here","_law_shelf","_law_leaves_here","_law_things"] (zV iX):=by ac_rfl
abbrev hZ:Stmt:=top 43
theorem nL:yM ["_law_box_here","_law_uses","_law_things","_law_own","_law_asked","_law_leaves_here","_law_row_here"] ["_law_box_here","_law_uses","_law_things"] (zV hZ):=by ac_rfl
abbrev iZ:Stmt:=top 44
theorem zkg:yM ["_law_box_here","_law_plan","_law_rows","_law_held","_law_other"] ["_law_box_here","_law_plan","_law_rows","_law_held"] (zV iZ):=by ac_rfl
abbrev iY:Stmt:=top 45
theorem pK:yM ["_law_script","_law_at","_law_plan","_law_number_here","_law_box_here","_law_uses","_law_rows","_law_held","_law_k","_law_kind","_law_other"] ["_law_script","_law_at","_law_plan","_law_number_here"] (zV iY):=by ac_rfl
abbrev gC:Stmt:=top 46
theorem rX:yM ["_law_box_here","_law_form","_law_some","_law_x","_law_y","_law_z","_law_at"] ["_law_box_here"] (zV gC):=by ac_rfl
abbrev nJ:Stmt:=top 47
theorem uR:yM ["_law_script","_law_at","_law_kinds","_law_calm","_law_hands","_law_box_here","_law_words_here","_law_names","_law_things","_law_shelves","_law_k","_law_manner_here","_law_many","_law_uses","_law_plan","_law_others","_law_turn"] ["_law_script","_law_at","_law_kinds","_law_calm","_law_hands"] (zV nJ):=by ac_rfl
abbrev hV:Stmt:=top 48
theorem zki:yM ["_law_program_here","e"] ["_law_program_here"] (zV hV):=by ac_rfl
abbrev gI:Stmt:=top 49
theorem sV:yM ["_law_script","_law_shelves","_law_hands","_law_splits","_law_kh","_law_rows","_law_turned","_law_some","_law_program_here"] ["_law_script"] (zV gI):=by ac_rfl
def Dn (K:Frag)(mg:Str->Option Value)(x:Str)(st:Stmt)(ps:List Str):Prop:= ∃f fd,yD K x x st f fd/\wT K fd ps []/\mg x=some (.ref f)
def mdP:List (z6×PV):= [(.inr "set",.tup [.str "last",.str "told"]),(.inr "more",.tup [.str "sum"]),(.inr "in",.tup [.str "bag"]),(.inr "out",.tup [.str "bag"]),(.inr "lay",.tup [.str "row"]),(.inr "drop",.tup [.str "row"])]
def mT:List (z6×PV):= [(.inr "shelf",.tup [.str "last",.str "sum",.str "told"]),(.inr "many",.tup [.str "bag"]),(.inr "long",.tup [.str "row"])]
def inI (i:Nat):Stmt:=match top i with
 | .ClassDef (body:=b) .. =>b.getD 0 (.Pass ⟨0,0,0,0⟩)
 | _=> .Pass ⟨0,0,0,0⟩
theorem zm7:bootBuiltins "ValueError" =some (.type "ValueError"):=by decide+kernel
abbrev nK:Stmt:=inI 3
theorem zsb:yM ["self"] ["self"] (zV nK):=⟨rfl,rfl,rfl,by decide+kernel,rfl,by decide+kernel,by decide+kernel⟩
structure NH (K:Frag)(mg:Str->Option Value)(HE C J:Addr)(fj:FuncData):Prop where
 top:qX K HE
 head:zeF K HE
 gh:mg "HouseError" =some (.ref HE)
 cls:u7 K HE C
 ini:kT K C J
 gc:mg "NoHand" =some (.ref C)
 fn:yD K "__init__" "NoHand.__init__" nK J fj
 bd:wT K fj ["self"] []
structure Mo (w:World)(K:Frag)(mg:Str->Option Value):Prop where
 len:mg "len" =none
 int:mg "int" =none
 range:mg "range" =none
 tuple:mg "tuple" =none
 isinstance:mg "isinstance" =none
 bool:mg "bool" =none
 str:mg "str" =none
 dict:mg "dict" =none
 list:mg "list" =none
 sorted:mg "sorted" =none
 min:mg "min" =none
 max:mg "max" =none
 all:mg "all" =none
 set:mg "set" =none
 enumerate:mg "enumerate" =none
 reversed:mg "reversed" =none
 ValueError:mg "ValueError" =none
 terms_in:Dn K mg "terms_in" gY ["term"]
 deed_of:Dn K mg "deed_of" gF ["row"]
 shelf_of:Dn K mg "shelf_of" gW ["deed"]
 term_of:Dn K mg "term_of" gX ["deed"]
 named_by_hands:Dn K mg "named_by_hands" lP ["program","kind"]
 in_split_order:Dn K mg "in_split_order" lM ["program"]
 look:Dn K mg "look" lN ["program"]
 look_for_twice:Dn K mg "look_for_twice" gP ["tuples"]
 look_at_rows:Dn K mg "look_at_rows" nN ["program"]
 look_at_named_hand:Dn K mg "look_at_named_hand" gL ["row","taken"]
 look_at_doing:Dn K mg "look_at_doing" gJ ["row","manners"]
 look_at_term:Dn K mg "look_at_term" gO ["term","manners"]
 look_at_shelf:Dn K mg "look_at_shelf" gM ["S","manners","fitting"]
 look_at_splits:Dn K mg "look_at_splits" lO ["program"]
 look_at_joins:Dn K mg "look_at_joins" gK ["program"]
 held_at_ends:Dn K mg "held_at_ends" gG ["program"]
 held_behind:Dn K mg "held_behind" gH ["rows","ends"]
 in_order_of_hands:Dn K mg "in_order_of_hands" lK ["program","held"]
 _law_box:Dn K mg "_law_box" iW ["_law_script","_law_k"]
 _law_take:Dn K mg "_law_take" gA ["_law_box_here","_law_many"]
 _law_words:Dn K mg "_law_words" lC ["_law_box_here","_law_many"]
 _law_number:Dn K mg "_law_number" hU ["_law_box_here"]
 _law_term:Dn K mg "_law_term" gB ["_law_box_here","_law_leaves_here","_law_room","_law_deep"]
 _law_any_term:Dn K mg "_law_any_term" iV ["_law_box_here","_law_leaves_here"]
 _law_manner:Dn K mg "_law_manner" hJ ["_law_box_here","_law_kinds","_law_calm"]
 _law_begin:Dn K mg "_law_begin" lB ["_law_box_here","_law_manner_here","_law_things"]
 _law_leaves:Dn K mg "_law_leaves" h9 ["_law_box_here","_law_shelves","_law_things"]
 _law_deed:Dn K mg "_law_deed" iX ["_law_box_here","_law_shelf","_law_leaves_here","_law_things"]
 _law_row:Dn K mg "_law_row" hZ ["_law_box_here","_law_uses","_law_things"]
 _law_join:Dn K mg "_law_join" iZ ["_law_box_here","_law_plan","_law_rows","_law_held"]
 _law_hand:Dn K mg "_law_hand" iY ["_law_script","_law_at","_law_plan","_law_number_here"]
 _law_three_words:Dn K mg "_law_three_words" gC ["_law_box_here"]
 _law_program:Dn K mg "_law_program" nJ ["_law_script","_law_at","_law_kinds","_law_calm","_law_hands"]
 _law_refused:Dn K mg "_law_refused" hV ["_law_program_here"]
 MD: ∃a us,mg "MANNERS_OF_DEEDS" =some (.ref a)/\qV w K a us/\∀A H,RKs K A H mdP us
 MT: ∃a us,mg "MANNERS_OF_TERMS" =some (.ref a)/\qV w K a us/\∀A H,RKs K A H mT us
 NHs: ∃HE C J fj,NH K mg HE C J fj
local macro_rules | `(tactic| simp_all? only[$ts,*])=> `(tactic| ((try dsimp[vY]);repeat(simp only[cB,zfa,u9,zfw,zfx,zfy,Nat.reduceAdd,Nat.reduceSub,Nat.reduceLT,Nat.reduceLeDiff,Int.reduceLT,Int.reduceLE,Int.reducePow,Int.reduceNeg,Int.reduceMul,Int.reduceAdd,Int.reduceSub,Int.reduceToNat,$ts,*];(try dsimp[vY]))))
local macro_rules | `(tactic| simp? only[$ts,*])=> `(tactic| ((try dsimp);repeat(simp only[cB,zfa,u9,zfw,zfx,zfy,Nat.reduceAdd,Nat.reduceSub,Nat.reduceLT,Nat.reduceLeDiff,Int.reduceLT,Int.reduceLE,Int.reducePow,Int.reduceNeg,Int.reduceMul,Int.reduceAdd,Int.reduceSub,Int.reduceToNat,$ts,*];(try dsimp))))
theorem dF:k7 10 18:=⟨by decide,by decide,by decide⟩
def y7 (a b:Int):Prop:=0<=a/\0<=b/\b<=2147483647
abbrev zC (a b:Int):PO:= .lst [.int a,.int b]
def zsw:zQ:=λxs st Q=> ∃(ns:List Int) (k:Int),xs= [.lst (ns.map .int),.int k]/\ns.length<=63/\0<=k/\∀a b,y7 a b->Q (.obj st.length) (st++ [zC a b])
def zk2:zQ:=λxs st Q=> ∃(i:Nat) (many a b:Int),xs= [.obj i,.int many]/\st[i]?=some (zC a b)/\y7 a b/\0 < many/\many < 1099511627776/\∀d a b,0<=d->d < many->y7 a b->Q (.int d) (st.set i (zC a b))
inductive Tm (L:Type) where | num (k:Int) | lf (l:L) | op (s:Str)(a b:Tm L) | ite (a b c:Tm L)
def Tm.rank {L:Type} :Tm L->Nat
 | .op _ a b=>max a.rank b.rank+1
 | .ite a b c=>max a.rank (max b.rank c.rank)+1
 | _=>0
def Sg (s:Str):Prop:=s= "+" ∨s= "-" ∨s= "*" ∨s= "<" ∨s= "="
def opv (s:Str)(a b:Int):Int:=if s= "+" then(a+b) % 4294967296 else if s= "-" then(a - b) % 4294967296 else if s= "*" then a * b % 4294967296 else if s= "<" then(if a < b then 1 else 0)else(if a=b then 1 else 0)
def In (i:Int):Prop:=0<=i/\i < 4294967296
def Tm.val {L:Type}(lv:L->Int):Tm L->Int
 | .num k=>k
 | .lf l=>lv l
 | .op s a b=>opv s (a.val lv) (b.val lv)
 | .ite a b c=>if a.val lv=0 then c.val lv else b.val lv
def Tm.ok {L:Type}(lo:L->Prop):Tm L->Prop
 | .num k=>In k
 | .lf l=>lo l
 | .op s a b=>Sg s/\a.ok lo/\b.ok lo
 | .ite a b c=>a.ok lo/\b.ok lo/\c.ok lo
def Tm.pv {L:Type}(lp:L->PV):Tm L->PV
 | .num k=> .tup [.str "num",.int k]
 | .lf l=>lp l
 | .op s a b=> .tup [.str "op",.str s,a.pv lp,b.pv lp]
 | .ite a b c=> .tup [.str "if",a.pv lp,b.pv lp,c.pv lp]
def pZ {L:Type}(lp:L->PV):Prop:= ∀l,∃(kd:Str) (zO:List PV),lp l= .tup (.str kd::zO)/\kd≠ "num" /\kd≠ "op" /\kd≠ "if"
inductive uK where | was | mine | yours
def uK.pv:uK->PV | .was=> .tup [.str "was"] | .mine=> .tup [.str "mine"] | .yours=> .tup [.str "yours"]
def uK.val (w m y:Int):uK->Int | .was=>w | .mine=>m | .yours=>y
theorem ziD:pZ uK.pv:=λl=>by cases l <;> exact⟨_,[],rfl,by decide+kernel,by decide+kernel,by decide+kernel⟩
theorem zty (ys:List Str)(n:Nat)(h: ∀y∈ys,y.length<=n):(ys.map (·.length)).sum<=n * ys.length:=by
 induction ys with
 | nil=>simp
 | cons y r ih=>
  have h1:=h y ar;have h2:=ih λz hz=>h z (bc _ hz);rw[am,pr,bq,Nat.mul_succ];omega
theorem zcq {α:Type}{f:PV->Option PV}{g h:α->PV}(l:List α)(e: ∀x,f (g x)=some (h x)):(l.map g).filterMap f=l.map h:=by
 induction l with
 | nil=>rfl
 | cons x l ih=>rw[am,bx,e x,ih];rfl
theorem zd5 {t u:yQ}{D:xM}{env:zG}{st:z7}(h:t {D with nx:=u D} env st):vY t u D env st:=h
local macro_rules | `(tactic| symm)=> `(tactic| refine zd5 ?_)
local macro_rules | `(tactic| ac_nf)=> `(tactic| simp? only[true_and])
abbrev Sh:=Str×PV×PV
def zZ (s:Sh):PV:= .tup [.str s.1,s.2.1,s.2.2]
inductive Hv where | int (v:Int) | bag (l:List (Str×Int)) | row (ws:List Str)
def Hv.pv:Hv->PV | .int v=> .int v | .bag l=>rD l | .row ws=> .tup (ws.map PV.str)
inductive Lf where | shelf (s:Str) | many (s t:Str) | long (s:Str)
def Lf.pv:Lf->PV | .shelf s=> .tup [.str "shelf",.str s] | .many s t=> .tup [.str "many",.str s,.str t] | .long s=> .tup [.str "long",.str s]
theorem jO:pZ Lf.pv:=λl=>by cases l <;> exact⟨_,_,rfl,by decide+kernel,by decide+kernel,by decide+kernel⟩
def zcz (sh:List Sh)(hs:List Hv)(s:Str):Option Hv:=((sh.map (·.1)).findIdx? λn=>n==s).bind λi=>hs[i]?
def Lf.val (sh:List Sh)(hs:List Hv):Lf->Option Int
 | .shelf s=>(match zcz sh hs s with | some (.int v)=>some v | _=>none)
 | .many s t=>(match zcz sh hs s with | some (.bag l)=>some (zlm l t % 4294967296) | _=>none)
 | .long s=>(match zcz sh hs s with | some (.row ws)=>some ws.length | _=>none)
theorem zsl: ∀d:Int,0<=d->d < 5->∃c,atI (("+-*<=" :Str)).cps.toList d=some c/\Sg ⟨#[c]⟩:=λd d0 d1=>by
 have:d=0∨d=1∨d=2∨d=3∨d=4:=by omega
 rcases this with rfl | rfl | rfl | rfl | rfl
 ·exact⟨43,by decide+kernel,.inl (by decide+kernel)⟩
 ·exact⟨45,by decide+kernel,.inr (.inl (by decide+kernel))⟩
 ·exact⟨42,by decide+kernel,.inr (.inr (.inl (by decide+kernel)))⟩
 ·exact⟨60,by decide+kernel,.inr (.inr (.inr (.inl (by decide+kernel))))⟩
 ·exact⟨61,by decide+kernel,.inr (.inr (.inr (.inr (by decide+kernel))))⟩
theorem zcX {L:Type}{lp:L->PV}(hlp:pZ lp)(t:Tm L):yR (t.pv lp)=true:=by
 cases t with
 | lf l=>obtain⟨kd,zO,e,_⟩:=hlp l;show yR (lp l)=true;rw[e];rfl
 | _=>rfl
theorem ztm {α:Type}{st:List α}{i:Nat}{x:α} :(st.set i x).take st.length=st.set i x:=f7
theorem zf_ {L:Type}{lp:L->PV}{m:Nat}{Q:K3}{st:z7}{t:Tm L}(hlp:pZ lp)(h:Q (t.pv lp) (st.take m)):xE m Q (t.pv lp) st:=by
 cases t with
 | lf l=>
  obtain⟨kd,zO,e,_⟩:=hlp l;have h':Q (lp l) (st.take m):=h;show xE m Q (lp l) st;rw[e]at h'⊢;exact h'
 | _=>exact h
def lR {L:Type}(lp:L->PV)(d:Nat):zQ:=λxs st Q=> ∃(i:Nat) (ls:List L) (room deep a b:Int),xs= [.obj i,.lst (ls.map lp),.int room,.int deep]/\st[i]?=some (zC a b)/\y7 a b/\pZ lp/\ls.length<=1000/\0<=deep/\deep < d/\∀(t:Tm L) a b,t.ok (λl=>l∈ls)->(t.rank:Int)<=deep->y7 a b->Q (t.pv lp) (st.set i (zC a b))
theorem zk3 {L:Type}{lp:L->PV}{K:Frag}{vs:List V}{H:Hp}{Q:VK}{E:XK}(h:y2 K (lR lp 0) vs H Q E):False:=by
 obtain⟨_,_,_,_,_,_,⟨_,_,_,_,_,_,_,_,_,_,_,h0,h1,_⟩,_⟩:=h;omega
theorem ziu {tc:x9}{t u:yQ}{D:xM}{env:zG}{st:z7}{b:Bool}(h: ∀Q,tc env st Q=Q b st)(k:if b=true then t D env st else u D env st):fE tc t u D env st:=by
 show tc env st _;rw[h];exact k
def zd9 {L:Type}(lp:L->PV):zQ:=λxs st Q=> ∃(i:Nat) (ls:List L) (a b:Int),xs= [.obj i,.lst (ls.map lp)]/\st[i]?=some (zC a b)/\y7 a b/\pZ lp/\ls.length<=1000/\∀(t:Tm L) a b,t.ok (λl=>l∈ls)->t.rank < 7->y7 a b->Q (t.pv lp) (st.set i (zC a b))
def fW (s:Sh)(kd:Str):Prop:= ∃r,s.2.1= .tup (.str kd::r)
def q9 (sh:List Sh)(l:Lf):Prop:= ∃s∈sh,∃kd,fW s kd/\((kd= "bag" /\∃t,l= .many s.1 t)∨(kd= "row" /\l= .long s.1)∨(kd≠ "bag" /\kd≠ "row" /\l= .shelf s.1))
def zs4:zQ:=λxs st Q=> ∃(i:Nat) (sh:List Sh) (ws:List Str) (a b:Int),xs= [.obj i,.lst (sh.map zZ),.lst (ws.map PV.str)]/\st[i]?=some (zC a b)/\y7 a b/\(∀s∈sh,∃kd,fW s kd)/\sh.length<=100/\ws≠ []/\ws.length<=1000/\∀(ls:List Lf) a b,ls.length=sh.length->(∀l∈ls,q9 sh l)->y7 a b->Q (.lst (ls.map Lf.pv)) (st.set i (zC a b))
def lfV (sh:List Sh)(hs:List Hv)(l:Lf):Int:=(l.val sh hs).getD 0
def zs7:zQ:=λxs st Q=> ∃(i:Nat) (a b:Int),xs= [.obj i]/\st[i]?=some (zC a b)/\y7 a b/\∀d a b,0<=d->d < 4294967296->y7 a b->Q (.int d) (st.set i (zC a b))
def zsC:zQ:=λxs st Q=> ∃(i:Nat) (many a b:Int),xs= [.obj i,.int many]/\st[i]?=some (zC a b)/\y7 a b/\1<=many/\many<=10/\∀(ws:List Str) a b,(ws.length:Int)=many->ws.Nodup->y7 a b->Q (.lst (ws.map PV.str)) (st.set i (zC a b))
theorem ztK {A B z z':Str}{c c':Nat}(h:A++⟨#[c]⟩++B++z=A++⟨#[c']⟩++B++z'):c=c':=by
 have e:=congrArg (λs:Str=>s.cps.toList) h;have cps: ∀a b:Str,(a++b).cps=a.cps++b.cps:=λa b=>rfl;simp only[cps,Array.toList_append,bh,gn,iy]at e;have e2:=rn e;injection e2
theorem ziF {d:Int}(d0:0<=d)(d1:d < 26):atI (("abcdefghijklmnopqrstuvwxyz" :Str)).cps.toList d=some (97+d.toNat):=by
 have h: ∀n < 26,(("abcdefghijklmnopqrstuvwxyz" :Str)).cps.toList[n]?=some (97+n):=by decide+kernel
 obtain⟨n,rfl⟩: ∃n:Nat,d=n:=⟨d.toNat,by omega⟩;exact vM (h n (by omega))
def qW (A B:Str)(first:Int)(ws:List Str):Prop:= ∀(m:Nat) (w:Str),ws[m]?=some w->∃z:Str,w=A++⟨#[97+((first+5 * (0+(m:Int))) % 26).toNat]⟩++B++z
theorem qW.snoc {A B:Str}{first:Int}{ws:List Str}{z:Str}(h:qW A B first ws){k:Nat}(hk:ws.length=k):qW A B first (ws++ [A++⟨#[97+((first+5 * (0+(k:Int))) % 26).toNat]⟩++B++z]):=λm w hw=>by
 subst hk;rcases Nat.lt_or_ge m ws.length with hl | hl
 ·rw[bo hl]at hw;exact h m w hw
 ·rw[aq hl]at hw
  have:m=ws.length:=by
   have:=(ad.mp hw).1;simp at this;omega
  subst this;rw[fq]at hw;injection hw with hw
  exact⟨z,hw.symm⟩
theorem qW.nodup {A B:Str}{first:Int}{ws:List Str}(h:qW A B first ws)(hl:ws.length<=10):ws.Nodup:=by
 refine dj.mpr λi j hi hj hij e=> ?_;obtain⟨z,e1⟩:=h i _ (bu hi);obtain⟨z',e2⟩:=h j _ (bu hj);rw[e1,e2]at e;have:=ztK e;omega
theorem zpm {α:Type}{ws:List α}{w:α}(h:ws.Nodup)(n:w∉ws)(k:Nat):(ws.set k w).Nodup:=by
 refine dj.mpr λi j hi hj hij e=> ?_;rw[dw]at hi hj;rw[xi,xi]at e;have hp:=dj.mp h i j hi hj hij
 split at e
 ·split at e
  ·omega
  ·exact n (e▸iq hj)
 ·split at e
  ·exact n (e▸iq hi)
  ·exact hp e
theorem zod {m n:Nat}(h:n < m):wA m (n:Int)=some n:=by
 unfold wA
 first | (rw[if_neg (by omega)];simp[h];done) | (simp;omega)
def zqo:List Str:= ["shelf","hand","set","more","in","out","lay","drop","tell","when","split","join","last","sum","bag","row","told","many","long","if","was","mine","yours","house","none","end","story"]
theorem zqp {d:Int}(d0:0<=d)(d1:d < 27): ∃wd:Str,atI [PV.str "shelf",.str "hand",.str "set",.str "more",.str "in",.str "out",.str "lay",.str "drop",.str "tell",.str "when",.str "split",.str "join",.str "last",.str "sum",.str "bag",.str "row",.str "told",.str "many",.str "long",.str "if",.str "was",.str "mine",.str "yours",.str "house",.str "none",.str "end",.str "story"] d=some (.str wd):=
 let⟨wd,_,e⟩:=o6 PV.str (ns:=zqo) d0 d1
 ⟨wd,e⟩
def kK (kd:Str)(r:List PV):Prop:=((kd= "last" ∨kd= "sum" ∨kd= "bag" ∨kd= "row")/\r= [])∨kd= "told" /\∃(n:Int) (t:Tm uK),r= [.int n,t.pv uK.pv]/\2<=n/\n < 6/\t.rank < 7
def pA:PV:= .lst [.str "last",.str "sum",.str "bag",.str "row",.str "told"]
def zs5:zQ:=λxs st Q=> ∃(i:Nat) (a b:Int),xs= [.obj i,pA,.bl false]/\st[i]?=some (zC a b)/\y7 a b/\∀kd r a b,kK kd r->y7 a b->Q (.tup (.str kd::r)) (st.set i (zC a b))
def HvN (n:Nat)(kd:Str):Hv->Prop
 | .int v=>kd≠ "bag" /\kd≠ "row" /\In v
 | .bag l=>kd= "bag" /\(l.map (·.1)).Nodup/\l.length<=n
 | .row ws=>kd= "row" /\ws.length<=n
abbrev ze_ (kd:Str):Hv->Prop:=HvN 40 kd
def zsv:zQ:=λxs st Q=> ∃(i:Nat) (kd:Str) (r:List PV) (ws:List Str) (a b:Int),xs= [.obj i,.tup (.str kd::r),.lst (ws.map PV.str)]/\st[i]?=some (zC a b)/\y7 a b/\kK kd r/\ws≠ []/\ws.length<=40/\ws.Nodup/\∀(h:Hv) a b,ze_ kd h->y7 a b->Q h.pv (st.set i (zC a b))
def uZ (s:Sh):Prop:= ∃(kd:Str) (r:List PV) (h:Hv),s.2.1= .tup (.str kd::r)/\kK kd r/\s.2.2=h.pv/\ze_ kd h
theorem zio (h:Hv):yR h.pv=true:=by cases h <;> rfl
theorem oN {w:Str}{ws:List Str} :yF (.str w) (ws.map PV.str)=decide (w∈ws):=by
 unfold yF;rw[List.any_map,show((λy=>y6 y (.str w)) ∘ PV.str)=(λn:Str=>n==w)from funext λs=>u9.2.1,xl];simp
theorem zpo {w:Str}{ws:List Str}{n:Nat}{st:z7}{Q:K3}(h:st[n]?=some (.lst (ws.map PV.str))):xJ true (.str w) (.obj n) st Q=Q (.bl (!decide (w∈ws))) st:=by
 have hf:(ws.map PV.str).all xD=true:=by rw[wj];exact ng.mpr λ_ _=>rfl
 have e:wX (.obj n) st=some (ws.map PV.str):=by unfold wX;dsimp only;rw[h]
 unfold xJ;rw[e];dsimp only;rw[oN,hf];simp[xD]
theorem Tm.ok_mono {L:Type}{lo lo':L->Prop}(h: ∀l,lo l->lo' l): ∀{t:Tm L},t.ok lo->t.ok lo'
 | .lf l,k=>h l k
 | .num n,k=>k
 | .op s x y,⟨a,b,c⟩=>⟨a,Tm.ok_mono h b,Tm.ok_mono h c⟩
 | .ite x y z,⟨a,b,c⟩=>⟨Tm.ok_mono h a,Tm.ok_mono h b,Tm.ok_mono h c⟩
inductive Dd where | tell (x:Tm Lf) | bag (up:Bool)(s t:Str) | set (s:Str)(x:Tm Lf) | more (s:Str)(x:Tm Lf) | lay (s:Str)(x:Tm Lf)(t:Str) | drop (s:Str)(x:Tm Lf)
abbrev x5 (x:Tm Lf):PV:=x.pv Lf.pv
def Dd.pv:Dd->PV
 | .tell x=> .tup [.str "tell",x5 x]
 | .bag true s t=> .tup [.str "in",.str s,.str t]
 | .bag false s t=> .tup [.str "out",.str s,.str t]
 | .set s x=> .tup [.str "set",.str s,x5 x]
 | .more s x=> .tup [.str "more",.str s,x5 x]
 | .lay s x t=> .tup [.str "lay",.str s,x5 x,.str t]
 | .drop s x=> .tup [.str "drop",.str s,x5 x]
def tv (sh:List Sh)(hs:List Hv)(x:Tm Lf):Int:=x.val (lfV sh hs)
def Dd.nm:Dd->Option Str | .tell _=>none | .bag _ s _ | .set s _ | .more s _ | .lay s _ _ | .drop s _=>some s
def Dd.tm:Dd->Option (Tm Lf) | .bag _ _ _=>none | .tell x | .set _ x | .more _ x | .lay _ x _ | .drop _ x=>some x
abbrev Rw:=Option (Tm Lf)×Dd
def Rw.pv:Rw->PV | (none,d)=>d.pv | (some x,d)=> .tup [.str "when",x5 x,d.pv]
def i8:Option Str->PV | none=> .non | some v=> .str v
theorem Dd.form (d:Dd){s:Str}(h:d.nm=some s): ∃(k:Str) (more:List PV),d.pv= .tup (.str k:: .str s::more)/\(k==("when" :Str))=false/\(k==("tell" :Str))=false:=by
 cases d with
 | tell x=>cases h
 | bag up a b=>cases h;cases up <;> exact⟨_,_,rfl,by decide+kernel,by decide+kernel⟩
 | set a x=>cases h;exact⟨_,_,rfl,by decide+kernel,by decide+kernel⟩
 | more a x=>cases h;exact⟨_,_,rfl,by decide+kernel,by decide+kernel⟩
 | lay a x b=>cases h;exact⟨_,_,rfl,by decide+kernel,by decide+kernel⟩
 | drop a x=>cases h;exact⟨_,_,rfl,by decide+kernel,by decide+kernel⟩
theorem zsn {sh:List Sh}{i:Nat}{s:Sh}(e:sh[i]?=some s):atI (sh.map zZ) (i:Int)=some (zZ s):=vM (by rw[cg,e];rfl)
def zlx (nm kd:Str)(ls:List Lf)(d:Dd):Prop:=d.nm=some nm/\(∀x,d.tm=some x->x.ok (λl=>l∈ls)/\x.rank < 7)/\
 (match d with | .tell _=>False | .bag _ _ _=>kd= "bag" | .more _ _=>kd= "sum" | .set _ _=>kd≠ "bag" /\kd≠ "row" /\kd≠ "sum" | .lay _ _ _=>kd= "row" | .drop _ _=>kd= "row")
def zsy:zQ:=λxs st Q=> ∃(i:Nat) (nm kd:Str) (r:List PV) (bg:PV) (ls:List Lf) (ws:List Str) (a b:Int),xs= [.obj i,.tup [.str nm,.tup (.str kd::r),bg],.lst (ls.map Lf.pv),.lst (ws.map PV.str)]/\yR bg=true/\st[i]?=some (zC a b)/\y7 a b/\ws≠ []/\ws.length<=1000/\ls.length<=1000/\∀(d:Dd) a b,zlx nm kd ls d->y7 a b->Q d.pv (st.set i (zC a b))
theorem sC (t:Tm Lf):yR (t.pv Lf.pv)=true:=by
 cases t with
 | lf l=>cases l <;> rfl
 | _=>rfl
def o4 (sh:List Sh)(x:Tm Lf):Prop:=x.ok (q9 sh)/\x.rank < 7
def zlT (kd:Str)(d:Dd):Prop:=match d with | .tell _=>False | .bag _ _ _=>kd= "bag" | .more _ _=>kd= "sum" | .set _ _=>kd≠ "bag" /\kd≠ "row" /\kd≠ "sum" | .lay _ _ _=>kd= "row" | .drop _ _=>kd= "row"
def zei (sh:List Sh)(d:Dd):Prop:=(∀x,d.tm=some x->o4 sh x)/\∀s,d.nm=some s->∃sx∈sh,sx.1=s/\∃kd r,sx.2.1= .tup (.str kd::r)/\zlT kd d
def qC (sh:List Sh)(r:Rw):Prop:=(∀x,r.1=some x->o4 sh x)/\zei sh r.2
def gU:zQ:=λxs st Q=> ∃(i:Nat) (sh:List Sh) (ws:List Str) (a b:Int),xs= [.obj i,.tup [.lst (sh.map zZ),.lst (sh.map zZ)],.lst (ws.map PV.str)]/\st[i]?=some (zC a b)/\y7 a b/\(∀s∈sh,uZ s)/\sh≠ []/\sh.length<=63/\ws≠ []/\ws.length<=1000/\∀(r:Rw) a b,qC sh r->y7 a b->Q r.pv (st.set i (zC a b))
theorem dI (d:Dd):yR d.pv=true:=by
 cases d with
 | bag up s t=>cases up <;> rfl
 | _=>rfl
theorem dL {α:Type}{f:α->PV}{m:Nat} : ∀(l:List α),(∀x∈l,zE (f x)<=m)->dpts (l.map f)<=m
 | [],_=>by unfold dpts;exact dg _
 | x::l,h=>by
  rw[am];unfold dpts;exact Nat.max_le.mpr ⟨h x ar,dL l λy hy=>h y (bc _ hy)⟩
theorem znh (h:Hv):zE h.pv<=2:=by
 cases h with
 | int v=>unfold Hv.pv zE;decide
 | bag l=>
  unfold Hv.pv rD zE;have:=dL (f:=λq:Str×Int=>PV.tup [.str q.1,.int q.2]) (m:=1) l λx _=>by simp[zE,dpts]
  omega
 | row ws=>
  unfold Hv.pv zE;have:=dL (f:=PV.str) (m:=0) ws λx _=>by simp[zE]
  omega
theorem oG: ∀t:Tm uK,zE (t.pv uK.pv)<=t.rank+1
 | .num k=>by unfold Tm.pv;simp[zE,dpts]
 | .lf l=>by cases l <;> (unfold Tm.pv uK.pv;simp[zE,dpts])
 | .op s a b=>by
  have h1:=oG a;have h2:=oG b;unfold Tm.pv Tm.rank;simp only[zE,dpts];omega
 | .ite a b c=>by
  have h1:=oG a;have h2:=oG b;have h3:=oG c;unfold Tm.pv Tm.rank;simp only[zE,dpts];omega
theorem zsm {s:Sh}(h:uZ s):zE (zZ s)<=12:=by
 obtain⟨kd,r,v,e1,hm,e2,_⟩:=h;have hv:=znh v;unfold zZ;rw[e1,e2];rcases hm with⟨_,rfl⟩ | ⟨_,n,t,rfl,_,_,hr⟩
 ·simp only[zE,dpts];omega
 ·have:=oG t
  simp only[zE,dpts];omega
def yH (x:Str×List PV):PV:= .tup (.str x.1::x.2)
inductive Rh where | pl (r:Rw) | split (n:Str) | join (n:Str)
def Rh.pv:Rh->PV | .pl r=>r.pv | .split n=> .tup [.str "split",.str n] | .join n=> .tup [.str "join",.str n]
abbrev Hd:=Str×List Rh
def uB (h:Hd):Str×List PV:=(h.1,[.tup (h.2.map Rh.pv)])
abbrev y8 (h:Hd):PV:=yH (uB h)
abbrev Sn:=Str×List PV
def yZ (sh:List Sn)(hs:List Hd):PV:= .tup [.tup (sh.map yH),.tup (hs.map y8)]
def Rh.deed:Rh->Option Dd | .pl r=>some r.2 | _=>none
def dvP:Option Dd->PV | none=> .non | some d=>d.pv
def Rh.on (S:Str)(r:Rh):Bool:=r.deed.bind Dd.nm==some S
theorem Dd.form2 (d:Dd): ∃(k:Str) (more:List PV),d.pv= .tup (.str k::more)/\(k==("when" :Str))=false/\yF (.str k) [.str "split",.str "join"]=false:=by
 have h: ∀{k:Str},(k∉(["split","join"]:List Str))->yF (.str k) [.str "split",.str "join"]=false:=λ{k} hk=>by
  have e:=oN (w:=k) (ws:= ["split","join"]);rw[am,am,ic]at e;rw[e];exact decide_eq_false hk
 cases d with
 | bag up a b=>cases up <;> exact⟨_,_,rfl,by decide+kernel,h (by decide+kernel)⟩
 | _=>exact⟨_,_,rfl,by decide+kernel,h (by decide+kernel)⟩
def zsx:zQ:=λxs st Q=> ∃r:Rh,xs= [r.pv]/\Q (dvP r.deed) st
def zs9:zQ:=λxs st Q=> ∃d:Dd,xs= [d.pv]/\Q (i8 d.nm) st
def fcN (S:Str):PV->Option PV:=λx=>match x with | .tup (.str n::r)=>if n==S then some (.tup (.str n::r))else none | _=>none
theorem znH {hs:List Hd} :(hs.map uB).map (·.1)=hs.map (·.1):=by rw[bt];rfl
def onF (S:Str):List Rh->Nat->List Nat
 | [],_=> []
 | r::rs,k=>(if r.on S then [k]else [])++onF S rs (k+1)
abbrev yL (k:Nat):PV:= .int (k:Int)
theorem qS {α:Type}{l:List α}{k:Nat}{x:α}(h:l[k]?=some x):l.take (k+1)=l.take k++ [x]:=by
 rw[xt,h];rfl
theorem znt {m:Nat}{Q:K3}{st:z7}{d:Dd}(h:Q d.pv st)(hm:st.take m=st:=by exact bz (ao _)):xE m Q d.pv st:=by
 obtain⟨k,more,e,_⟩:=d.form2;rw[e]at h⊢
 show Q _ (st.take m);rw[hm];exact h
def Rh.sp:Rh->Option Str | .split n=>some n | _=>none
def Rh.jn:Rh->Option Str | .join n=>some n | _=>none
def oJ (kind:Str):PV->Option PV:=λx=>match x with | .tup (.str k::x::_)=>if k==kind then some x else none | _=>none
theorem zcr {kind:Str}{f:Rh->Option Str}(hf:(kind= "split" /\f=Rh.sp)∨(kind= "join" /\f=Rh.jn))(r:Rh):oJ kind r.pv=(f r).map PV.str:=by
 have dd: ∀{k:Str} {more:List PV},yF (.str k) [PV.str "split",.str "join"]=false->oJ kind (.tup (.str k::more))=none:=λ{k more} hk=>by
  have e:=oN (w:=k) (ws:= ["split","join"]);rw[am,am,ic,hk]at e;have hm:k∉(["split","join"]:List Str):=of_decide_eq_false e.symm;have hne:(k==kind)=false:=by
   rcases hf with⟨rfl,_⟩ | ⟨rfl,_⟩ <;> simp at hm⊢ <;> first | exact hm.1 | exact hm.2
  cases more with
  | nil=>rfl
  | cons x m=>show(if k==kind then _ else _)=_;rw[hne];rfl
 cases r with
 | split n=>rcases hf with⟨rfl,rfl⟩ | ⟨rfl,rfl⟩ <;> rfl
 | join n=>rcases hf with⟨rfl,rfl⟩ | ⟨rfl,rfl⟩ <;> rfl
 | pl r=>
  have fn:f (.pl r)=none:=by rcases hf with⟨_,rfl⟩ | ⟨_,rfl⟩ <;> rfl
  rw[fn];obtain⟨g,d⟩:=r;cases g with
  | none=>obtain⟨k,more,e,_,h2⟩:=d.form2;show oJ kind d.pv=none;rw[e];exact dd h2
  | some x=>exact dd (by unfold yF;simp[u9];decide+kernel)
theorem zcs {kind:Str}{f:Rh->Option Str}(hf:(kind= "split" /\f=Rh.sp)∨(kind= "join" /\f=Rh.jn)): ∀rs:List Rh,(rs.map Rh.pv).filterMap (oJ kind)=(rs.filterMap f).map PV.str
 | []=>rfl
 | r::rs=>by
  rw[am,bx,bx,zcr hf r];cases f r with
  | none=>exact zcs hf rs
  | some x=>rw[sw,am];dsimp only;rw[zcs hf rs]
theorem zka (r:Rh): ∃(k:Str) (x:PV) (more:List PV),r.pv= .tup (.str k::x::more)/\yR x=true:=by
 cases r with
 | split n=>exact⟨_,_,_,rfl,by first | rfl | exact sC _⟩
 | join n=>exact⟨_,_,_,rfl,by first | rfl | exact sC _⟩
 | pl r=>
  obtain⟨g,d⟩:=r;cases g with
  | none=>
   cases d with
   | bag up a b=>cases up <;> exact⟨_,_,_,rfl,by first | rfl | exact sC _⟩
   | _=>exact⟨_,_,_,rfl,by first | rfl | exact sC _⟩
  | some x=>exact⟨_,_,_,rfl,by first | rfl | exact sC _⟩
def tF (f:Rh->Option Str)(hs:List Hd):List (z6×PV):=hs.map λh=>(.inr h.1,.lst ((h.2.filterMap f).map PV.str))
theorem mX {kvs:List (z6×PV)}{k:z6}{v:PV}(h:k∉kvs.map (·.1)):xP kvs k v=kvs++ [(k,v)]:=by
 unfold xP;rw[if_neg];intro z;obtain⟨p,hp,e⟩:=nh.mp z;exact h (bv.mpr ⟨p,hp,of_decide_eq_true e⟩)
def zs6:zQ:=λxs st Q=> ∃(sh:List Sn) (hs:List Hd) (kind:Str) (f:Rh->Option Str),xs= [yZ sh hs,.str kind]/\((kind= "split" /\f=Rh.sp)∨(kind= "join" /\f=Rh.jn))/\(hs.map (·.1)).Nodup/\hs.length<=1000/\Q (.dct (tF f hs)) st
def kids (f:Rh->Option Str)(hs:List Hd)(n:Str):List Str:=match hs.find? (λh=>h.1==n)with | some h=>h.2.filterMap f | none=> []
theorem ziV {f:Rh->Option Str}{n:Str} : ∀{hs:List Hd},n∈hs.map (·.1)->zI (tF f hs) (.inr n)=some (.lst ((kids f hs n).map PV.str))
 | [],h=>by simp at h
 | h0::hs,h=>by
  unfold tF zI kids;rw[am,ci,ci];by_cases e:h0.1=n
  ·rw[decide_eq_true (by rw[e]),show(h0.1==n)=true by rw[e];exact beq_self_eq_true _];rfl
  ·have e1:decide ((Sum.inr h0.1:z6)=Sum.inr n)=false:=decide_eq_false (λz=>e (io z))
   have e2:(h0.1==n)=false:=by simpa using e
   rw[e1,e2];rw[am,az]at h;exact ziV (h.resolve_left λz=>e z.symm)
theorem tD {f:Rh->Option Str} : ∀{hs:List Hd} {h:Hd},(hs.map (·.1)).Nodup->h∈hs->kids f hs h.1=h.2.filterMap f
 | h0::hs,h,hn,hm=>by
  rw[am,dq]at hn;unfold kids;rw[ci];by_cases e:h0.1=h.1
  ·rw[show(h0.1==h.1)=true by rw[e];exact beq_self_eq_true _]
   rcases az.mp hm with rfl | hm
   ·rfl
   ·exact absurd (bv.mpr ⟨h,hm,e.symm⟩) hn.1
  ·have e2:(h0.1==h.1)=false:=by simpa using e
   rw[e2];rcases az.mp hm with rfl | hm
   ·exact absurd rfl e
   ·exact tD hn.2 hm
def yS (g:Str->List Str):Nat->Str->List Str
 | 0,_=> []
 | d+1,n=>n::(g n).flatMap (yS g d)
structure tN (g:Str->List Str)(names:List Str)(rk:Str->Nat):Prop where
 sub: ∀n∈names,∀m∈g n,m∈names
 down: ∀n∈names,∀m∈g n,rk m < rk n
 few: ∀n∈names,(g n).length<=7
theorem p7 {α β:Type}{f g:α->List β} : ∀{l:List α},(∀x∈l,f x=g x)->l.flatMap f=l.flatMap g
 | [],_=>rfl
 | x::l,h=>by rw[da,da,h x (ar ..),p7 λy hy=>h y (bc _ hy)]
theorem zcO {g:Str->List Str}{names:List Str}{rk:Str->Nat}(R:tN g names rk): ∀{d d':Nat} {n:Str},n∈names->rk n < d->rk n < d'->yS g d n=yS g d' n
 | 0,_,n,_,h,_=>by omega
 | _+1,0,n,_,_,h=>by omega
 | d+1,d'+1,n,hn,h,h'=>by
  unfold yS;rw[p7 λm hm=>zcO R (R.sub n hn m hm) (show rk m < d by have:=R.down n hn m hm;omega) (show rk m < d' by have:=R.down n hn m hm;omega)]
theorem iA {g:Str->List Str}{names:List Str}{rk:Str->Nat}(R:tN g names rk){d:Nat}{n:Str}(hn:n∈names)(h:rk n < d):yS g d n=n::(g n).flatMap (yS g d):=by
 cases d with
 | zero=>omega
 | succ d=>
  show n::(g n).flatMap (yS g d)=_;rw[p7 λm hm=>zcO R (R.sub n hn m hm) (show rk m < d by have:=R.down n hn m hm;omega) (show rk m < d+1 by have:=R.down n hn m hm;omega)]
def bd:Nat->Nat | 0=>1 | r+1=>1+7 * bd r
theorem kW: ∀{a b:Nat},a<=b->bd a<=bd b
 | 0,0,_=>ao _
 | 0,b+1,_=>by unfold bd;omega
 | a+1,b+1,h=>by unfold bd;have:=kW (show a<=b by omega);omega
theorem zic {α β:Type}{f:α->List β}{m:Nat} : ∀{l:List α},(∀x∈l,(f x).length<=m)->(l.flatMap f).length<=l.length * m
 | [],_=>by simp
 | x::l,h=>by
  rw[da,ai,bq,Nat.succ_mul];have h1:=h x (ar ..);have h2:=zic (m:=m) λy hy=>h y (bc x hy);omega
theorem zcN {g:Str->List Str}{names:List Str}{rk:Str->Nat}(R:tN g names rk): ∀{d:Nat} {n:Str},n∈names->(yS g d n).length<=bd (rk n)
 | 0,n,_=>dg _
 | d+1,n,hn=>by
  unfold yS;rw[bq];cases hr:rk n with
  | zero=>
   have:g n= []:=by
    cases hg:g n with
    | nil=>rfl
    | cons m l=>have:=R.down n hn m (by rw[hg];exact ar ..);omega
   rw[this];exact ao _
  | succ r=>
   have h1:=zic (f:=yS g d) (m:=bd r) (l:=g n) λm hm=>bf (zcN R (R.sub n hn m hm)) (kW (by have:=R.down n hn m hm;omega));have h2:=R.few n hn;have h3:=Nat.mul_le_mul_right (bd r) h2;show _<=1+7 * bd r;omega
theorem bd7:bd 7=960800:=by decide
def nmF:PV->Option PV:=λx=>match x with | .tup (n::_)=>some n | _=>none
def zd_:zQ:=λxs st Q=> ∃(sh:List Sn) (h0:Hd) (hs:List Hd) (rk:Str->Nat),xs= [yZ sh (h0::hs)]/\((h0::hs).map (·.1)).Nodup/\hs.length<=100/\tN (kids Rh.sp (h0::hs)) ((h0::hs).map (·.1)) rk/\(∀n∈(h0::hs).map (·.1),rk n<=7)/\Q (.tup ((yS (kids Rh.sp (h0::hs)) 8 h0.1).map PV.str)) st
theorem mV {α:Type}[DecidableEq α]: ∀{l m:List α},l.Nodup->(∀x∈l,x∈m)->l.length<=m.length
 | [],m,_,_=>dg _
 | x::l,m,hn,hs=>by
  rw[dq]at hn;have hx:=hs x (ar ..);have h1:=mV (l:=l) (m:=m.erase x) hn.2 λy hy=>(vg (λ(z:y=x)=>hn.1 (z▸hy))).mpr (hs y (bc _ hy));rw[List.length_erase_of_mem hx]at h1;have:0 < m.length:=List.length_pos_of_mem hx;rw[bq];omega
def Rh.ps (k:Nat):Rh->List (Str×Nat) | .split n=> [(n,k)] | _=> []
def Rh.is (H:Str):Rh->Bool | .split n=>n==H | _=>false
def spos:List Rh->Nat->List (Str×Nat)
 | [],_=> []
 | r::rs,k=>r.ps k++spos rs (k+1)
theorem zk4: ∀{l:List Rh} {k:Nat},(spos l k).map (·.1)=l.filterMap Rh.sp
 | [],k=>rfl
 | r::l,k=>by
  unfold spos;rw[av,zk4];cases r <;> rfl
abbrev Sps:=List (Str×(Str×Nat))
def SP1 (h:Hd)(l:List Rh):Sps:=(spos l 0).map λp=>(p.1,(h.1,p.2))
def o0 (hs:List Hd):Sps:=hs.flatMap λh=>SP1 h h.2
def zdw (r:Rh):Prop:=zE r.pv<=40
abbrev Ee:=Nat×List Nat
abbrev Re:=Nat×List Rh
def wR:List Ee->Nat->Nat
 | [],_=>0
 | (x,l)::E,y=>if y=x then 1+(l.map (wR E)).sum else wR E y
def wE (E:List Ee):Nat->Nat:=wR E.reverse
theorem zef {E:List Ee}{x:Nat}{l:List Nat}{y:Nat} :wE (E++ [(x,l)]) y=if y=x then 1+(l.map (wE E)).sum else wE E y:=by
 unfold wE;rw[fo];rfl
theorem zls {E:List Ee}{y:Nat} : ∀{E1:List Ee},y∉E1.map (·.1)->wR (E1++E) y=wR E y
 | [],_=>rfl
 | (x,l)::E1,h=>by
  rw[am,az,not_or]at h;rw[gn];show(if y=x then _ else wR (E1++E) y)=_;rw[if_neg h.1];exact zls h.2
theorem zee {E:List Ee}{y:Nat}{E1:List Ee}(h:y∉E1.map (·.1)):wE (E++E1) y=wE E y:=by
 unfold wE;rw[fo];exact zls (by rw[jm,rb];exact h)
theorem ziO {α β:Type}{f g:α->β}{l:List α}(h: ∀x∈l,f x=g x):l.map f=l.map g:=jg h
def k8 (E1:List Ee):Prop:= ∀A B x l,E1=A++(x,l)::B->∀y∈l,y∈A.map (·.1)
theorem zed {E E1:List Ee}(hn:(E1.map (·.1)).Nodup)(hv:k8 E1){x:Nat}{l:List Nat}(hm:(x,l)∈E1):wE (E++E1) x=1+(l.map (wE (E++E1))).sum:=by
 obtain⟨A,B,rfl⟩:=gk hm;rw[av,am]at hn;have h1:=ba.mp hn;have h2:=dq.mp h1.2.1;have e:E++(A++(x,l)::B)=(E++A++ [(x,l)])++B:=by simp
 rw[e,zee h2.1,zef,if_pos rfl]
 congr 2
 refine ziO λy hy=> ?_;have hyA:=hv A B x l rfl y hy;have hyB:y∉B.map (·.1):=λz=>h1.2.2 y hyA y (bc _ z) rfl;have hyx:y≠x:=h1.2.2 y hyA x (ar ..);rw[zee hyB,zef,if_neg hyx]
def tg (rs:List Rh):List Str:=rs.filterMap Rh.sp
def tgs (X:List Re):List Str:=X.flatMap λp=>tg p.2
theorem zdO {X Y:List Re} :tgs (X++Y)=tgs X++tgs Y:=by unfold tgs;simp
theorem zdN {X Y:List Rh} :tg (X++Y)=tg X++tg Y:=by unfold tg;simp
def qB (sh:List Sh):Rh->Prop | .pl r=>qC sh r | _=>True
def zl0 (nm:Nat->Str)(X:List Re):Prop:= ∀A k r B,X=A++(k,r)::B->∀m∈tg r,∃j∈A.map (·.1),m=nm j
structure LI (shl:List Sh)(nm:Nat->Str)(sp:List Nat)(E:List Ee)(sp' ks:List Nat)(X:List Re)(E1:List Ee)(rs:List Rh)(hd:List Nat):Prop where
 xk:X.map (·.1)=ks
 ek:E1.map (·.1)=ks
 nd:(ks++sp').Nodup
 sub: ∀x∈ks++sp',x∈sp
 hk: ∀x∈hd,x∈ks
 ev:k8 E1
 wt:(hd.map (wE (E++E1))).sum<=ks.length
 tn:(tgs X++tg rs).Nodup
 ti: ∀m∈tgs X++tg rs,∃j∈ks,m=nm j
 er:zl0 nm X
 jn: ∀r∈rs,∀m,r.jn=some m->∃j∈ks,m=nm j
 jx: ∀p∈X,∀r∈p.2,∀m,r.jn=some m->∃j∈ks,m=nm j
 ro: ∀r∈rs,qB shl r
 rx: ∀p∈X,(∀r∈p.2,qB shl r)/\p.2.length<=30
section
variable {shl:List Sh} {nm:Nat->Str} {sp:List Nat} {E:List Ee} {sp' ks:List Nat} {X:List Re} {E1:List Ee} {rs:List Rh} {hd:List Nat}
theorem LI.start (hs:sp.Nodup):LI shl nm sp E sp [] [] [] [] []:=
 ⟨rfl,rfl,by simpa using hs,by simp,by simp,(λA B x l h=>by cases A <;> cases h),by simp,by simp[tgs,tg],by simp[tgs,tg],(λA k r B h=>by cases A <;> cases h),by simp,by simp,by simp,by simp⟩
theorem LI.plain (I:LI shl nm sp E sp' ks X E1 rs hd){r:Rw}(hr:qC shl r):LI shl nm sp E sp' ks X E1 (rs++ [.pl r]) hd:=by
 have e:tg (rs++ [.pl r])=tg rs:=by rw[zdN];simp[tg,Rh.sp]
 refine{I with tn:=by rw[e];exact I.tn,ti:=by rw[e];exact I.ti,jn:=λr' h m hm=> ?_,ro:=λr' h=> ?_}
 ·rcases au.mp h with h | h
  ·exact I.jn r' h m hm
  ·rw[aj.mp h]at hm;cases hm
 ·rcases au.mp h with h | h
  ·exact I.ro r' h
  ·rw[aj.mp h];exact hr
theorem zk_ {f:Nat->Nat} : ∀{l:List Nat} {k x:Nat},l[k]?=some x->(l.map f).sum=f x+((l.eraseIdx k).map f).sum
 | [],k,x,h=>by simp at h
 | y::l,0,x,h=>by simp at h;subst h;simp
 | y::l,k+1,x,h=>by
  have:=zk_ (f:=f) (l:=l) (k:=k) (x:=x) (by simpa using h);simp[this];omega
theorem LI.join (I:LI shl nm sp E sp' ks X E1 rs hd){k x:Nat}{l:List Nat}(hx:hd[k]?=some x)(hl:(x,l)∈E1):LI shl nm sp E sp' ks X E1 (rs++ [.join (nm x)]) (hd.eraseIdx k++l)/\((hd.eraseIdx k++l).map (wE (E++E1))).sum+1=(hd.map (wE (E++E1))).sum:=by
 have e:tg (rs++ [.join (nm x)])=tg rs:=by rw[zdN];simp[tg,Rh.sp]
 have hxk:=I.hk x (bi.mpr ⟨k,hx⟩);have hn:(E1.map (·.1)).Nodup:=by rw[I.ek];exact(ba.mp I.nd).1
 have hs:((hd.eraseIdx k++l).map (wE (E++E1))).sum+1=(hd.map (wE (E++E1))).sum:=by
  rw[zk_ (f:=wE (E++E1)) hx,zed hn I.ev hl,av,xn];omega
 refine⟨{I with tn:=by rw[e];exact I.tn,ti:=by rw[e];exact I.ti,hk:=λy hy=> ?_,wt:=by have:=I.wt;omega,jn:=λr' h m hm=> ?_,ro:=λr' h=> ?_},hs⟩
 ·rcases au.mp hy with hy | hy
  ·exact I.hk y (mi hy)
  ·obtain⟨A,B,eA⟩:=gk hl
   have:=I.ev A B x l eA y hy;rw[<- I.ek,eA,av];exact ax _ this
 ·rcases au.mp h with h | h
  ·exact I.jn r' h m hm
  ·rw[aj.mp h]at hm;cases hm;exact⟨x,hxk,rfl⟩
 ·rcases au.mp h with h | h
  ·exact I.ro r' h
  ·rw[aj.mp h];exact trivial
theorem sX {α:Type}{X Y A B:List α}{p:α}(h:X++Y=A++p::B):(∃B',X=A++p::B'/\B=B'++Y)∨∃A',A=X++A'/\Y=A'++p::B:=by
 rcases List.append_eq_append_iff.mp h with⟨a,h1,h2⟩ | ⟨c,h1,h2⟩
 ·exact .inr ⟨a,h1,h2⟩
 ·cases c with
  | nil=>simp at h1 h2;exact .inr ⟨[],by simp[h1],by simp[<- h2]⟩
  | cons q c=>rw[gn]at h2;cases h2;exact .inl ⟨c,h1,rfl⟩
theorem LI.split (inj: ∀a∈sp,∀b∈sp,nm a=nm b->a=b)(I:LI shl nm sp E sp' ks X E1 rs hd){i j:Nat}(hj:sp'[i]?=some j){spc ksc:List Nat}{Xc:List Re}{E1c:List Ee}{rsc:List Rh}{hdc:List Nat}
  (C:LI shl nm (sp'.eraseIdx i) (E++E1) spc ksc Xc E1c rsc hdc) (hlen:rsc.length<=30):
  LI shl nm sp E spc (ks++(ksc++ [j])) (X++(Xc++ [(j,rsc)])) (E1++(E1c++ [(j,hdc)])) (rs++ [.split (nm j)]) (hd++ [j]):=by
 have hjs:j∈sp':=bi.mpr ⟨i,hj⟩;have nd':=ba.mp I.nd;have hsub: ∀x∈ksc++spc,x∈sp'/\x≠j:=λx hx=>by
  have h1:=C.sub x hx;refine⟨mi h1,λz=> ?_⟩;subst z;obtain⟨q,hq⟩:=bi.mp h1;have hn:=nd'.2.1;rw[uc]at hq;have hi:=(ad.mp hj).1
  split at hq
  ·have:=(du (ad.mp hq).1 hn).mp (hq.trans hj.symm);omega
  ·have:=(du (ad.mp hq).1 hn).mp (hq.trans hj.symm);omega
 have cnd:=ba.mp C.nd;have hjk:j∉ks:=λz=>nd'.2.2 j z j hjs rfl;have hck: ∀x∈ksc,x∉ks:=λx hx z=>nd'.2.2 x z x (hsub x (ax _ hx)).1 rfl;have eT:tg (rs++ [.split (nm j)])=tg rs++ [nm j]:=by rw[zdN];simp[tg,Rh.sp]
 have eX:tgs (X++(Xc++ [(j,rsc)]))=tgs X++(tgs Xc++tg rsc):=by rw[zdO,zdO];simp[tgs]
 have insp: ∀x∈ks++(ksc++ [j]),x∈sp:=λx hx=>by
  rcases au.mp hx with hx | hx
  ·exact I.sub x (ax _ hx)
  ·rcases au.mp hx with hx | hx
   ·exact I.sub x (af _ (hsub x (ax _ hx)).1)
   ·rw[aj.mp hx];exact I.sub j (af _ hjs)
 have keys:(E1++(E1c++ [(j,hdc)])).map (·.1)=ks++(ksc++ [j]):=by rw[av,av,I.ek,C.ek];rfl
 have hndk:(ks++(ksc++ [j])).Nodup:=by
  refine ba.mpr ⟨nd'.1,ba.mpr ⟨cnd.1,by simp,λa ha b hb=> ?_⟩,λa ha b hb=> ?_⟩
  ·rw[aj.mp hb];exact(hsub a (ax _ ha)).2
  ·rcases au.mp hb with hb | hb
   ·exact λz=>hck b hb (z▸ha)
   ·rw[aj.mp hb];exact λz=>hjk (z▸ha)
 have tiC: ∀m∈tgs Xc++tg rsc,∃q∈ksc,m=nm q:=C.ti;refine⟨by rw[av,av,I.xk,C.xk];rfl,keys,?_,?_,?_,?_,?_,?_,?_,?_,?_,?_,?_,?_⟩
 ·refine ba.mpr ⟨hndk,cnd.2.1,λa ha b hb=> ?_⟩
  have hb':=hsub b (af _ hb);rcases au.mp ha with ha | ha
  ·exact λz=>nd'.2.2 a ha b hb'.1 z
  ·rcases au.mp ha with ha | ha
   ·exact cnd.2.2 a ha b hb
   ·rw[aj.mp ha];exact λz=>hb'.2 z.symm
 ·intro x hx
  rcases au.mp hx with hx | hx
  ·exact insp x hx
  ·exact I.sub x (af _ (hsub x (af _ hx)).1)
 ·intro x hx
  rcases au.mp hx with hx | hx
  ·exact ax _ (I.hk x hx)
  ·exact af _ (af _ hx)
 ·intro A B x l e y hy
  rcases sX e with⟨B',h1,_⟩ | ⟨A',rfl,h2⟩
  ·exact I.ev A B' x l h1 y hy
  ·rw[av]
   refine af _ ?_;rcases sX h2 with⟨B',h3,_⟩ | ⟨A'',rfl,h4⟩
   ·exact C.ev A' B' x l h3 y hy
   ·cases A'' with
    | nil=>cases h4;rw[cn,C.ek];exact C.hk y hy
    | cons q A''=>cases A'' <;> cases h4
 ·have hw: ∀y∈hd,wE (E++(E1++(E1c++ [(j,hdc)]))) y=wE (E++E1) y:=λy hy=>by
   rw[<- bh];refine zee ?_;rw[av,C.ek];intro z;rcases au.mp z with z | z
   ·exact hck y z (I.hk y hy)
   ·have z':y=j:=by simpa using z
    exact hjk (z'▸I.hk y hy)
  have hwj:wE (E++(E1++(E1c++ [(j,hdc)]))) j=1+(hdc.map (wE (E++E1++E1c))).sum:=by
   rw[<- bh,<- bh,zef,if_pos rfl]
  rw[av,xn,ziO hw,am,ic,hwj];have h1:=I.wt;have h2:=C.wt;simp only[ai,bw,pr,List.sum_nil];omega
 ·rw[eX,eT]
  have hp:(tgs X++(tgs Xc++tg rsc)++(tg rs++ [nm j])).Perm ((tgs X++tg rs)++((tgs Xc++tg rsc)++ [nm j])):=by
   generalize tgs Xc++tg rsc=Y;rw[bh (tgs X) Y,bh (tgs X) (tg rs)];refine fv _ ?_;rw[<- bh,<- bh (tg rs)];exact fh _ fc
  refine hp.nodup_iff.mpr (ba.mpr ⟨I.tn,ba.mpr ⟨C.tn,by simp,λa ha b hb z=> ?_⟩,λa ha b hb z=> ?_⟩)
  ·rw[aj.mp hb]at z
   obtain⟨q,hq,e⟩:=tiC a ha;have hq':=hsub q (ax _ hq);exact hq'.2 (inj q (I.sub q (af _ hq'.1)) j (I.sub j (af _ hjs)) (by rw[<- e,z]))
  ·obtain⟨p,hp,e⟩:=I.ti a ha
   rcases au.mp hb with hb | hb
   ·obtain⟨q,hq,e'⟩:=tiC b hb
    have hq':=hsub q (ax _ hq);have:=inj p (I.sub p (ax _ hp)) q (I.sub q (af _ hq'.1)) (by rw[<- e,<- e',z]);exact hck q hq (this▸hp)
   ·rw[aj.mp hb]at z
    have:=inj p (I.sub p (ax _ hp)) j (I.sub j (af _ hjs)) (by rw[<- e,z]);exact hjk (this▸hp)
 ·rw[eX,eT]
  intro m hm;have h1: ∀m∈tgs X++tg rs,∃q∈ks++(ksc++ [j]),m=nm q:=λm hm=>let⟨q,hq,e⟩:=I.ti m hm;⟨q,ax _ hq,e⟩;have h2: ∀m∈tgs Xc++tg rsc,∃q∈ks++(ksc++ [j]),m=nm q:=λm hm=>let⟨q,hq,e⟩:=tiC m hm;⟨q,af _ (ax _ hq),e⟩;rcases au.mp hm with hm | hm
  ·rcases au.mp hm with hm | hm
   ·exact h1 m (ax _ hm)
   ·exact h2 m hm
  ·rcases au.mp hm with hm | hm
   ·exact h1 m (af _ hm)
   ·exact⟨j,by simp,aj.mp hm⟩
 ·intro A k r B e m hm
  rcases sX e with⟨B',h1,_⟩ | ⟨A',rfl,h2⟩
  ·exact I.er A k r B' h1 m hm
  ·rw[av]
   rcases sX h2 with⟨B',h3,_⟩ | ⟨A'',rfl,h4⟩
   ·obtain⟨q,hq,e'⟩:=C.er A' k r B' h3 m hm;exact⟨q,af _ hq,e'⟩
   ·cases A'' with
    | nil=>cases h4;rw[cn,C.xk];obtain⟨q,hq,e'⟩:=tiC m (af _ hm);exact⟨q,af _ hq,e'⟩
    | cons q A''=>cases A'' <;> cases h4
 ·intro r hr m hm
  rcases au.mp hr with hr | hr
  ·obtain⟨q,hq,e⟩:=I.jn r hr m hm;exact⟨q,ax _ hq,e⟩
  ·rw[aj.mp hr]at hm;cases hm
 ·intro p hp r hr m hm
  rcases au.mp hp with hp | hp
  ·obtain⟨q,hq,e⟩:=I.jx p hp r hr m hm;exact⟨q,ax _ hq,e⟩
  ·rcases au.mp hp with hp | hp
   ·obtain⟨q,hq,e⟩:=C.jx p hp r hr m hm;exact⟨q,af _ (ax _ hq),e⟩
   ·rw[aj.mp hp]at hr
    obtain⟨q,hq,e⟩:=C.jn r hr m hm;exact⟨q,af _ (ax _ hq),e⟩
 ·intro r hr
  rcases au.mp hr with hr | hr
  ·exact I.ro r hr
  ·rw[aj.mp hr];exact trivial
 ·intro p hp
  rcases au.mp hp with hp | hp
  ·exact I.rx p hp
  ·rcases au.mp hp with hp | hp
   ·exact C.rx p hp
   ·rw[aj.mp hp];exact⟨C.ro,hlen⟩
end
def sg (n:Nat):Str:=⟨#[97+n]⟩
def zf6 (n:Nat):List Str:= [sg n,sg n++sg (n+1),sg (n+1),sg (n+1)++sg (n+2),sg (n+2),sg n++sg (n+2),sg n++sg (n+1)++sg (n+2),sg (n+2)++sg (n+1)]
theorem znm: ∀n < 24,(zf6 n).Nodup:=by decide+kernel
theorem zmW: ∀n:Nat,n < 24->Txt.slice (Txt.slice "abcdefghijklmnopqrstuvwxyz" (some (n:Int)) none) none (some 3)=⟨#[97+n,97+(n+1),97+(n+2)]⟩:=by decide+kernel
def zsB:zQ:=λxs st Q=> ∃(i:Nat) (a b:Int),xs= [.obj i]/\st[i]?=some (zC a b)/\y7 a b/\∀(us ns ts:List Str) a b,us.length=6->us.Nodup->ns.length=8->ns.Nodup->ts≠ []->ts.length<=40->ts.Nodup->y7 a b->Q (.tup [.lst (us.map PV.str),.lst (ns.map PV.str),.lst (ts.map PV.str)]) (st.set i (zC a b))
def wL (E:List Ee):List (z6×PV):=E.map λp=>(.inl (p.1:Int),.lst (p.2.map yL))
structure L4 (S:Int->Int->List PV->List PV->z7)(i p r h e:Nat)(kv:List (z6×PV))(E:List Ee):Prop where
 gi: ∀{a b w d},(S a b w d)[i]?=some (zC a b)
 si: ∀{a b w d a' b'},(S a b w d).set i (zC a' b')=S a' b' w d
 gr: ∀{a b w d},(S a b w d)[r]?=some (.lst w)
 sr: ∀{a b w d w'},(S a b w d).set r (.lst w')=S a b w' d
 gh: ∀{a b w d},(S a b w d)[h]?=some (.lst d)
 sh: ∀{a b w d d'},(S a b w d).set h (.lst d')=S a b w d'
 gp: ∀{a b w d},(S a b w d)[p]?=some (.rcd kv)
 ge: ∀{a b w d},(S a b w d)[e]?=some (.dct (wL E))
theorem L4.len {S:Int->Int->List PV->List PV->z7}{i p r h e:Nat}{kv:List (z6×PV)}{E:List Ee}(L:L4 S i p r h e kv E){a b a' b':Int}{w w' d d':List PV} :(S a b w d).length=(S a' b' w' d').length:=by
 have h1:=congrArg List.length (L.si (a:=a) (b:=b) (w:=w) (d:=d) (a':=a') (b':=b'));have h2:=congrArg List.length (L.sr (a:=a') (b:=b') (w:=w) (d:=d) (w':=w'));have h3:=congrArg List.length (L.sh (a:=a') (b:=b') (w:=w') (d:=d) (d':=d'));rw[dw]at h1 h2 h3;omega
theorem dO {α β:Type}{f:α->β} : ∀{l:List α} {k:Nat},(l.map f).eraseIdx k=(l.eraseIdx k).map f
 | [],_=>rfl
 | x::l,0=>rfl
 | x::l,k+1=>by rw[am,jc,jc,am,dO]
def zdA:zQ:=λxs st Q=> ∃(S:Int->Int->List PV->List PV->z7) (i p r h e:Nat) (kv:List (z6×PV)) (names:List Str) (E:List Ee) (a b:Int) (w0:List PV) (hd:List Nat),xs= [.obj i,.obj p,.obj r,.obj h]/\st=S a b w0 (hd.map yL)/\L4 S i p r h e kv E/\y7 a b/\hd≠ []/\hd.length<=1000/\w0.length<=1000/\
 (zI kv (.inr "names")=some (.lst (names.map PV.str))/\zI kv (.inr "ends")=some (.obj e)/\∀x∈hd,x < names.length/\∃l:List Nat,l.length<=1000/\zI (wL E) (.inl (x:Int))=some (.lst (l.map yL)))/\
 ∀(k x:Nat) (l:List Nat) (nm:Str) a b,hd[k]?=some x->names[x]?=some nm->zI (wL E) (.inl (x:Int))=some (.lst (l.map yL))->y7 a b->Q .non (S a b (w0++ [.tup [.str "join",.str nm]]) ((hd.eraseIdx k++l).map yL))
def tR:List Ee->Nat->List Nat
 | [],_=> []
 | (x,l)::E,y=>if y=x then y::l.flatMap (tR E)else tR E y
def tE (E:List Ee):Nat->List Nat:=tR E.reverse
theorem zdK {E:List Ee}{x:Nat}{l:List Nat}{y:Nat} :tE (E++ [(x,l)]) y=if y=x then y::l.flatMap (tE E)else tE E y:=by
 unfold tE;rw[fo];rfl
theorem zkF {E:List Ee}{y:Nat} : ∀{E1:List Ee},y∉E1.map (·.1)->tR (E1++E) y=tR E y
 | [],_=>rfl
 | (x,l)::E1,h=>by
  rw[am,az,not_or]at h;rw[gn];show(if y=x then _ else tR (E1++E) y)=_;rw[if_neg h.1];exact zkF h.2
theorem zdJ {E:List Ee}{y:Nat}{E1:List Ee}(h:y∉E1.map (·.1)):tE (E++E1) y=tE E y:=by
 unfold tE;rw[fo];exact zkF (by rw[jm,rb];exact h)
theorem zkC {E E1:List Ee}(hn:(E1.map (·.1)).Nodup)(hv:k8 E1){x:Nat}{l:List Nat}(hm:(x,l)∈E1):tE (E++E1) x=x::l.flatMap (tE (E++E1)):=by
 obtain⟨A,B,rfl⟩:=gk hm;rw[av,am]at hn;have h1:=ba.mp hn;have h2:=dq.mp h1.2.1;have e:E++(A++(x,l)::B)=(E++A++ [(x,l)])++B:=by simp
 rw[e,zdJ h2.1,zdK,if_pos rfl]
 congr 1
 refine p7 λy hy=> ?_;have hyA:=hv A B x l rfl y hy;have hyB:y∉B.map (·.1):=λz=>h1.2.2 y hyA y (bc _ z) rfl;have hyx:y≠x:=h1.2.2 y hyA x (ar ..);rw[zdJ hyB,zdK,if_neg hyx]
def hbS (en:Str->List Str)(hd:List Str):Rh->List Str
 | .split x=>hd++ [x]
 | .join x=>hd.filter (λy=>decide (y≠x))++en x
 | .pl _=>hd
def xG (en:Str->List Str)(rs:List Rh):List Str:=rs.foldl (hbS en) []
theorem oM {en:Str->List Str}{rs:List Rh}{r:Rh} :xG en (rs++ [r])=hbS en (xG en rs) r:=by unfold xG;rw[List.foldl_append];rfl
def HV (en:Str->List Str)(rs:List Rh):Prop:= ∀A x B,rs=A++ .join x::B->x∈xG en A
theorem fU {en:Str->List Str}{rs:List Rh}{r:Rh}(h:HV en rs)(hr: ∀x,r= .join x->x∈xG en rs):HV en (rs++ [r]):=λA x B e=>by
 rcases sX e with⟨B',h1,_⟩ | ⟨A',rfl,h2⟩
 ·exact h A x B' h1
 ·cases A' with
  | nil=>cases h2;rw[cn];exact hr x rfl
  | cons q A'=>cases A' <;> cases h2
def pS (nm:Nat->Str)(E1:List Ee)(en:Str->List Str):Prop:= ∀p∈E1,en (nm p.1)=p.2.map nm
def uC (rs:List Rh):List Str:=rs.filterMap Rh.jn
def rM (X:List Re):List Str:=X.flatMap λp=>uC p.2
theorem zc7 {X Y:List Rh} :uC (X++Y)=uC X++uC Y:=by unfold uC;simp
theorem zi6 {X Y:List Re} :rM (X++Y)=rM X++rM Y:=by unfold rM;simp
def zlQ (nm:Nat->Str)(X:List Re):Prop:= ∀A k r B,X=A++(k,r)::B->∀m∈uC r,∃j∈A.map (·.1),m=nm j
structure LK (shl:List Sh)(nm:Nat->Str)(sp:List Nat)(E:List Ee)(sp' ks:List Nat)(X:List Re)(E1:List Ee)(rs:List Rh)(hd:List Nat):Prop extends LI shl nm sp E sp' ks X E1 rs hd where
 pj: ∃js:List Nat,((hd.flatMap (tE (E++E1)))++js).Perm ks/\(rM X++uC rs).Perm (js.map nm)
 hb: ∀en,pS nm E1 en->hd.map nm=xG en rs/\HV en rs
 hx: ∀en,pS nm E1 en->∀p∈X,xG en p.2=en (nm p.1)/\HV en p.2
 je:zlQ nm X
section
variable {shl:List Sh} {nm:Nat->Str} {sp:List Nat} {E:List Ee} {sp' ks:List Nat} {X:List Re} {E1:List Ee} {rs:List Rh} {hd:List Nat}
theorem LK.start (hs:sp.Nodup):LK shl nm sp E sp [] [] [] [] []:=
 {LI.start hs with pj:=⟨[],by simp,by simp[rM,uC]⟩,hb:=λen _=>⟨rfl,λA x B e=>by cases A <;> cases e⟩,hx:=λen _ p hp=>by simp at hp,je:=λA k r B h=>by cases A <;> cases h}
theorem LK.plain (I:LK shl nm sp E sp' ks X E1 rs hd){r:Rw}(hr:qC shl r):LK shl nm sp E sp' ks X E1 (rs++ [.pl r]) hd:=
 by
 refine{I.toLI.plain hr with pj:= ?_,hb:=λen ha=> ?_,hx:=I.hx,je:=I.je}
 ·obtain⟨js,h1,h2⟩:=I.pj
  refine⟨js,h1,?_⟩;rw[zc7,show uC [Rh.pl r]= []from rfl,cn];exact h2
 ·obtain⟨h1,h2⟩:=I.hb en ha
  exact⟨by rw[oM];exact h1,fU h2 λx e=>by cases e⟩
theorem zib {f:Nat->List Nat} : ∀{l:List Nat} {k x:Nat},l[k]?=some x->(l.flatMap f).Perm (f x++(l.eraseIdx k).flatMap f)
 | [],k,x,h=>by simp at h
 | y::l,0,x,h=>by simp at h;subst h;simp
 | y::l,k+1,x,h=>by
  have:=zib (f:=f) (l:=l) (k:=k) (x:=x) (by simpa using h);rw[da,jc,da];refine(fv _ this).trans ?_;rw[<- bh,<- bh];exact fh _ fc
theorem znr {l:List Nat}(hn:l.Nodup){k x:Nat}(hx:l[k]?=some x):l.eraseIdx k=l.filter λy=>decide (y≠x):=by
 induction l generalizing k with
 | nil=>simp at hx
 | cons y l ih=>
  rw[dq]at hn;cases k with
  | zero=>
   simp at hx;subst hx;rw[List.eraseIdx_cons_zero,jj,if_neg (by simp)];symm;rw[List.filter_eq_self];intro a ha;exact decide_eq_true λz=>hn.1 (z▸ha)
  | succ k=>
   have hx':l[k]?=some x:=by simpa using hx
   have hne:y≠x:=λz=>hn.1 (z▸bi.mpr ⟨k,hx'⟩);rw[jc,jj,if_pos (by simpa using hne),ih hn.2 hx']
theorem LK.tin (I:LK shl nm sp E sp' ks X E1 rs hd){x:Nat}(hx:x∈ks):x∈tE (E++E1) x:=by
 have hn:(E1.map (·.1)).Nodup:=by rw[I.ek];exact(ba.mp I.nd).1
 obtain⟨⟨y,l⟩,hm,e⟩:=bv.mp (I.ek▸hx);have e':y=x:=e;subst e';rw[zkC hn I.ev hm];exact ar ..
theorem zk8 {f:Nat->List Nat} : ∀{l:List Nat},(∀x∈l,x∈f x)->l.Sublist (l.flatMap f)
 | [],_=>List.Sublist.refl _
 | x::l,h=>by
  rw[da];exact(List.singleton_sublist.mpr (h x (ar ..))).append (zk8 λy hy=>h y (bc _ hy))
theorem LK.hnd (I:LK shl nm sp E sp' ks X E1 rs hd):hd.Nodup:=by
 obtain⟨js,h1,_⟩:=I.pj;have h2:=h1.nodup_iff.mpr (ba.mp I.nd).1;exact(ba.mp h2).1.sublist (zk8 λx hx=>I.tin (I.hk x hx))
theorem LK.join (inj: ∀a∈sp,∀b∈sp,nm a=nm b->a=b)(I:LK shl nm sp E sp' ks X E1 rs hd){k x:Nat}{l:List Nat}(hx:hd[k]?=some x)(hl:(x,l)∈E1):LK shl nm sp E sp' ks X E1 (rs++ [.join (nm x)]) (hd.eraseIdx k++l)/\((hd.eraseIdx k++l).map (wE (E++E1))).sum+1=(hd.map (wE (E++E1))).sum:=by
 have hn:(E1.map (·.1)).Nodup:=by rw[I.ek];exact(ba.mp I.nd).1
 have J:=I.toLI.join hx hl;refine⟨{J.1 with pj:= ?_,hb:=λen ha=> ?_,hx:=I.hx,je:=I.je},J.2⟩
 ·obtain⟨js,h1,h2⟩:=I.pj
  refine⟨js++ [x],?_,?_⟩
  ·refine List.Perm.trans ?_ h1
   have hp:=zib (f:=tE (E++E1)) hx;rw[zkC hn I.ev hl]at hp;rw[jh];generalize (hd.eraseIdx k).flatMap (tE (E++E1))=a at hp⊢
   generalize l.flatMap (tE (E++E1))=b at hp⊢
   refine List.Perm.trans ?_ (fh js hp.symm);rw[gn,gn];refine List.Perm.trans ?_ (List.perm_middle (a:=x) (l₁:= [])).symm;rw[iy,<- bh];refine(jy x _).trans (List.Perm.cons _ (fh _ fc))
  ·rw[zc7,av,<- bh]
   refine(fh _ h2).trans (ol ?_);simp[uC,Rh.jn]
 ·obtain⟨h1,h2⟩:=I.hb en ha
  have hxm:x∈hd:=bi.mpr ⟨k,hx⟩;refine⟨?_,fU h2 λy e=>by cases e;rw[<- h1];exact cf hxm⟩;rw[oM];show _=(xG en rs).filter _++en (nm x);rw[<- h1,av,ha _ hl,znr I.hnd hx,xo]
  congr 2
  refine wv λy hy=> ?_;have hys:=I.sub y (ax _ (I.hk y hy));have hxs:=I.sub x (ax _ (I.hk x hxm));show decide (y≠x)=decide (nm y≠nm x);by_cases e:y=x
  ·rw[e];simp
  ·rw[decide_eq_true (show y≠x from e),decide_eq_true (show nm y≠nm x from λz=>e (inj y hys x hxs z))]
theorem LK.split (inj: ∀a∈sp,∀b∈sp,nm a=nm b->a=b)(I:LK shl nm sp E sp' ks X E1 rs hd){i j:Nat}(hj:sp'[i]?=some j){spc ksc:List Nat}{Xc:List Re}{E1c:List Ee}{rsc:List Rh}{hdc:List Nat}
  (C:LK shl nm (sp'.eraseIdx i) (E++E1) spc ksc Xc E1c rsc hdc) (hlen:rsc.length<=30):
  LK shl nm sp E spc (ks++(ksc++ [j])) (X++(Xc++ [(j,rsc)])) (E1++(E1c++ [(j,hdc)])) (rs++ [.split (nm j)]) (hd++ [j]):=by
 have S:=LI.split inj I.toLI hj C.toLI hlen;have ag: ∀{en},pS nm (E1++(E1c++ [(j,hdc)])) en->pS nm E1 en/\pS nm E1c en/\en (nm j)=hdc.map nm:=λ{en} h=>⟨λp hp=>h p (ax _ hp),λp hp=>h p (af _ (ax _ hp)),h (j,hdc) (by simp)⟩;have ndk:=(ba.mp S.nd).1;have keys:(E1++(E1c++ [(j,hdc)])).map (·.1)=ks++(ksc++ [j]):=S.ek;refine{S with pj:= ?_,hb:=λen ha=> ?_,hx:=λen ha p hp=> ?_,je:= ?_}
 ·obtain⟨js,h1,h2⟩:=I.pj
  obtain⟨jsc,c1,c2⟩:=C.pj;refine⟨js++jsc,?_,?_⟩
  ·have hw:hd.flatMap (tE (E++(E1++(E1c++ [(j,hdc)]))))=hd.flatMap (tE (E++E1)):=p7 λy hy=>by
    rw[<- bh];refine zdJ ?_;rw[av,C.ek];intro z;exact(ba.mp ndk).2.2 y (I.hk y hy) y z rfl
   have hwj:tE (E++(E1++(E1c++ [(j,hdc)]))) j=j::hdc.flatMap (tE (E++E1++E1c)):=by
    rw[<- bh,<- bh,zdK,if_pos rfl]
   rw[jh,hw,da,xj,cn,hwj];generalize hd.flatMap (tE (E++E1))=a at h1⊢
   generalize hdc.flatMap (tE (E++E1++E1c))=b at c1⊢
   refine List.Perm.trans ?_ (h1.append (c1.append_right [j]));have p1:(a++j::b++(js++jsc)).Perm (a++(js++(j::b++jsc))):=by
    rw[bh];refine fv _ ?_;rw[<- bh,<- bh];exact fh _ fc
   refine p1.trans ?_;rw[bh];refine fv _ (fv _ ?_);rw[gn];exact(jy j _).symm
  ·rw[zi6,zi6,zc7,av]
   have e1:uC [Rh.split (nm j)]= []:=rfl;have e2:rM [(j,rsc)]=uC rsc:=by simp[rM]
   rw[e1,e2,cn];refine List.Perm.trans ?_ (h2.append c2);generalize rM Xc++uC rsc=y;rw[bh,bh];exact fv _ fc
 ·obtain⟨a1,a2,a3⟩:=ag ha
  obtain⟨h1,h2⟩:=I.hb en a1;refine⟨?_,fU h2 λx e=>by cases e⟩;rw[oM,av,h1];rfl
 ·obtain⟨a1,a2,a3⟩:=ag ha
  rcases au.mp hp with hp | hp
  ·exact I.hx en a1 p hp
  ·rcases au.mp hp with hp | hp
   ·exact C.hx en a2 p hp
   ·rw[aj.mp hp]
    obtain⟨c1,c2⟩:=C.hb en a2;exact⟨by rw[a3];exact c1.symm,c2⟩
 ·intro A k r B e m hm
  rcases sX e with⟨B',h1,_⟩ | ⟨A',rfl,h2⟩
  ·exact I.je A k r B' h1 m hm
  ·rw[av]
   rcases sX h2 with⟨B',h3,_⟩ | ⟨A'',rfl,h4⟩
   ·obtain⟨q,hq,e'⟩:=C.je A' k r B' h3 m hm;exact⟨q,af _ hq,e'⟩
   ·cases A'' with
    | nil=>
     cases h4;obtain⟨r',hr',e'⟩:=db.mp hm;obtain⟨q,hq,e2⟩:=C.jn r' hr' m e';exact⟨q,af _ (by rw[cn,C.xk];exact hq),e2⟩
    | cons q A''=>cases A'' <;> cases h4
end
def zD (names:List Str)(i:Nat):Str:=names.getD i Str.empty
def vB (nm:Nat->Str)(R:List Re):List (z6×PV):=R.map λp=>(.inl (p.1:Int),y8 (nm p.1,p.2))
def G (a0:PO)(kv:List (z6×PV))(nm:Nat->Str)(sp:List Nat)(E:List Ee)(R:List Re)(m:z7):z7:=a0:: .lst (sp.map yL):: .dct (wL E):: .dct (vB nm R):: .rcd kv::m
structure zeA (kv:List (z6×PV))(names things:List Str)(shl:List Sh)(many:Nat):Prop where
 nms:zI kv (.inr "names")=some (.lst (names.map PV.str))
 tgs:zI kv (.inr "things")=some (.lst (things.map PV.str))
 uses:zI kv (.inr "uses")=some (.lst (List.replicate many (.tup [.lst (shl.map zZ),.lst (shl.map zZ)])))
 spare:zI kv (.inr "spare")=some (.obj 1)
 ends:zI kv (.inr "ends")=some (.obj 2)
 rows:zI kv (.inr "rows")=some (.obj 3)
section
variable {a0:PO} {kv:List (z6×PV)} {nm:Nat->Str} {sp:List Nat} {E:List Ee} {R:List Re} {m0 m:z7} {x y z u:PO}
theorem ze5:(G a0 kv nm sp E R m).length=m.length+5:=rfl
theorem ze4:G a0 kv nm sp E R m++m0=G a0 kv nm sp E R (m++m0):=rfl
theorem wZ:(G a0 kv nm sp E R m)[1]?=some (.lst (sp.map yL)):=rfl
theorem v0:(G a0 kv nm sp E R m)[2]?=some (.dct (wL E)):=rfl
theorem wK:(G a0 kv nm sp E R m)[3]?=some (.dct (vB nm R)):=rfl
theorem wD:(G a0 kv nm sp E R m)[4]?=some (.rcd kv):=rfl
theorem zmk:(m0++ [x,y,z])[m0.length]?=some x:=by rw[aq (ao _),fq];rfl
theorem zml:(m0++ [x,y,z])[m0.length+1]?=some y:=by rw[aq (by omega),show m0.length+1 - m0.length=1 by omega];rfl
theorem zmm:(m0++ [x,y,z])[m0.length+2]?=some z:=by rw[aq (by omega),show m0.length+2 - m0.length=2 by omega];rfl
theorem zsF:(m0++ [x,y,z]).set m0.length u=m0++ [u,y,z]:=by rw[fw _ _ (ao _),fq];rfl
theorem zsG:(m0++ [x,y,z]).set (m0.length+1) u=m0++ [x,u,z]:=by rw[fw _ _ (by omega),show m0.length+1 - m0.length=1 by omega];rfl
theorem zsH:(m0++ [x,y,z]).set (m0.length+2) u=m0++ [x,y,u]:=by rw[fw _ _ (by omega),show m0.length+2 - m0.length=2 by omega];rfl
theorem xU:(G a0 kv nm sp E R (m0++ [x,y,z]))[m0.length+5]?=some x:=zmk
theorem v6:(G a0 kv nm sp E R (m0++ [x,y,z]))[m0.length+6]?=some y:=zml
theorem wU:(G a0 kv nm sp E R (m0++ [x,y,z]))[m0.length+7]?=some z:=zmm
theorem xY:(G a0 kv nm sp E R (m0++ [x,y,z])).set (m0.length+5) u=G a0 kv nm sp E R (m0++ [u,y,z]):=congrArg (G a0 kv nm sp E R) zsF
theorem v7:(G a0 kv nm sp E R (m0++ [x,y,z])).set (m0.length+6) u=G a0 kv nm sp E R (m0++ [x,u,z]):=congrArg (G a0 kv nm sp E R) zsG
theorem vA:(G a0 kv nm sp E R (m0++ [x,y,z])).set (m0.length+7) u=G a0 kv nm sp E R (m0++ [x,y,u]):=congrArg (G a0 kv nm sp E R) zsH
theorem zl_ {l:List Nat} :(G a0 kv nm sp E R m).set 1 (.lst (l.map yL))=G a0 kv nm l E R m:=rfl
theorem zlA {E':List Ee} :(G a0 kv nm sp E R m).set 2 (.dct (wL E'))=G a0 kv nm sp E' R m:=rfl
theorem zlB {R':List Re} :(G a0 kv nm sp E R m).set 3 (.dct (vB nm R'))=G a0 kv nm sp E R' m:=rfl
end
structure HP (ns:List Int)(at':Int)(n:Nat)(kv:List (z6×PV))(names things:List Str)(shl:List Sh)(many:Nat)(sp:List Nat)(E:List Ee)(R:List Re):Prop where
 nl:ns.length<=63
 a0:0<=at'
 s7:sp.length<=7
 K:zeA kv names things shl many
 nn:names.Nodup
 nml:many<=names.length
 n8:names.length=8
 nlt:n < many
 sh: ∀s∈shl,uZ s
 se:shl≠ []
 sl:shl.length<=63
 te:things≠ []
 tl:things.length<=1000
 sn:sp.Nodup
 sm: ∀x∈sp,x < many
 ns':n∉sp
 nr:n∉R.map (·.1)
 dr: ∀x∈sp,x∉R.map (·.1)
 de: ∀x∈sp,x∉E.map (·.1)
 el:E.length+sp.length<=100
 rl:R.length+sp.length<=100
def gQ (d:Nat):zQ:=λxs st Q=> ∃(ns:List Int) (at':Int) (n:Nat) (a0:PO) (kv:List (z6×PV)) (names things:List Str) (shl:List Sh) (many:Nat) (sp:List Nat) (E:List Ee) (R:List Re) (m0:z7),
 xs= [.lst (ns.map PV.int),.int at',.obj 4,.int (n:Int)]/\st=G a0 kv (zD names) sp E R m0/\HP ns at' n kv names things shl many sp E R/\sp.length < d/\
 ∀sp' ks X E1 rs hd,LK shl (zD names) sp E sp' ks X E1 rs hd->(n=0->hd= [])->rs.length<=30->Q (.lst (hd.map yL)) (G a0 kv (zD names) sp' (E++E1) (R++X++ [(n,rs)]) m0)
theorem zkv {K:Frag}{vs:List V}{H:Hp}{Q:VK}{E:XK}(h:y2 K (gQ 0) vs H Q E):False:=by
 obtain⟨_,_,_,_,_,_,⟨_,_,_,_,_,_,_,_,_,_,_,_,_,_,_,_,h1,_⟩,_⟩:=h;omega
theorem znn {E E1:List Ee}{x:Nat}{l:List Nat}(he:x∉E.map (·.1))(hn:(E1.map (·.1)).Nodup)(hm:(x,l)∈E1):zI (wL (E++E1)) (.inl (x:Int))=some (.lst (l.map yL)):=by
 have go: ∀{L:List Ee},(L.map (·.1)).Nodup->(x,l)∈L->zI (wL L) (.inl (x:Int))=some (.lst (l.map yL)):=by
  intro L
  induction L with
  | nil=>intro _ h;simp at h
  | cons p L ih=>
   intro hn hm;rw[am,dq]at hn;unfold wL zI;rw[am,ci];rcases az.mp hm with rfl | hm
   ·rw[decide_eq_true rfl];rfl
   ·have:((p.1:Int))≠(x:Int):=λz=>hn.1 (bv.mpr ⟨_,hm,(my z).symm⟩)
    rw[decide_eq_false (λz=>this (mr z))];exact ih hn.2 hm
 have go2: ∀{L:List Ee},x∉L.map (·.1)->zI (wL (L++E1)) (.inl (x:Int))=zI (wL E1) (.inl (x:Int)):=by
  intro L
  induction L with
  | nil=>intro _;rfl
  | cons p L ih=>
   intro h;rw[am,az,not_or]at h;unfold wL zI;rw[gn,am,ci];have:decide ((Sum.inl (p.1:Int):z6)=Sum.inl (x:Int))=false:=decide_eq_false (λz=>h.1 (my (mr z)).symm);show Option.map _ (match decide ((Sum.inl (p.1:Int):z6)=Sum.inl (x:Int))with | true=>_ | false=>_)=_;rw[this];exact ih h.2
 rw[go2 he,go hn hm]
theorem ztJ {E E1:List Ee}(hn:(E1.map (·.1)).Nodup)(hv:k8 E1){x:Nat}(hx:x∈E1.map (·.1)):1<=wE (E++E1) x:=by
 obtain⟨⟨y,l⟩,hm,rfl⟩:=bv.mp hx;rw[zed hn hv hm];omega
theorem zdF {f:Nat->Nat} : ∀{l:List Nat},(∀x∈l,1<=f x)->l.length<=(l.map f).sum
 | [],_=>ao _
 | x::l,h=>by
  have h1:=h x (ar ..);have h2:=zdF (l:=l) λy hy=>h y (bc _ hy);rw[am,pr,bq];omega
theorem zkA {f:Nat->Nat}{x:Nat} : ∀{l:List Nat},x∈l->f x<=(l.map f).sum
 | y::l,h=>by
  rw[am,pr];rcases az.mp h with rfl | h
  ·omega
  ·have:=zkA (f:=f) h;omega
section
variable {shl:List Sh} {nm:Nat->Str} {sp:List Nat} {E:List Ee} {sp' ks:List Nat} {X:List Re} {E1:List Ee} {rs:List Rh} {hd:List Nat}
theorem LI.len (I:LI shl nm sp E sp' ks X E1 rs hd):ks.length+sp'.length<=sp.length:=by
 have:=mV I.nd I.sub
 rwa [ai]at this
theorem LI.pos (I:LI shl nm sp E sp' ks X E1 rs hd){x:Nat}(hx:x∈ks):1<=wE (E++E1) x:=ztJ (by rw[I.ek];exact(ba.mp I.nd).1) I.ev (by rw[I.ek];exact hx)
theorem LI.hl (I:LI shl nm sp E sp' ks X E1 rs hd):hd.length<=ks.length:=bf (zdF λx hx=>I.pos (I.hk x hx)) I.wt
theorem LI.val (I:LI shl nm sp E sp' ks X E1 rs hd)(de: ∀x∈sp,x∉E.map (·.1)){x:Nat}(hx:x∈hd): ∃l:List Nat,l.length<=ks.length/\(x,l)∈E1/\zI (wL (E++E1)) (.inl (x:Int))=some (.lst (l.map yL)):=by
 have hk:=I.hk x hx;have hn:(E1.map (·.1)).Nodup:=by rw[I.ek];exact(ba.mp I.nd).1
 obtain⟨⟨y,l⟩,hm,e⟩:=bv.mp (I.ek▸hk);have e':y=x:=e;subst e';refine⟨l,?_,hm,znn (de y (I.sub y (ax _ hk))) hn hm⟩;have h1:=zed (E:=E) hn I.ev hm;have h2:=zkA (f:=wE (E++E1)) hx;have h3:=I.wt;obtain⟨A,B,eA⟩:=gk hm;have h4:l.length<=(l.map (wE (E++E1))).sum:=zdF λz hz=>I.pos (by
  have:=I.ev A B y l eA z hz;rw[<- I.ek,eA,av];exact ax _ this)
 omega
end
theorem zno {E:List Ee}{x:Nat}{l:List Nat}(h:x∉E.map (·.1)):xP (wL E) (.inl (x:Int)) (.lst (l.map yL))=wL (E++ [(x,l)]):=by
 rw[mX]
 ·unfold wL;rw[av];rfl
 ·unfold wL;rw[bt];intro z
  obtain⟨p,hp,e⟩:=bv.mp z;exact h (bv.mpr ⟨p,hp,my (mr e)⟩)
theorem zrS {nm:Nat->Str}{R:List Re}{x:Nat}{rs:List Rh}(h:x∉R.map (·.1)):xP (vB nm R) (.inl (x:Int)) (y8 (nm x,rs))=vB nm (R++ [(x,rs)]):=by
 rw[mX]
 ·unfold vB;rw[av];rfl
 ·unfold vB;rw[bt];intro z
  obtain⟨p,hp,e⟩:=bv.mp z;exact h (bv.mpr ⟨p,hp,my (mr e)⟩)
theorem jV {names:List Str}{x:Nat}(h:x < names.length):names[x]?=some (zD names x):=by
 unfold zD;rw[List.getD_eq_getElem?_getD,bu h];rfl
theorem mU {names:List Str}(hn:names.Nodup){a b:Nat}(ha:a < names.length)(hb:b < names.length)(e:zD names a=zD names b):a=b:=
 (du ha hn).mp (by rw[jV ha,jV hb,e])
theorem zf9 {l:List Nat}(hn:l.Nodup){i j:Nat}(hj:l[i]?=some j){x:Nat}(h1:x∈l.eraseIdx i):x∈l/\x≠j:=by
 refine⟨mi h1,λz=> ?_⟩;subst z;obtain⟨q,hq⟩:=bi.mp h1;rw[uc]at hq
 split at hq
 ·have:=(du (ad.mp hq).1 hn).mp (hq.trans hj.symm);omega
 ·have:=(du (ad.mp hq).1 hn).mp (hq.trans hj.symm);omega
theorem HP.kid {ns:List Int}{at':Int}{n:Nat}{kv:List (z6×PV)}{names things:List Str}{shl:List Sh}{many:Nat}{sp sp' ks:List Nat}{E E1:List Ee}{R X:List Re}{rs:List Rh}{hd:List Nat}(H:HP ns at' n kv names things shl many sp E R)(I:LI shl (zD names) sp E sp' ks X E1 rs hd){i j:Nat}(hj:sp'[i]?=some j):
  HP ns at' j kv names things shl many (sp'.eraseIdx i) (E++E1) (R++X):=by
 have hjs:j∈sp':=bi.mpr ⟨i,hj⟩;have hl:=I.len;have nd:=ba.mp I.nd;have er: ∀x∈sp'.eraseIdx i,x∈sp'/\x≠j:=λx hx=>zf9 nd.2.1 hj hx;have hel:=kg sp' i;have h7:=H.s7;have ex:X.length=ks.length:=by rw[<- I.xk,ac]
 have ee:E1.length=ks.length:=by rw[<- I.ek,ac]
 have hr:=H.rl;have he:=H.el;have fresh: ∀x∈sp',x∉(R++X).map (·.1)/\x∉(E++E1).map (·.1):=λx hx=>by
  have hxs:=I.sub x (af _ hx);have hxk:x∉ks:=λz=>nd.2.2 x z x hx rfl;rw[av,av,I.xk,I.ek,au,au,not_or,not_or];exact⟨⟨H.dr x hxs,hxk⟩,H.de x hxs,hxk⟩
 exact{nl:=H.nl,a0:=H.a0,s7:=by omega,K:=H.K,nn:=H.nn,nml:=H.nml,n8:=H.n8,nlt:=H.sm j (I.sub j (af _ hjs)),sh:=H.sh,se:=H.se,sl:=H.sl,te:=H.te,tl:=H.tl,sn:=nd.2.1.sublist (List.eraseIdx_sublist ..),sm:=λx hx=>H.sm x (I.sub x (af _ (er x hx).1)),ns':=λz=>(er j z).2 rfl,nr:=(fresh j hjs).1,dr:=λx hx=>(fresh x (er x hx).1).1,de:=λx hx=>(fresh x (er x hx).1).2,el:=by rw[ai];omega,rl:=by rw[ai];omega}
theorem znA {a0:PO}{kv:List (z6×PV)}{nm:Nat->Str}{sp:List Nat}{E:List Ee}{R:List Re}{m0:z7} :L4 (λa b w d=>G a0 kv nm sp E R (m0++ [zC a b,.lst w,.lst d])) (m0.length+5) 4 (m0.length+6) (m0.length+7) 2 kv E:=⟨xU,xY,v6,v7,wU,vA,wD,v0⟩
theorem zi7 {ns:List Int}{at':Int}{n:Nat}{a0:PO}{kv:List (z6×PV)}{names things:List Str}{shl:List Sh}{many:Nat}{sp sp' ks:List Nat}{E E1:List Ee}{R X:List Re}{rs:List Rh}{hd:List Nat}{m0:z7}{a b:Int}{Q:K3}(H:HP ns at' n kv names things shl many sp E R)(I:LI shl (zD names) sp E sp' ks X E1 rs hd)(hr:rs.length<=1000)(hb:y7 a b)(hne:hd≠ [])
  (q: ∀(k x:Nat) (l:List Nat) a b,hd[k]?=some x->(x,l)∈E1->y7 a b->Q .non (G a0 kv (zD names) sp' (E++E1) (R++X) (m0++ [zC a b,.lst ((rs++ [Rh.join (zD names x)]).map Rh.pv),.lst ((hd.eraseIdx k++l).map yL)]))):
  zdA [.obj (m0.length+5),.obj 4,.obj (m0.length+6),.obj (m0.length+7)] (G a0 kv (zD names) sp' (E++E1) (R++X) (m0++ [zC a b,.lst (rs.map Rh.pv),.lst (hd.map yL)])) Q:=by
 have h7:=H.s7;have hl:=I.len;have hhl:=I.hl;refine⟨λa b w d=>G a0 kv (zD names) sp' (E++E1) (R++X) (m0++ [zC a b,.lst w,.lst d]),_,4,_,_,2,kv,names,E++E1,a,b,rs.map Rh.pv,hd,rfl,rfl,znA,hb,hne,by omega,by rw[ac];omega,⟨H.K.nms,H.K.ends,λx hx=>⟨bj (H.sm x (I.sub x (ax _ (I.hk x hx)))) H.nml,?_⟩⟩,λk x l nm a b hk hn hv hb=> ?_⟩
 ·obtain⟨l,h1,_,h3⟩:=I.val H.de hx
  exact⟨l,by omega,h3⟩
 ·have hx:=bi.mpr ⟨k,hk⟩
  obtain⟨l',h1,h2,h3⟩:=I.val H.de hx;rw[hv]at h3;have el:l=l':=by
   have:l.map yL=l'.map yL:=PV.lst.inj (ce h3);have inj: ∀{u v:List Nat},u.map yL=v.map yL->u=v:=λ{u v} h=>by
    have:=congrArg (List.map λx:PV=>match x with | .int i=>i.toNat | _=>0) h;simpa [bt,Function.comp_def]using this
   exact inj this
  subst el;rw[jV (bj (H.sm x (I.sub x (ax _ (I.hk x hx)))) H.nml)]at hn;cases hn;have:=q k x l a b hk h2 hb;rw[av]at this;exact this
theorem iU (r:Rw):yR r.pv=true:=by
 obtain⟨g,d⟩:=r;cases g with
 | none=>exact dI d
 | some x=>rfl
theorem zdv {ns:List Int}{at':Int}{n:Nat}{a0:PO}{kv:List (z6×PV)}{names things:List Str}{shl:List Sh}{many:Nat}{sp sp':List Nat}{E E1:List Ee}{R X:List Re}{w d:PO}{m0:z7}{a b:Int}{Q:K3}(H:HP ns at' n kv names things shl many sp E R)(hb:y7 a b)
  (q: ∀(r:Rw) a b,qC shl r->y7 a b->Q r.pv (G a0 kv (zD names) sp' E1 X (m0++ [zC a b,w,d]))):
  gU [.obj (m0.length+5),.tup [.lst (shl.map zZ),.lst (shl.map zZ)],.lst (things.map PV.str)] (G a0 kv (zD names) sp' E1 X (m0++ [zC a b,w,d])) Q:=
 ⟨_,shl,things,a,b,rfl,xU,hb,H.sh,H.se,H.sl,H.te,H.tl,λr a b hr hb=>by rw[xY];exact q r a b hr hb⟩
structure kO (sh:List Sn)(hs:List Hd):Prop where
 shn:(sh.map (·.1)).Nodup
 shl:sh.length<=100
 sd: ∀s∈sh,zE (yH s)<=12
 s2: ∀s∈sh,∃m b,s.2= [m,b]
 hn:(hs.map (·.1)).Nodup
 hl:hs.length<=8
 rl: ∀h∈hs,h.2.length<=30
 rk: ∃rk:Str->Nat,tN (kids Rh.sp hs) (hs.map (·.1)) rk/\∀n∈hs.map (·.1),rk n<=7
 jn: ∀n∈hs.map (·.1),∀m∈kids Rh.jn hs n,m∈hs.map (·.1)
 sn:((o0 hs).map (·.1)).Nodup
 sl:(o0 hs).length<=1000
 rd: ∀h∈hs,∀r∈h.2,zdw r
theorem tQ: ∀t:Tm Lf,zE (t.pv Lf.pv)<=t.rank+1
 | .num k=>by unfold Tm.pv;simp[zE,dpts]
 | .lf l=>by cases l <;> (unfold Tm.pv Lf.pv;simp[zE,dpts])
 | .op s a b=>by
  have h1:=tQ a;have h2:=tQ b;unfold Tm.pv Tm.rank;simp only[zE,dpts];omega
 | .ite a b c=>by
  have h1:=tQ a;have h2:=tQ b;have h3:=tQ c;unfold Tm.pv Tm.rank;simp only[zE,dpts];omega
theorem zng {d:Dd}(h: ∀x,d.tm=some x->x.rank < 7):zE d.pv<=9:=by
 cases d with
 | bag up a b=>cases up <;> (unfold Dd.pv;simp[zE,dpts])
 | tell x=>have h1:zE (x5 x)<=x.rank+1:=tQ x;have h2:=h x rfl;unfold Dd.pv;simp only[zE,dpts];omega
 | set a x=>have h1:zE (x5 x)<=x.rank+1:=tQ x;have h2:=h x rfl;unfold Dd.pv;simp only[zE,dpts];omega
 | more a x=>have h1:zE (x5 x)<=x.rank+1:=tQ x;have h2:=h x rfl;unfold Dd.pv;simp only[zE,dpts];omega
 | lay a x b=>have h1:zE (x5 x)<=x.rank+1:=tQ x;have h2:=h x rfl;unfold Dd.pv;simp only[zE,dpts];omega
 | drop a x=>have h1:zE (x5 x)<=x.rank+1:=tQ x;have h2:=h x rfl;unfold Dd.pv;simp only[zE,dpts];omega
theorem zrT {shl:List Sh}{r:Rh}(h:qB shl r):zdw r:=by
 unfold zdw;cases r with
 | split n=>unfold Rh.pv;simp[zE,dpts]
 | join n=>unfold Rh.pv;simp[zE,dpts]
 | pl r=>
  obtain⟨g,d⟩:=r;have hd:=zng (d:=d) λx hx=>(h.2.1 x hx).2;cases g with
  | none=>show zE d.pv<=40;omega
  | some x=>
   have h1:zE (x5 x)<=x.rank+1:=tQ x;have h2:=(h.1 x rfl).2;show zE (.tup [.str "when",x5 x,d.pv])<=40;simp only[zE,dpts];omega
def sZ (nm:Nat->Str)(p:Re):Hd:=(nm p.1,p.2)
theorem zit {l A B:List Str}{x:Str}(e:l=A++B)(h:x∈A):l.idxOf x < A.length:=by
 rw[e,qe,if_pos h];exact lj h
theorem zqG {shl:List Sh}{names:List Str}{sp ks sp':List Nat}{X:List Re}{E1:List Ee}{rs:List Rh}{hd:List Nat}{sh:List Sn}{hs:List Hd}(hnn:names.Nodup)(hsp: ∀x∈sp,x < names.length/\x≠0)(h8:0 < names.length)(h7:sp.length<=7)(I:LI shl (zD names) sp [] sp' ks X E1 rs hd)(hrl:rs.length<=30)
  (shn:(sh.map (·.1)).Nodup) (shl':sh.length<=100) (sd: ∀s∈sh,zE (yH s)<=12) (s2: ∀s∈sh,∃m b,s.2= [m,b]) (hp:hs.Perm ((X++ [(0,rs)]).map (sZ (zD names)))):kO sh hs:=by
 have hkl:=I.len;have hks: ∀x∈ks,x∈sp:=λx hx=>I.sub x (ax _ hx);have hin: ∀x∈ks++ [0],x < names.length:=λx hx=>by
  rcases au.mp hx with hx | hx
  ·exact(hsp x (hks x hx)).1
  ·rw[aj.mp hx];exact h8
 have hids:(X++ [((0:Nat),rs)]).map (·.1)=ks++ [0]:=by rw[av,I.xk];rfl
 have hnd:(ks++ [0]).Nodup:=ba.mpr ⟨(ba.mp I.nd).1,by simp,λa ha b hb=>by rw[aj.mp hb];exact(hsp a (hks a ha)).2⟩;have hnm:((X++ [((0:Nat),rs)]).map (sZ (zD names))).map (·.1)=(ks++ [0]).map (zD names):=by rw[<- hids,bt,bt];rfl
 have hndn:((ks++ [0]).map (zD names)).Nodup:=by
  refine dj.mpr λi j hi hj hij e=> ?_;rw[jo,jo]at e;rw[ac]at hi hj;have:=mU hnn (hin _ (iq hi)) (hin _ (iq hj)) e;exact dj.mp hnd i j hi hj hij this
 have hn:(hs.map (·.1)).Nodup:=by
  have:=hp.map (·.1);rw[hnm]at this;exact this.nodup_iff.mpr hndn
 have hmem: ∀x,x∈hs.map (·.1)↔x∈(ks++ [0]).map (zD names):=λx=>by
  have:=hp.map (·.1);rw[hnm]at this;exact this.mem_iff
 have hof: ∀h∈hs,∃p∈X++ [((0:Nat),rs)],h=sZ (zD names) p:=λh hh=>by
  obtain⟨p,hp',e⟩:=bv.mp (hp.mem_iff.mp hh);exact⟨p,hp',e.symm⟩
 have hall: ∀p∈X++ [((0:Nat),rs)],(∀r∈p.2,qB shl r)/\p.2.length<=30/\(∀m∈tg p.2,∃j∈ks,m=zD names j)/\(∀r∈p.2,∀m,r.jn=some m->∃j∈ks,m=zD names j)/\(tg p.2).Nodup:=λp hp=>by
  rcases au.mp hp with hp | hp
  ·refine⟨(I.rx p hp).1,(I.rx p hp).2,λm hm=>I.ti m (ax _ (gq.mpr ⟨p,hp,hm⟩)),I.jx p hp,?_⟩
   have h1:=(ba.mp I.tn).1;obtain⟨A,B,e⟩:=gk hp;rw[e,zdO]at h1;have h2:=(ba.mp h1).2.1;unfold tgs at h2;rw[da]at h2;exact(ba.mp h2).1
  ·rw[aj.mp hp]
   exact⟨I.ro,hrl,λm hm=>I.ti m (af _ hm),I.jn,(ba.mp I.tn).2.1⟩
 have hks7:(ks.map (zD names)).length<=7:=by rw[ac];omega
 have sub1: ∀{m:Str},(∃j∈ks,m=zD names j)->m∈hs.map (·.1):=λ{m} ⟨j,hj,e⟩=>(hmem m).mpr (by rw[e];exact cf (ax _ hj));have hSP:(o0 hs).map (·.1)=hs.flatMap λh=>tg h.2:=by
  unfold o0;rw[List.map_flatMap];refine p7 λh _=> ?_;unfold SP1 tg;rw[bt,<- zk4 (k:=0)];rfl
 have hTP:(hs.flatMap λh=>tg h.2).Perm (tgs X++tg rs):=by
  have h1:=hp.flatMap_right (λh:Hd=>tg h.2);refine h1.trans (ol ?_);rw[av,jh,ni];unfold tgs sZ;simp
 have hsn:((o0 hs).map (·.1)).Nodup:=by rw[hSP];exact hTP.nodup_iff.mpr I.tn
 refine⟨shn,shl',sd,s2,hn,?_,λh hh=> ?_,⟨λn=>((ks++ [0]).map (zD names)).idxOf n,⟨λn hn' m hm=> ?_,λn hn' m hm=> ?_,λn hn'=> ?_⟩,λn hn'=> ?_⟩,λn hn' m hm=> ?_,hsn,?_,λh hh r hr=> ?_⟩
 ·rw[hp.length_eq,ac,ai,bw]
  have:X.length=ks.length:=by rw[<- I.xk,ac]
  omega
 ·obtain⟨p,hp',rfl⟩:=hof h hh;exact(hall p hp').2.1
 ·obtain⟨h,hh,rfl⟩:=bv.mp hn'
  rw[tD hn hh]at hm;obtain⟨p,hp',rfl⟩:=hof h hh;exact sub1 ((hall p hp').2.2.1 m hm)
 ·obtain⟨h,hh,rfl⟩:=bv.mp hn'
  rw[tD hn hh]at hm;obtain⟨p,hp',rfl⟩:=hof h hh;obtain⟨k,r⟩:=p;show((ks++ [0]).map (zD names)).idxOf m < ((ks++ [0]).map (zD names)).idxOf (zD names k);obtain⟨A,B,e⟩:=gk hp';have eids:ks++ [0]=A.map (·.1)++k::B.map (·.1):=by rw[<- hids,e,av];rfl
  have hmA:m∈(A.map (·.1)).map (zD names):=by
   rcases sX e with⟨B',h1,_⟩ | ⟨A',rfl,h2⟩
   ·obtain⟨j,hj,e'⟩:=I.er A k r B' h1 m hm
    rw[e'];exact cf hj
   ·cases A' with
    | nil=>
     cases h2;obtain⟨j,hj,e'⟩:=(hall _ hp').2.2.1 m hm;rw[e',cn,I.xk];exact cf hj
    | cons q A'=>cases A' <;> cases h2
  have h1:=zit (l:=(ks++ [0]).map (zD names)) (A:=(A.map (·.1)).map (zD names)) (B:=(k::B.map (·.1)).map (zD names)) (by rw[eids,av]) hmA;have h2:((A.map (·.1)).map (zD names)).length<=((ks++ [0]).map (zD names)).idxOf (zD names k):=by
   rw[eids,av]at hndn⊢
   rw[qe,if_neg (λz=>(ba.mp hndn).2.2 _ z _ (by rw[am];exact ar ..) rfl)];omega
  omega
 ·obtain⟨h,hh,rfl⟩:=bv.mp hn'
  rw[tD hn hh];obtain⟨p,hp',rfl⟩:=hof h hh;have h1:=hall p hp';have:=mV (l:=tg p.2) (m:=ks.map (zD names)) h1.2.2.2.2 λm hm=>let⟨j,hj,e⟩:=h1.2.2.1 m hm;by rw[e];exact cf hj
  exact bf this hks7
 ·have:=lj ((hmem n).mp hn')
  rw[ac,ai,bw]at this;show((ks++ [0]).map (zD names)).idxOf n<=7;omega
 ·obtain⟨h,hh,rfl⟩:=bv.mp hn'
  rw[tD hn hh]at hm;obtain⟨p,hp',rfl⟩:=hof h hh;obtain⟨r,hr,e⟩:=db.mp hm;exact sub1 ((hall p hp').2.2.2.1 r hr m e)
 ·have h1:(o0 hs).length=(tgs X++tg rs).length:=by rw[<- ac (f:=(·.1)),hSP,hTP.length_eq]
  have h2:=mV (l:=tgs X++tg rs) (m:=ks.map (zD names)) I.tn λm hm=>let⟨j,hj,e⟩:=I.ti m hm;by rw[e];exact cf hj
  omega
 ·obtain⟨p,hp',rfl⟩:=hof h hh
  exact zrT ((hall p hp').1 r hr)
def lZ (en:Str->List Str)(x:Str)(r:Rh):Prop:=r= .split x∨∃y,r= .join y/\x∈en y
theorem znG {en:Str->List Str}{hd:List Str}{x:Str}{r:Rh} :x∈hbS en hd r↔(x∈hd/\r≠ .join x)∨lZ en x r:=by
 unfold lZ;cases r with
 | split y=>
  show x∈hd++ [y]↔_;rw[au,aj];constructor
  ·rintro(h | rfl)
   ·exact .inl ⟨h,λz=>by cases z⟩
   ·exact .inr (.inl rfl)
  ·rintro(h | h | ⟨_,h,_⟩)
   ·exact .inl h.1
   ·cases h;exact .inr rfl
   ·cases h
 | join y=>
  show x∈hd.filter _++en y↔_;rw[au,kj];constructor
  ·rintro(h | h)
   ·exact .inl ⟨h.1,λz=>by cases z;simp at h⟩
   ·exact .inr (.inr ⟨y,rfl,h⟩)
  ·rintro(h | h | ⟨_,h,h'⟩)
   ·exact .inl ⟨h.1,by simpa using λz:x=y=>h.2 (by rw[z])⟩
   ·cases h
   ·cases h;exact .inr h'
 | pl r=>
  show x∈hd↔_;constructor
  ·exact λh=> .inl ⟨h,λz=>by cases z⟩
  ·rintro(h | h | ⟨_,h,_⟩)
   ·exact h.1
   ·cases h
   ·cases h
theorem zin {en:Str->List Str}{x:Str} : ∀(rs:List Rh) (acc:List Str),x∈rs.foldl (hbS en) acc↔(x∈acc/\Rh.join x∉rs)∨∃A r B,rs=A++r::B/\lZ en x r/\Rh.join x∉B
 | [],acc=>by
  constructor
  ·exact λh=> .inl ⟨h,by simp⟩
  ·rintro(h | ⟨A,r,B,h,_⟩)
   ·exact h.1
   ·cases A <;> cases h
 | r::rs,acc=>by
  rw[gb,zin rs,znG];constructor
  ·rintro(⟨h | h,h2⟩ | ⟨A,r',B,rfl,h⟩)
   ·refine .inl ⟨h.1,λz=> ?_⟩
    rcases az.mp z with z | z
    ·exact h.2 z.symm
    ·exact h2 z
   ·exact .inr ⟨[],r,rs,rfl,h,h2⟩
   ·exact .inr ⟨r::A,r',B,rfl,h⟩
  ·rintro(⟨h,h2⟩ | ⟨A,r',B,h,h2⟩)
   ·rw[az,not_or]at h2
    exact .inl ⟨.inl ⟨h,λz=>h2.1 z.symm⟩,h2.2⟩
   ·cases A with
    | nil=>cases h;exact .inl ⟨.inr h2.1,h2.2⟩
    | cons q A=>cases h;exact .inr ⟨A,r',B,rfl,h2⟩
def Ent (en:Str->List Str)(x:Str)(rs:List Rh)(i:Nat):Prop:= ∃r,rs[i]?=some r/\lZ en x r
theorem zim {en:Str->List Str}{x:Str}{rs:List Rh}{n:Nat} :x∈xG en (rs.take n)↔∃i:Nat,i < n/\Ent en x rs i/\∀j:Nat,i < j->j < n->rs[j]?≠some (.join x):=by
 unfold xG;rw[zin];constructor
 ·rintro(h | ⟨A,r,B,h,h2,h3⟩)
  ·exact absurd h.1 (by simp)
  ·have e: ∀k:Nat,(rs.take n)[k]?=(A++r::B)[k]?:=λk=>by rw[h]
   have eA:=e A.length;rw[aq (ao _),fq,jd,pf]at eA
   split at eA
   ·next hA=>
    refine⟨A.length,hA,⟨r,eA,h2⟩,λj h4 h5 z=>h3 ?_⟩;have ej:=e j;rw[pf,if_pos h5,z,aq (by omega)]at ej;obtain⟨q,hq⟩: ∃q,j - A.length=q+1:=⟨j - A.length - 1,by omega⟩;rw[hq,kh]at ej;exact bi.mpr ⟨q,ej.symm⟩
   ·cases eA
 ·rintro⟨i,hi,⟨r,h1,h2⟩,h3⟩
  right
  have hl:i < rs.length:=(ad.mp h1).1;have hl2:i < (rs.take n).length:=by rw[cj];omega
  refine⟨(rs.take n).take i,r,(rs.take n).drop (i+1),?_,h2,λz=> ?_⟩
  ·have:(rs.take n)[i]=r:=by rw[List.getElem_take];exact(ad.mp h1).2
   rw[<- this,fi,dy]
  ·obtain⟨q,hq⟩:=bi.mp z
   rw[List.getElem?_drop,pf]at hq
   split at hq
   ·next hk=>exact h3 _ (by omega) hk hq
   ·cases hq
structure xV (hs:List Hd)(en:Str->List Str)(rk:Str->Nat):Prop where
 hb: ∀h∈hs,xG en h.2=en h.1/\HV en h.2
 root: ∀h t,hs=h::t->en h.1= []
 jn:(hs.flatMap λh=>h.2.filterMap Rh.jn).Nodup
 je: ∀y,y∈hs.flatMap (λh=>h.2.filterMap Rh.jn)↔y∈hs.tail.map (·.1)
 jr: ∀h∈hs,∀y,Rh.join y∈h.2->rk y < rk h.1
 r7: ∀h∈hs,rk h.1<=7
 sn:(hs.flatMap λh=>h.2.filterMap Rh.sp).Nodup
 st: ∀y,y∈hs.flatMap (λh=>h.2.filterMap Rh.sp)->y∈hs.tail.map (·.1)
section
variable {hs:List Hd} {en:Str->List Str} {rk:Str->Nat}
theorem xV.split (G:xV hs en rk){x:Str} : ∀(m:Nat) (h:Hd),rk h.1<=m->h∈hs->∀n,x∈xG en (h.2.take n)->∃k∈hs,∃i:Nat,k.2[i]?=some (Rh.split x):=by
 intro m
 induction m with
 | zero | succ m ih=>
  intro h hr hh n hx;obtain⟨i,_,⟨r,h1,h2⟩,_⟩:=zim.mp hx;rcases h2 with rfl | ⟨y,rfl,h2⟩
  ·exact⟨h,hh,i,h1⟩
  ·have hm:=bi.mpr ⟨i,h1⟩
   have hl:=G.jr h hh y hm;have hy:=(G.je y).mp (gq.mpr ⟨h,hh,db.mpr ⟨_,hm,rfl⟩⟩);obtain⟨k,hk,rfl⟩:=bv.mp hy;have hk':=lq hk
   first
    | (exfalso;omega)
    | (refine ih k (by omega) hk' k.2.length ?_
       rw[ig,(G.hb k hk').1];exact h2)
theorem xV.tail (G:xV hs en rk){x:Str}{h:Hd}(hh:h∈hs){n:Nat}(hx:x∈xG en (h.2.take n)):x∈hs.tail.map (·.1):=by
 obtain⟨k,hk,i,e⟩:=G.split _ h (ao _) hh n hx;exact G.st x (gq.mpr ⟨k,hk,db.mpr ⟨_,bi.mpr ⟨i,e⟩,rfl⟩⟩)
theorem xV.joined (G:xV hs en rk){x:Str}(hx:x∈hs.tail.map (·.1)): ∃k∈hs,∃i:Nat,k.2[i]?=some (Rh.join x):=by
 obtain⟨k,hk,h⟩:=gq.mp ((G.je x).mpr hx);obtain⟨r,hr,e⟩:=db.mp h;have:r= .join x:=by cases r <;> cases e;rfl
 subst this;exact⟨k,hk,bi.mp hr⟩
theorem xV.isplit (G:xV hs en rk){x:Str}(hx:x∈hs.tail.map (·.1)): ∃k∈hs,∃i:Nat,k.2[i]?=some (Rh.split x):=by
 obtain⟨k,hk,i,e⟩:=G.joined hx;obtain⟨hi,e'⟩:=ad.mp e;have:k.2=k.2.take i++ .join x::k.2.drop (i+1):=by rw[<- e',fi,dy]
 exact G.split _ k (ao _) hk i ((G.hb k hk).2 _ _ _ this)
end
def mN (nm:Nat->Str)(E1:List Ee)(s:Str):List Str:=((E1.find? λp=>nm p.1==s).map λp=>p.2.map nm).getD []
theorem zol {α:Type}{l:List (Nat×α)}(hn:(l.map (·.1)).Nodup){p q:Nat×α}(hp:p∈l)(hq:q∈l)(e:p.1=q.1):p=q:=by
 obtain⟨i,hi⟩:=bi.mp hp;obtain⟨j,hj⟩:=bi.mp hq;have hil:=(ad.mp hi).1;have:=(du (by rw[ac];exact hil) hn).mp (show(l.map (·.1))[i]?=(l.map (·.1))[j]? by rw[cg,cg,hi,hj];exact congrArg some e);subst this;exact ce (hi.symm.trans hj)
theorem zqI {shl:List Sh}{names:List Str}{sp ks sp':List Nat}{X:List Re}{E1:List Ee}{rs:List Rh}{hs:List Hd}(hnn:names.Nodup)(hsp: ∀x∈sp,x < names.length/\x≠0)(h8:0 < names.length)(h7:sp.length<=7)(I:LK shl (zD names) sp [] sp' ks X E1 rs [])(hp:hs.Perm (X.map (sZ (zD names)))):
  ∃en rk,xV ((zD names 0,rs)::hs) en rk:=by
 have hkl:=I.len;have hks: ∀x∈ks,x < names.length/\x≠0:=λx hx=>hsp x (I.sub x (ax _ hx));have hek: ∀p∈E1,p.1∈ks:=λp hp=>by rw[<- I.ek];exact cf hp
 have hn:(E1.map (·.1)).Nodup:=by rw[I.ek];exact(ba.mp I.nd).1
 have hnk:(ks++ [0]).Nodup:=ba.mpr ⟨(ba.mp I.nd).1,by simp,λa ha b hb=>by rw[aj.mp hb];exact(hks a ha).2⟩;have hin: ∀x∈ks++ [0],x < names.length:=λx hx=>by
  rcases au.mp hx with hx | hx
  ·exact(hks x hx).1
  ·rw[aj.mp hx];exact h8
 have hndn:((ks++ [0]).map (zD names)).Nodup:=by
  refine dj.mpr λi j hi hj hij e=> ?_;rw[jo,jo]at e;rw[ac]at hi hj;have:=mU hnn (hin _ (iq hi)) (hin _ (iq hj)) e;exact dj.mp hnk i j hi hj hij this
 have agr:pS (zD names) E1 (mN (zD names) E1):=λp hp=>by
  unfold mN;cases hf:E1.find? (λq=>zD names q.1==zD names p.1)with
  | none=>exact absurd (ph.mp hf p hp) (by simp)
  | some q=>
   have h1:=List.mem_of_find?_eq_some hf;have h2:zD names q.1=zD names p.1:=by simpa using List.find?_some hf
   rw[zol hn h1 hp (mU hnn (hks _ (hek q h1)).1 (hks _ (hek p hp)).1 h2)];rfl
 have en0:mN (zD names) E1 (zD names 0)= []:=by
  unfold mN;rw[ph.mpr λp hp z=>(hks _ (hek p hp)).2 (mU hnn (hks _ (hek p hp)).1 h8 (by simpa using z))]
  rfl
 obtain⟨hb1,hb2⟩:=I.hb _ agr;obtain⟨js,p1,p2⟩:=I.pj;rw[xj,iy]at p1;have hnm:(hs.map (·.1)).Perm (ks.map (zD names)):=by
  have:=hp.map (·.1);rw[bt,<- I.xk]at *;rw[bt];exact this
 have hjp:(((zD names 0,rs)::hs).flatMap λh=>h.2.filterMap Rh.jn).Perm (ks.map (zD names)):=by
  refine List.Perm.trans ?_ (p2.trans (p1.map _));rw[da];refine fc.trans (fh _ ?_);refine(hp.flatMap_right _).trans (ol ?_);rw[ni];rfl
 have hsp':(((zD names 0,rs)::hs).flatMap λh=>h.2.filterMap Rh.sp).Perm (tgs X++tg rs):=by
  rw[da];refine fc.trans (fh _ ?_);refine(hp.flatMap_right _).trans (ol ?_);rw[ni];rfl
 have hkn:(ks.map (zD names)).Nodup:=by rw[av]at hndn;exact(ba.mp hndn).1
 have hof: ∀h∈(zD names 0,rs)::hs,∃p∈X++ [((0:Nat),rs)],h=sZ (zD names) p:=λh hh=>by
  rcases az.mp hh with rfl | hh
  ·exact⟨(0,rs),by simp,rfl⟩
  ·obtain⟨p,hp',e⟩:=bv.mp (hp.mem_iff.mp hh)
   exact⟨p,ax _ hp',e.symm⟩
 have hids:(X++ [((0:Nat),rs)]).map (·.1)=ks++ [0]:=by rw[av,I.xk];rfl
 refine⟨mN (zD names) E1,λn=>((ks++ [0]).map (zD names)).idxOf n,⟨λh hh=> ?_,λh t e=> ?_,hjp.nodup_iff.mpr hkn,λy=>(hjp.mem_iff).trans hnm.symm.mem_iff,λh hh y hy=> ?_,λh hh=> ?_,hsp'.nodup_iff.mpr I.tn,λy hy=> ?_⟩⟩
 ·rcases az.mp hh with rfl | hh
  ·exact⟨by rw[en0];exact hb1.symm,hb2⟩
  ·obtain⟨p,hp',rfl⟩:=bv.mp (hp.mem_iff.mp hh)
   exact I.hx _ agr p hp'
 ·cases e;exact en0
 ·obtain⟨⟨k,r⟩,hp',rfl⟩:=hof h hh
  show((ks++ [0]).map (zD names)).idxOf y < ((ks++ [0]).map (zD names)).idxOf (zD names k);obtain⟨A,B,e⟩:=gk hp';have eids:ks++ [0]=A.map (·.1)++k::B.map (·.1):=by rw[<- hids,e,av];rfl
  have hy':y∈uC r:=db.mpr ⟨_,hy,rfl⟩;have hmA:y∈(A.map (·.1)).map (zD names):=by
   rcases sX e with⟨B',h1,_⟩ | ⟨A',rfl,h2⟩
   ·obtain⟨j,hj,e'⟩:=I.je A k r B' h1 y hy'
    rw[e'];exact cf hj
   ·cases A' with
    | nil=>
     cases h2;obtain⟨j,hj,e'⟩:=I.jn _ hy y rfl;rw[e',cn,I.xk];exact cf hj
    | cons q A'=>cases A' <;> cases h2
  have h1:=zit (l:=(ks++ [0]).map (zD names)) (A:=(A.map (·.1)).map (zD names)) (B:=(k::B.map (·.1)).map (zD names)) (by rw[eids,av]) hmA;have h2:((A.map (·.1)).map (zD names)).length<=((ks++ [0]).map (zD names)).idxOf (zD names k):=by
   rw[eids,av]at hndn⊢
   rw[qe,if_neg (λz=>(ba.mp hndn).2.2 _ z _ (by rw[am];exact ar ..) rfl)];omega
  omega
 ·obtain⟨p,hp',rfl⟩:=hof h hh
  have:zD names p.1∈(ks++ [0]).map (zD names):=cf (by rw[<- hids];exact cf hp');have:=lj this;rw[ac,ai,bw]at this;show((ks++ [0]).map (zD names)).idxOf (zD names p.1)<=7;omega
 ·obtain⟨j,hj,e⟩:=I.ti y (hsp'.mem_iff.mp hy)
  show y∈hs.map (·.1);rw[e];exact hnm.mem_iff.mpr (cf hj)
def pN (s:Sh):Sn:=(s.1,[s.2.1,s.2.2])
def zs8:zQ:=λxs st Q=> ∃(ns:List Int) (hands:Int),xs= [.lst (ns.map PV.int),.int 0,pA,.bl false,.int hands]/\st= []/\ns.length<=63/\1<=hands/\hands<=8/\∀(sh:List Sn) (h0:Hd) (hs:List Hd),kO sh (h0::hs)->(∃en rk,xV (h0::hs) en rk)->(∃shl:List Sh,sh=shl.map pN/\(shl.map (·.1)).Nodup/\shl.length<=100/\(∀s∈shl,uZ s)/\∀h∈h0::hs,∀r∈h.2,qB shl r)->Q (yZ sh (h0::hs)) []
theorem vZ {k:z6}{v:PV}{r:List (z6×PV)} :zI ((k,v)::r) k=some v:=by unfold zI;rw[ci,decide_eq_true rfl];rfl
theorem xT {k k':z6}{v:PV}{r:List (z6×PV)}(h:decide (k'=k)=false):zI ((k',v)::r) k=zI r k:=by unfold zI;rw[ci,h]
def wB (nm:Nat->Str)(Y:List Re)(k:Nat):Option Hd:=(Y.find? λp=>p.1==k).map (sZ nm)
theorem jP {nm:Nat->Str}{k:Nat} : ∀{Y:List Re},zI (vB nm Y) (.inl (k:Int))=(wB nm Y k).map y8
 | []=>rfl
 | p::Y=>by
  unfold vB wB;rw[am,ci];by_cases e:p.1=k
  ·subst e
   rw[vZ,beq_self_eq_true];rfl
  ·have hd:decide ((Sum.inl (p.1:Int):z6)=Sum.inl (k:Int))=false:=decide_eq_false (λz=>e (my (mr z)))
   rw[xT hd,show(p.1==k)=false by simpa using e];exact jP
theorem jF {α β:Type}{f g:α->Option β} : ∀{l:List α},(∀x∈l,f x=g x)->l.filterMap f=l.filterMap g
 | [],_=>rfl
 | x::l,h=>by rw[bx,bx,h x (ar ..),jF λy hy=>h y (bc _ hy)]
theorem ziJ {nm:Nat->Str} : ∀{X:List Re} {L:List Nat},(X.map (·.1)).Nodup->L.Nodup->(∀k∈X.map (·.1),k∈L)->(L.filterMap (wB nm X)).Perm (X.map (sZ nm))
 | [],L,_,_,_=>by
  have:L.filterMap (wB nm [])= []:=by rw[List.filterMap_eq_nil_iff];intro a _;rfl
  rw[this];exact ur _
 | p::X,L,hx,hL,hs=>by
  rw[am,dq]at hx;have hp:p.1∈L:=hs p.1 (by rw[am];exact ar ..);have h1:(L.filterMap (wB nm (p::X))).Perm ((p.1::L.erase p.1).filterMap (wB nm (p::X))):=(List.perm_cons_erase hp).filterMap _;refine h1.trans ?_;have e1:wB nm (p::X) p.1=some (sZ nm p):=by unfold wB;rw[ci,beq_self_eq_true];rfl
  have e2:(L.erase p.1).filterMap (wB nm (p::X))=(L.erase p.1).filterMap (wB nm X):=by
   refine jF λk hk=> ?_;have hne:p.1≠k:=λz=>by rw[<- z]at hk;exact(List.Nodup.not_mem_erase hL) hk
   unfold wB;rw[ci,show(p.1==k)=false by simpa using hne]
  rw[bx,e1,e2,am];refine List.Perm.cons _ (ziJ hx.2 (hL.erase _) λk hk=> ?_);exact(vg λ(z:k=p.1)=>hx.1 (z▸hk)).mpr (hs k (by rw[am];exact bc _ hk))
theorem zo6 {nm:Nat->Str}{X:List Re}{rs:List Rh}{k:Nat}(h:k≠0):wB nm (X++ [(0,rs)]) k=wB nm X k:=by
 unfold wB;rw[wx];have:([((0:Nat),rs)].find? λp=>p.1==k)=none:=by rw[ci,show((0:Nat)==k)=false by simpa using h.symm];rfl
 rw[this,Option.or_none]
def wI (m:Nat):List Nat:=(List.range m).map (· +1)
theorem zk0 (m:Nat):(wI m).Nodup:=by
 unfold wI;refine dj.mpr λi j hi hj hij=> ?_;simp only[jo,wm];omega
theorem nQ {m x:Nat} :x∈wI m↔1<=x/\x<=m:=by
 unfold wI;rw[bv];constructor
 ·rintro⟨i,hi,rfl⟩;rw[ot]at hi;omega
 ·intro h;exact⟨x - 1,by rw[ot];omega,by omega⟩
theorem nP (m:Nat):(wI m).length=m:=by unfold wI;simp
structure sI (hs:List Hd):Prop where
 hn:(hs.map (·.1)).Nodup
 hl:hs.length<=8
 rl: ∀h∈hs,h.2.length<=30
 rk: ∃rk:Str->Nat,tN (kids Rh.sp hs) (hs.map (·.1)) rk/\∀n∈hs.map (·.1),rk n<=7
theorem kO.lt {sh:List Sn}{hs:List Hd}(O:kO sh hs):sI hs:=⟨O.hn,O.hl,O.rl,O.rk⟩
def yG (ms:List Str):List (z6×PV):=ms.map λm=>(.inr m,.bl true)
def wF (ms:List Str)(x:Str):List Str:=if x∈ms then ms else ms++ [x]
def u5 (ms l:List Str):Prop:=ms.Nodup/\∀x,x∈ms↔x∈l
theorem ztp {ms:List Str}{x:Str} :(Sum.inr x:z6)∈(yG ms).map (·.1)↔x∈ms:=by
 unfold yG;rw[bt,bv];constructor
 ·rintro⟨m,hm,e⟩;cases e;exact hm
 ·exact λh=>⟨x,h,rfl⟩
theorem nU {x:Str} : ∀{ms:List Str},zI (yG ms) (.inr x)=if x∈ms then some (.bl true)else none
 | []=>rfl
 | m::ms=>by
  show zI ((.inr m,.bl true)::yG ms) (.inr x)=_;by_cases e:m=x
  ·subst e;rw[vZ,if_pos (ar ..)]
  ·rw[xT (decide_eq_false λz=>e (io z)),nU]
   by_cases h:x∈ms
   ·rw[if_pos h,if_pos (bc _ h)]
   ·rw[if_neg h,if_neg λz=>(az.mp z).elim (λz=>e z.symm) h]
theorem zdQ {ms:List Str}{x:Str} :xP (yG ms) (.inr x) (.bl true)=yG (wF ms x):=by
 unfold wF;by_cases h:x∈ms
 ·rw[if_pos h]
  unfold xP;have hany:((yG ms).any λkv=>decide (kv.1=Sum.inr x))=true:=nh.mpr ⟨(Sum.inr x,PV.bl true),bv.mpr ⟨x,h,rfl⟩,decide_eq_true rfl⟩;rw[if_pos hany];unfold yG;rw[bt];refine jg λm _=> ?_;show(if(Sum.inr m:z6)=Sum.inr x then _ else _)=_
  split <;> rfl
 ·rw[if_neg h,mX λz=>h (ztp.mp z)]
  unfold yG;rw[av];rfl
theorem zto {ms:List Str}{x:Str} :oI (yG ms) (.inr x)=yG (ms.filter λy=>decide (y≠x)):=by
 unfold oI yG;rw[xo]
 congr 1
 refine wv λm _=> ?_;show decide ((Sum.inr m:z6)≠Sum.inr x)=decide (m≠x);by_cases e:m=x
 ·rw[e];simp
 ·rw[decide_eq_true (show m≠x from e),decide_eq_true (show(Sum.inr m:z6)≠Sum.inr x from λz=>e (io z))]
theorem zdP: ∀{ns ms:List Str},uD (yG ms) (yG ns)=yG (ns.foldl wF ms)
 | [],ms=>rfl
 | n::ns,ms=>by
  show uD (xP (yG ms) (.inr n) (.bl true)) (yG ns)=_;rw[zdQ,zdP];rfl
theorem zeK {ms:List Str}{x y:Str} :y∈wF ms x↔y∈ms∨y=x:=by
 unfold wF
 split
 ·next h=>exact⟨.inl,λz=>z.elim id λe=>e▸h⟩
 ·rw[au,aj]
theorem zeL {ms:List Str}{x:Str}(h:ms.Nodup):(wF ms x).Nodup:=by
 unfold wF
 split
 ·exact h
 ·next hx=>exact ba.mpr ⟨h,by simp,λa ha b hb e=>hx (by rw[aj.mp hb]at e;exact e▸ha)⟩
theorem zeJ {ms:List Str}{x:Str} :(wF ms x).length<=ms.length+1:=by unfold wF;split <;> simp
theorem eO {y:Str} : ∀{ns ms:List Str},y∈ns.foldl wF ms↔y∈ms∨y∈ns
 | [],ms=>by simp
 | n::ns,ms=>by rw[gb,eO,zeK,az,or_assoc]
theorem zeI: ∀{ns ms:List Str},ms.Nodup->(ns.foldl wF ms).Nodup
 | [],_,h=>h
 | n::ns,ms,h=>by rw[gb];exact zeI (zeL h)
theorem zeH: ∀{ns ms:List Str},(ns.foldl wF ms).length<=ms.length+ns.length
 | [],_=>ao _
 | n::ns,ms=>by rw[gb,bq];have:=zeH (ns:=ns) (ms:=wF ms n);have:=zeJ (ms:=ms) (x:=n);omega
theorem f8 {ms:List Str} :(yG ms).length=ms.length:=by unfold yG;rw[ac]
section
variable {en:Str->List Str} {rs:List Rh} {ms ns:List Str} {x:Str}
theorem u5.split (h:u5 ms (xG en rs)):u5 (wF ms x) (xG en (rs++ [.split x])):=⟨zeL h.1,λy=>by
 rw[zeK,oM,h.2 y];show _↔y∈xG en rs++ [x];rw[au,aj]⟩
theorem u5.join (h:u5 ms (xG en rs))(hn:u5 ns (en x)):u5 (ns.foldl wF (ms.filter λy=>decide (y≠x))) (xG en (rs++ [.join x])):=⟨zeI (h.1.sublist (List.filter_sublist ..)),λy=>by
 rw[eO,oM,hn.2 y,kj,h.2 y];show _↔y∈(xG en rs).filter _++en x;rw[au,kj]⟩
theorem u5.pl {r:Rw}(h:u5 ms (xG en rs)):u5 ms (xG en (rs++ [.pl r])):=by rw[oM];exact h
end
theorem zqP (r:Rw): ∃(k:Str) (more:List PV),(Rh.pl r).pv= .tup (.str k::more)/\(k==("split" :Str))=false/\(k==("join" :Str))=false:=by
 obtain⟨k,x,more,e,_⟩:=zka (.pl r);have h1:=zcr (kind:= "split") (f:=Rh.sp) (.inl ⟨rfl,rfl⟩) (.pl r);have h2:=zcr (kind:= "join") (f:=Rh.jn) (.inr ⟨rfl,rfl⟩) (.pl r);rw[e]at h1 h2;refine⟨k,x::more,e,?_,?_⟩
 ·cases hb:(k==("split" :Str))with
  | false=>rfl
  | true=>have:(if k==("split" :Str)then some x else none)=none:=h1;rw[hb]at this;cases this
 ·cases hb:(k==("join" :Str))with
  | false=>rfl
  | true=>have:(if k==("join" :Str)then some x else none)=none:=h2;rw[hb]at this;cases this
def zsz:zQ:=λxs st Q=> ∃(rs:List Rh) (en:Str->List Str) (ev:PV) (kvs:List (z6×PV)),xs= [.tup (rs.map Rh.pv),ev]/\(ev= .dct kvs∨∃i:Nat,ev= .obj i/\st[i]?=some (.dct kvs))/\rs.length<=30/\HV en rs/\(∀y,Rh.join y∈rs->∃ns,zI kvs (.inr y)=some (.dct (yG ns))/\u5 ns (en y)/\ns.length<=1000)/\∀ms,u5 ms (xG en rs)->Q (.dct (yG ms)) st
theorem jS: ∀{b a:List (z6×PV)},((a++b).map (·.1)).Nodup->uD a b=a++b
 | [],a,_=>by rw[cn];rfl
 | q::b,a,hn=>by
  have e:a++q::b=(a++ [q])++b:=by simp
  rw[e]at hn;show uD (xP a q.1 q.2) b=_;rw[mX λz=> ?_,jS hn,e];rw[av]at hn;have h1:=(ba.mp hn).1;rw[av]at h1;exact(ba.mp h1).2.2 _ z _ (aj.mpr rfl) rfl
theorem lV {k k':z6}{v:PV} : ∀{kvs:List (z6×PV)},zI (xP kvs k v) k'=if k=k' then some v else zI kvs k'
 | []=>by
  show zI [(k,v)] k'=_;by_cases e:k=k'
  ·subst e;rw[vZ,if_pos rfl]
  ·rw[xT (decide_eq_false e),if_neg e]
 | q::r=>by
  obtain⟨a,b⟩:=q;have ih:=lV (k:=k) (k':=k') (v:=v) (kvs:=r);unfold xP at ih⊢
  by_cases ea:a=k
  ·subst ea
   rw[if_pos (by simp)];rw[am,if_pos rfl];by_cases e:a=k'
   ·subst e;rw[vZ,if_pos rfl]
   ·rw[xT (decide_eq_false e),if_neg e,xT (decide_eq_false e)]
    rw[if_neg e]at ih
    split at ih
    ·exact ih
    ·next h=>
     have:r.map (λkv=>if kv.1=a then(kv.1,v)else kv)=r:=by
      refine(jg (g:=id) λkv hk=> ?_).trans (xb r);rw[if_neg λz=>h (nh.mpr ⟨kv,hk,decide_eq_true z⟩)];rfl
     rw[this]
  ·have ec:(((a,b)::r).any λkv=>decide (kv.1=k))=(r.any λkv=>decide (kv.1=k)):=by rw[ij,decide_eq_false ea,Bool.false_or]
   rw[ec];by_cases e:a=k'
   ·subst e
    have hk:k≠a:=λz=>ea z.symm
    split
    ·rw[am,if_neg ea,vZ,vZ]
    ·rw[gn,vZ,vZ]
   ·rw[xT (decide_eq_false e),<- ih]
    split
    ·rw[am,if_neg ea,xT (decide_eq_false e)]
    ·rw[gn,xT (decide_eq_false e)]
theorem zrg {kvs:List (z6×PV)}{k:z6}{v:PV} :(xP kvs k v).length<=kvs.length+1:=by
 unfold xP;split <;> simp
def rW (hs:List Hd):List (z6×PV):=hs.map λh=>(.inr h.1,.tup (h.2.map Rh.pv))
theorem zrW {hs:List Hd} :(rW hs).map (·.1)=(hs.map (·.1)).map Sum.inr:=by unfold rW;rw[bt,bt];rfl
theorem zc1 {l:List Str}(h:l.Nodup):(l.map (Sum.inr:Str->z6)).Nodup:=by
 refine dj.mpr λi j hi hj hij e=> ?_;rw[jo,jo]at e;rw[ac]at hi hj;exact dj.mp h i j hi hj hij (io e)
theorem zke {h:Hd} : ∀{hs:List Hd},(hs.map (·.1)).Nodup->h∈hs->zI (rW hs) (.inr h.1)=some (.tup (h.2.map Rh.pv))
 | q::hs,hn,hm=>by
  rw[am,dq]at hn;show zI ((.inr q.1,.tup (q.2.map Rh.pv))::rW hs) (.inr h.1)=_;rcases az.mp hm with rfl | hm
  ·exact vZ
  ·rw[xT (decide_eq_false λz=>hn.1 (by rw[io z];exact cf hm))]
   exact zke hn.2 hm
section
variable {g:Str->List Str} {names:List Str} {rk:Str->Nat}
def pO (g:Str->List Str)(w:Str):List Str:=(g w).flatMap (yS g 8)
theorem zif {α β:Type}{f:α->List β}{w:β} : ∀{l:List α} {A B:List β},l.flatMap f=A++w::B->∃m∈l,∃A1 B1 B2,f m=A1++w::B1/\B=B1++B2
 | [],A,B,h=>by cases A <;> cases h
 | x::l,A,B,h=>by
  rw[da]at h;rcases sX h with⟨B',h1,h2⟩ | ⟨A',_,h2⟩
  ·exact⟨x,ar ..,A,B',_,h1,h2⟩
  ·obtain⟨m,hm,r⟩:=zif h2
   exact⟨m,bc _ hm,r⟩
theorem iB (R:tN g names rk)(h7: ∀n∈names,rk n<=7): ∀{d:Nat} {n:Str},n∈names->rk n < d->∀{A B:List Str} {w:Str},yS g d n=A++w::B->w∈names/\∀x∈pO g w,x∈B
 | 0,n,_,h,_,_,_,_=>by omega
 | d+1,n,hn,h,A,B,w,e=>by
  have e':n::(g n).flatMap (yS g d)=A++w::B:=e;cases A with
  | nil=>
   obtain⟨e1,e2⟩:=vm (show n::(g n).flatMap (yS g d)=w::B from e');subst e1 e2;refine⟨hn,λx hx=> ?_⟩;unfold pO at hx
   rwa [p7 λm hm=>zcO R (R.sub n hn m hm) (show rk m < 8 by have:=h7 m (R.sub n hn m hm);omega) (show rk m < d by have:=R.down n hn m hm;omega)]at hx
  | cons q A=>
   have e2:=(vm (show n::(g n).flatMap (yS g d)=q::(A++w::B)from e')).2;obtain⟨m,hm,A1,B1,B2,e3,rfl⟩:=zif e2;obtain⟨h1,h2⟩:=iB R h7 (R.sub n hn m hm) (show rk m < d by have:=R.down n hn m hm;omega) e3;exact⟨h1,λx hx=>ax _ (h2 x hx)⟩
theorem zsI (R:tN g names rk)(h7: ∀n∈names,rk n<=7){w x y:Str}(hw:w∈names)(h1:y∈pO g w)(h2:x∈pO g y):x∈pO g w:=by
 obtain⟨m,hm,hy⟩:=gq.mp h1;obtain⟨A,B,e⟩:=gk hy;have hmn:=R.sub w hw m hm;have:=(iB R h7 hmn (show rk m < 8 by have:=h7 m hmn;omega) e).2 x h2;exact gq.mpr ⟨m,hm,by rw[e];exact af _ (bc _ this)⟩
theorem zk9 (R:tN g names rk)(h7: ∀n∈names,rk n<=7){w x:Str}(hw:w∈names)(h:x∈g w):x∈pO g w:=by
 have hx:=R.sub w hw x h;refine gq.mpr ⟨x,h,?_⟩;rw[iA R hx (show rk x < 8 by have:=h7 x hx;omega)];exact ar ..
end
section
variable {hs:List Hd} {en:Str->List Str} {rk rj:Str->Nat}
theorem xV.below (G:xV hs en rj)(hn:(hs.map (·.1)).Nodup)(R:tN (kids Rh.sp hs) (hs.map (·.1)) rk)(h7: ∀n∈hs.map (·.1),rk n<=7){x:Str} : ∀(m:Nat) (h:Hd),rj h.1<=m->h∈hs->∀{x:Str} (n:Nat),x∈xG en (h.2.take n)->x∈pO (kids Rh.sp hs) h.1:=by
 intro m
 induction m with
 | zero | succ m ih=>
  intro h hr hh x n;have hhn:h.1∈hs.map (·.1):=cf hh
  induction n using Nat.strongRecOn generalizing x with
  | ind n ihn=>
   intro hx;obtain⟨i,hi,⟨r,h1,h2⟩,_⟩:=zim.mp hx;have hm:=bi.mpr ⟨i,h1⟩;rcases h2 with rfl | ⟨y,rfl,h2⟩
   ·exact zk9 R h7 hhn (by rw[tD hn hh];exact db.mpr ⟨_,hm,rfl⟩)
   ·have hl:=G.jr h hh y hm
    have hy:=(G.je y).mp (gq.mpr ⟨h,hh,db.mpr ⟨_,hm,rfl⟩⟩);obtain⟨k,hk,rfl⟩:=bv.mp hy;have hk':=lq hk;obtain⟨hil,e'⟩:=ad.mp h1;have hsp:h.2=h.2.take i++ .join k.1::h.2.drop (i+1):=by rw[<- e',fi,dy]
    have hyb:=ihn i hi ((G.hb h hh).2 _ _ _ hsp)
    first
    | (exfalso;omega)
    | (refine zsI R h7 hhn hyb (ih k (by omega) hk' k.2.length ?_)
       rw[ig,(G.hb k hk').1];exact h2)
theorem xV.reach (G:xV hs en rj)(hn:(hs.map (·.1)).Nodup)(R:tN (kids Rh.sp hs) (hs.map (·.1)) rk)(h7: ∀n∈hs.map (·.1),rk n<=7){h0:Hd}{t:List Hd}(e0:hs=h0::t): ∀(m:Nat) (x:Str),x∈hs.map (·.1)->7 - rk x<=m->x∈yS (kids Rh.sp hs) 8 h0.1:=by
 have h0n:h0.1∈hs.map (·.1):=by rw[e0];exact ar ..
 have hr0:h0.1∈yS (kids Rh.sp hs) 8 h0.1:=by rw[iA R h0n (show rk h0.1 < 8 by have:=h7 _ h0n;omega)];exact ar ..
 intro m
 induction m with
 | zero | succ m ih=>
  intro x hx hm;by_cases ht:x∈hs.tail.map (·.1)
  ·obtain⟨k,hk,i,e⟩:=G.isplit ht
   have hkn:k.1∈hs.map (·.1):=cf hk;have hkid:x∈kids Rh.sp hs k.1:=by rw[tD hn hk];exact db.mpr ⟨_,bi.mpr ⟨i,e⟩,rfl⟩
   have hd:=R.down _ hkn x hkid;have hk7:=h7 _ hkn
   first
   | (exfalso;omega)
   | (obtain⟨A,B,e2⟩:=gk (ih k.1 hkn (by omega))
      have:=(iB R h7 h0n (show rk h0.1 < 8 by have:=h7 _ h0n;omega) e2).2 x (zk9 R h7 hkn hkid);rw[e2];exact af _ (bc _ this))
  ·rw[e0]at hx ht
   rcases az.mp hx with e | e
   ·rw[e];exact hr0
   ·exact absurd e ht
end
def fH (kvs:List (z6×PV))(en:Str->List Str)(w:Str):Prop:= ∃ns,zI kvs (.inr w)=some (.dct (yG ns))/\u5 ns (en w)/\ns.length<=1000
def zku:zQ:=λxs st Q=> ∃(sh:List Sn) (h0:Hd) (hs:List Hd) (en:Str->List Str) (rj:Str->Nat),xs= [yZ sh (h0::hs)]/\sI (h0::hs)/\xV (h0::hs) en rj/\∀kvs,(∀w∈(h0::hs).map (·.1),fH kvs en w)->Q (.dct kvs) st
def jM (ms:List Str):PV->Option PV:=λx=>match x with | .tup (.str n::_)=>if n∈ms then some (.str n)else none | _=>none
theorem ziv {ms:List Str} : ∀{hs:List Hd},(hs.map y8).filterMap (jM ms)=((hs.map (·.1)).filter λn=>decide (n∈ms)).map PV.str
 | []=>rfl
 | h::hs=>by
  rw[am,bx,am,jj,ziv];have hf:jM ms (y8 h)=if h.1∈ms then some (.str h.1)else none:=rfl
  rw[hf];by_cases e:h.1∈ms
  ·rw[if_pos e,decide_eq_true e];rfl
  ·rw[if_neg e,decide_eq_false e];rfl
def zs0:zQ:=λxs st Q=> ∃(sh:List Sn) (hs:List Hd) (ms:List Str),xs= [yZ sh hs,.dct (yG ms)]/\Q (.tup (((hs.map (·.1)).filter λn=>decide (n∈ms)).map PV.str)) st
def Lf.nm:Lf->Str | .shelf s=>s | .many s _=>s | .long s=>s
def Lf.fit:Lf->List Str | .shelf _=> ["last","sum","told"] | .many _ _=> ["bag"] | .long _=> ["row"]
def fK (mn:List (z6×PV))(S:Str)(fit:List Str):Prop:= ∃kd,zI mn (.inr S)=some (.str kd)/\kd∈fit
def fX (mn:List (z6×PV))(l:Lf):Prop:=fK mn l.nm l.fit
def Dd.fit:Dd->List Str | .tell _=> [] | .bag _ _ _=> ["bag"] | .set _ _=> ["last","told"] | .more _ _=> ["sum"] | .lay _ _ _=> ["row"] | .drop _ _=> ["row"]
def eM (mn:List (z6×PV))(x:Tm Lf):Prop:=x.ok (fX mn)/\x.rank < 7
def eI (mn:List (z6×PV))(r:Rw):Prop:=(∀x,r.1=some x->eM mn x)/\(∀s,r.2.nm=some s->fK mn s r.2.fit)/\∀x,r.2.tm=some x->eM mn x
def zeC (mn:List (z6×PV)):Rh->Prop | .pl r=>eI mn r | _=>True
def Tm.kids {L:Type} :Tm L->List (Tm L) | .op _ a b=> [a,b] | .ite a b c=> [a,b,c] | _=> []
theorem Tm.kid_ok {L:Type}{lo:L->Prop}{x y:Tm L}(h:x.ok lo)(m:y∈x.kids):y.ok lo/\y.rank < x.rank:=by
 cases x with
 | num k=>cases m
 | lf l=>cases m
 | op s a b=>
  obtain⟨_,ha,hb⟩:=h;rcases az.mp m with rfl | m
  ·exact⟨ha,by show _ < max _ _+1;omega⟩
  ·rw[aj.mp m];exact⟨hb,by show _ < max _ _+1;omega⟩
 | ite a b c=>
  obtain⟨ha,hb,hc⟩:=h;rcases az.mp m with rfl | m
  ·exact⟨ha,by show _ < max _ (max _ _)+1;omega⟩
  ·rcases az.mp m with rfl | m
   ·exact⟨hb,by show _ < max _ (max _ _)+1;omega⟩
   ·rw[aj.mp m];exact⟨hc,by show _ < max _ (max _ _)+1;omega⟩
theorem ziG (l:Lf): ∃(k:Str) (more:List PV),l.pv= .tup (.str k:: .str l.nm::more)/\zI mT (.inr k)=some (.tup (l.fit.map PV.str))/\(k==("op" :Str))=false/\(k==("if" :Str))=false:=by
 cases l <;> exact⟨_,_,rfl,rfl,by decide+kernel,by decide+kernel⟩
theorem zpk {x:Tm Lf}(h: ∀l,x≠ .lf l): ∃(k:Str) (more:List PV),x5 x= .tup (.str k::more)/\zI mT (.inr k)=none:=by
 cases x with
 | lf l=>exact absurd rfl (h l)
 | _=>exact⟨_,_,rfl,rfl⟩
theorem znc {d:Dd}{s:Str}(h:d.nm=some s): ∃(k:Str) (more:List PV),d.pv= .tup (.str k:: .str s::more)/\zI mdP (.inr k)=some (.tup (d.fit.map PV.str)):=by
 cases d with
 | tell x=>cases h
 | bag up a b=>cases h;cases up <;> exact⟨_,_,rfl,rfl⟩
 | set a x=>cases h;exact⟨_,_,rfl,rfl⟩
 | more a x=>cases h;exact⟨_,_,rfl,rfl⟩
 | lay a x b=>cases h;exact⟨_,_,rfl,rfl⟩
 | drop a x=>cases h;exact⟨_,_,rfl,rfl⟩
def i9:Option (Tm Lf)->PV | none=> .non | some x=>x5 x
def zs_:zQ:=λxs st Q=> ∃x:Tm Lf,xs= [x5 x]/\Q (.tup (x.kids.map x5)) st
def zsA:zQ:=λxs st Q=> ∃d:Dd,xs= [d.pv]/\Q (i9 d.tm) st
def zs2:zQ:=λxs st Q=> ∃(S:Str) (fit:List Str) (mn:List (z6×PV)),xs= [.str S,.dct mn,.tup (fit.map PV.str)]/\fK mn S fit/\Q .non st
def gR (d:Nat):zQ:=λxs st Q=> ∃(x:Tm Lf) (mn:List (z6×PV)),xs= [x5 x,.dct mn]/\x.ok (fX mn)/\x.rank < d/\Q .non st
theorem zky {K:Frag}{vs:List V}{H:Hp}{Q:VK}{E:XK}(h:y2 K (gR 0) vs H Q E):False:=by
 obtain⟨_,_,_,_,_,_,⟨_,_,_,_,h1,_⟩,_⟩:=h;omega
def zkw:zQ:=λxs st Q=> ∃(r:Rw) (mn:List (z6×PV)),xs= [r.pv,.dct mn]/\eI mn r/\Q .non st
def zs1:zQ:=λxs st Q=> ∃(r:Rh) (i:Nat) (kvs:List (z6×PV)) (n:Str),xs= [r.pv,.obj i]/\st[i]?=some (.dct kvs)/\kvs.length<=1000/\((r= .split n/\zI kvs (.inr n)=some (.bl false)/\Q .non (st.set i (.dct (xP kvs (.inr n) (.bl true)))))∨(r= .join n/\(∃b,zI kvs (.inr n)=some b)/\Q .non st))
def zs3:zQ:=λxs st Q=> ∃l:List Sn,xs= [.tup (l.map yH)]/\(l.map (·.1)).Nodup/\l.length<=1000/\Q .non st
abbrev Sk:=Str×Str×List PV×PV
def wY (s:Sk):Sn:=(s.1,[.tup (.str s.2.1::s.2.2.1),s.2.2.2])
def uE (l:List Sk):List (z6×PV):=l.map λs=>(.inr s.1,.str s.2.1)
def mnF:PV->Option PV:=λx=>match x with | .tup (n:: .tup (kd::_)::_)=>some (.tup [n,kd]) | _=>none
def rK (l:List Str):List (z6×PV):=l.map λn=>(.inr n,.bl false)
def flF:PV->Option PV:=λx=>match x with | .tup (n::_)=>some (.tup [n,.bl false]) | _=>none
theorem zct {x:Str} : ∀{l:List Str},x∈l->zI (rK l) (.inr x)=some (.bl false)
 | n::l,h=>by
  by_cases e:n=x
  ·subst e;exact zec rfl
  ·have:=zct (x:=x) (l:=l) ((az.mp h).resolve_left λz=>e z.symm)
   rw[<- this];exact zeb λz=>e (io z)
theorem zjJ {kvs:List (z6×PV)}{k:z6}{v w:PV}(h:zI kvs k=some w):(xP kvs k v).length=kvs.length:=by
 unfold xP;rw[zln,h];simp
structure TK (h0:Str)(names l:List Str)(kvs:List (z6×PV)):Prop where
 len:kvs.length<=8
 at_: ∀n∈names,zI kvs (.inr n)=some (.bl (decide (n=h0∨n∈l)))
theorem TK.put {h0 n:Str}{names l:List Str}{kvs:List (z6×PV)}(t:TK h0 names l kvs)(hn:n∈names):TK h0 names (l++ [n]) (xP kvs (.inr n) (.bl true)):=by
 refine⟨by rw[zjJ (t.at_ n hn)];exact t.len,λm hm=> ?_⟩;rw[lV];by_cases e:n=m
 ·subst e;rw[if_pos rfl,decide_eq_true (.inr (af _ (aj.mpr rfl)))]
 ·rw[if_neg λz=>e (io z),t.at_ m hm]
  congr 2
  refine decide_eq_decide.mpr (or_congr_right ?_);rw[au,aj];exact⟨.inl,λz=>z.resolve_right λz=>e z.symm⟩
abbrev sW (hs:List Hd):List Str:=hs.flatMap λh=>h.2.filterMap Rh.sp
theorem zsD {hs:List Hd}{h:Hd}{k j:Nat}{n:Str}(nd:(sW hs).Nodup)(hk:hs[k]?=some h)(hj:h.2[j]?=some (.split n)):n∉sW (hs.take k)++(h.2.take j).filterMap Rh.sp:=by
 obtain⟨hk',ek⟩:=ad.mp hk;obtain⟨hj',ej⟩:=ad.mp hj;have e1:hs=hs.take k++h::hs.drop (k+1):=by rw[<- ek,fi,dy]
 have e2:h.2=h.2.take j++ .split n::h.2.drop (j+1):=by rw[<- ej,fi,dy]
 have e3:sW hs=(sW (hs.take k)++(h.2.take j).filterMap Rh.sp)++n::((h.2.drop (j+1)).filterMap Rh.sp++sW (hs.drop (k+1))):=by
  conv=>lhs;rw[e1]
  show List.flatMap _ _=_;rw[jh,da]
  conv=>lhs;rw[e2]
  rw[ia,bx];simp[Rh.sp,bh]
 rw[e3,ba]at nd;exact λm=>nd.2.2 n m n (ar ..) rfl
theorem zcU (r:Rw): ∃(k:Str) (more:List PV),r.pv= .tup (.str k::more)/\True/\yF (.str k) [.str "split",.str "join"]=false:=by
 obtain⟨g,d⟩:=r;cases g with
 | none=>obtain⟨k,more,e,_,h⟩:=d.form2;exact⟨k,more,e,trivial,h⟩
 | some x=>
  refine⟨"when",_,rfl,trivial,?_⟩;have e:=oN (w:= "when") (ws:= ["split","join"]);rw[am,am,ic]at e;rw[e];exact decide_eq_false (by decide+kernel)
structure fY (skl:List Sk)(h0:Hd)(hs:List Hd):Prop where
 sn:(skl.map (·.1)).Nodup
 sl:skl.length<=100
 hn:((h0::hs).map (·.1)).Nodup
 hl:(h0::hs).length<=8
 rl: ∀h∈h0::hs,h.2.length<=30
 sp:(sW (h0::hs)).Nodup
 st: ∀y∈sW (h0::hs),y∈hs.map (·.1)
 jn: ∀h∈h0::hs,∀y,Rh.join y∈h.2->y∈(h0::hs).map (·.1)
 ft: ∀h∈h0::hs,∀r∈h.2,zeC (uE skl) r
def zkx:zQ:=λxs st Q=> ∃(skl:List Sk) (h0:Hd) (hs:List Hd),xs= [yZ (skl.map wY) (h0::hs)]/\fY skl h0 hs/\Q .non st
def ctF:PV->Option PV:=λx=>match x with | .str w=>some (.tup [.str w,.bl true]) | _=>none
def zdB:zQ:=λxs st Q=> ∃(sh:List Sn) (h0:Hd) (hs:List Hd) (en:Str->List Str) (rj:Str->Nat),xs= [yZ sh (h0::hs)]/\sI (h0::hs)/\xV (h0::hs) en rj/\Q .non st
def zkz:zQ:=λxs st Q=> ∃(skl:List Sk) (h0:Hd) (hs:List Hd) (en:Str->List Str) (rj:Str->Nat),xs= [yZ (skl.map wY) (h0::hs)]/\fY skl h0 hs/\sI (h0::hs)/\xV (h0::hs) en rj/\Q (.bl true) st
theorem zkL (x:Tm Lf): ∃(k:Str) (more:List PV),x5 x= .tup (.str k::more):=by
 cases x with
 | lf l=>obtain⟨k,more,e,_⟩:=jO l;exact⟨k,more,e⟩
 | _=>exact⟨_,_,rfl⟩
theorem mO {m:Nat}{Q:K3}{st:z7}{x:Tm Lf}(h:Q (i9 (some x)) st)(hm:st.take m=st:=by exact bz (ao _)):xE m Q (x5 x) st:=by
 obtain⟨k,more,e⟩:=zkL x;have h:Q (x5 x) st:=h;rw[e]at h⊢
 show Q _ (st.take m);rw[hm];exact h
theorem zpp {w:Str}{ws:List Str}{st:z7}{Q:K3} :xJ true (.str w) (.tup (ws.map PV.str)) st Q=((xD (.str w)=true/\(ws.map PV.str).all xD=true)/\Q (.bl (!yF (.str w) (ws.map PV.str))) st):=rfl
theorem zmf (ws:List Str):(ws.map PV.str).all xD=true:=by rw[wj];exact ng.mpr λ_ _=>rfl
theorem zjb {w:Str}{kvs:List (z6×PV)}{st:z7}{Q:K3} :xJ true (.str w) (.dct kvs) st Q=Q (.bl (!(zI kvs (.inr w)).isSome)) st:=rfl
def eJ (x:PV):Prop:= ∃sh:List Sn,x=yZ sh []/\(sh.map (·.1)).Nodup/\sh.length<=1000
def zk1:zQ:=λxs st Q=> ∃x,xs= [x]/\xZ x=true/\eJ x/\Q (.bl true) st
theorem zcH {n kd:Str} : ∀{l:List Sk},(l.map (·.1)).Nodup->(n,kd)∈l.map (λs=>(s.1,s.2.1))->zI (uE l) (.inr n)=some (.str kd)
 | s::l,hn,hm=>by
  rw[am,dq]at hn;rw[am,az]at hm;rcases hm with e | hm
  ·cases e;exact zec rfl
  ·have hne:s.1≠n:=λz=>hn.1 (by
    obtain⟨t,ht,e⟩:=bv.mp hm;cases e;rw[z];exact cf ht)
   rw[<- zcH hn.2 hm];exact zeb λz=>hne (io z)
theorem zdT {α:Type}{f:α->PV}(h: ∀x,xZ (f x)=true): ∀l:List α,tupVs (l.map f)=true
 | []=>rfl
 | x::l=>by rw[am];unfold tupVs;rw[h x,zdT h l];rfl
theorem nW {L:Type}{lp:L->PV}(h: ∀l,xZ (lp l)=true): ∀t:Tm L,xZ (t.pv lp)=true
 | .num k=>rfl
 | .lf l=>h l
 | .op s a b=>by
  show tupVs [.str "op",.str s,a.pv lp,b.pv lp]=true;simp[tupVs,xZ,nW h a,nW h b]
 | .ite a b c=>by
  show tupVs [.str "if",a.pv lp,b.pv lp,c.pv lp]=true;simp[tupVs,xZ,nW h a,nW h b,nW h c]
theorem zts (h:Hv):xZ h.pv=true:=by
 cases h with
 | int v=>rfl
 | bag l=>show tupVs (l.map _)=true;exact zdT (λq=>rfl) l
 | row ws=>show tupVs (ws.map _)=true;exact zdT (λq=>rfl) ws
theorem ztt {kd:Str}{r:List PV}(h:kK kd r):tupVs r=true:=by
 rcases h with⟨_,rfl⟩ | ⟨_,n,t,rfl,_⟩
 ·rfl
 ·have:=nW (lp:=uK.pv) (λl=>by cases l <;> rfl) t
  simp[tupVs,xZ,this]
theorem zkq: ∀{shl:List Sh},(∀s∈shl,uZ s)->∃skl:List Sk,shl.map pN=skl.map wY/\skl.map (·.1)=shl.map (·.1)/\(∀s∈skl,xZ (yH (wY s))=true)/\
  ∀s∈shl,∀kd r,s.2.1= .tup (.str kd::r)->(s.1,kd)∈skl.map (λk=>(k.1,k.2.1))
 | [],_=>⟨[],rfl,rfl,(λs h=>by cases h),λs h=>by cases h⟩
 | (n,m,b)::shl,h=>by
  obtain⟨skl,h1,h2,h3,h4⟩:=zkq (shl:=shl) λs hs=>h s (bc _ hs);obtain⟨kd,r,hv,e1,e2,e3,_⟩:=h _ (ar ..);dsimp only at e1 e3;subst e1 e3;refine⟨(n,kd,r,hv.pv)::skl,by rw[am,am,h1];rfl,by rw[am,am,h2],λs hs=> ?_,λs hs kd' r' e=> ?_⟩
  ·rcases az.mp hs with rfl | hs
   ·show tupVs [.str n,.tup (.str kd::r),hv.pv]=true
    simp[tupVs,xZ,ztt e2,zts hv]
   ·exact h3 s hs
  ·rw[am]
   rcases az.mp hs with rfl | hs
   ·cases e;exact ar ..
   ·exact bc _ (h4 s hs kd' r' e)
section
variable {shl:List Sh} {skl:List Sk}
theorem zi8 {s:Sh}(h:uZ s){kd:Str}{r:List PV}(e:s.2.1= .tup (.str kd::r)):kd= "last" ∨kd= "sum" ∨kd= "bag" ∨kd= "row" ∨kd= "told" :=by
 obtain⟨kd',r',hv,e1,e2,_⟩:=h;rw[e]at e1;cases e1;rcases e2 with⟨h | h | h | h,_⟩ | ⟨h,_⟩
 ·exact .inl h
 ·exact .inr (.inl h)
 ·exact .inr (.inr (.inl h))
 ·exact .inr (.inr (.inr (.inl h)))
 ·exact .inr (.inr (.inr (.inr h)))
theorem zo0 (hsh: ∀s∈shl,uZ s)(hn:(skl.map (·.1)).Nodup)(hk: ∀s∈shl,∀kd r,s.2.1= .tup (.str kd::r)->(s.1,kd)∈skl.map (λk=>(k.1,k.2.1))){l:Lf}(h:q9 shl l):fX (uE skl) l:=by
 obtain⟨s,hs,kd,⟨r,er⟩,h⟩:=h;have hv:=zcH hn (hk s hs kd r er);rcases h with⟨rfl,t,rfl⟩ | ⟨rfl,rfl⟩ | ⟨n1,n2,rfl⟩
 ·exact⟨_,hv,ar ..⟩
 ·exact⟨_,hv,ar ..⟩
 ·refine⟨_,hv,?_⟩
  show kd∈(["last","sum","told"]:List Str);rcases zi8 (hsh s hs) er with rfl | rfl | rfl | rfl | rfl
  ·exact ar ..
  ·exact bc _ (ar ..)
  ·exact absurd rfl n1
  ·exact absurd rfl n2
  ·exact bc _ (bc _ (ar ..))
theorem zrR (hsh: ∀s∈shl,uZ s)(hn:(skl.map (·.1)).Nodup)(hk: ∀s∈shl,∀kd r,s.2.1= .tup (.str kd::r)->(s.1,kd)∈skl.map (λk=>(k.1,k.2.1))){r:Rh}(h:qB shl r):zeC (uE skl) r:=by
 cases r with
 | split n=>trivial
 | join n=>trivial
 | pl r=>
  obtain⟨h1,h2,h3⟩:=h;have tm: ∀{x:Tm Lf},o4 shl x->eM (uE skl) x:=λ{x} t=>⟨Tm.ok_mono (λl hl=>zo0 hsh hn hk hl) t.1,t.2⟩;refine⟨λx e=>tm (h1 x e),λs e=> ?_,λx e=>tm (h2 x e)⟩;obtain⟨sx,hs,rfl,kd,r',er,hk'⟩:=h3 s e;refine⟨kd,zcH hn (hk sx hs kd r' er),?_⟩;have five:=zi8 (hsh sx hs) er;obtain⟨g,d⟩:=r;cases d with
  | tell x=>exact hk'.elim
  | bag up a b=>rw[show kd= "bag" from hk'];exact ar ..
  | more a x=>rw[show kd= "sum" from hk'];exact ar ..
  | lay a x b=>rw[show kd= "row" from hk'];exact ar ..
  | drop a x=>rw[show kd= "row" from hk'];exact ar ..
  | set a x=>
   obtain⟨k1,k2,k3⟩:=hk';show kd∈(["last","told"]:List Str);rcases five with rfl | rfl | rfl | rfl | rfl
   ·exact ar ..
   ·exact absurd rfl k3
   ·exact absurd rfl k1
   ·exact absurd rfl k2
   ·exact bc _ (ar ..)
end
def u3 (sh:List Sn)(h0:Hd)(hs:List Hd):Prop:= ∃(skl:List Sk) (en:Str->List Str) (rj:Str->Nat),sh=skl.map wY/\fY skl h0 hs/\sI (h0::hs)/\xV (h0::hs) en rj/\∀s∈skl,xZ (yH (wY s))=true
theorem jL {shl:List Sh}{h0:Hd}{hs:List Hd}{en:Str->List Str}{rj:Str->Nat}(hsh: ∀s∈shl,uZ s)(hn:(shl.map (·.1)).Nodup)(hl:shl.length<=100)(O:sI (h0::hs))(G:xV (h0::hs) en rj)(hr: ∀h∈h0::hs,∀r∈h.2,qB shl r):u3 (shl.map pN) h0 hs:=by
 obtain⟨skl,h1,h2,h3,h4⟩:=zkq hsh;have hn':(skl.map (·.1)).Nodup:=by rw[h2];exact hn
 refine⟨skl,en,rj,h1,⟨hn',?_,O.hn,O.hl,O.rl,G.sn,λy hy=>G.st y hy,λh hh y hy=> ?_,λh hh r hr'=>zrR hsh hn' h4 (hr h hh r hr')⟩,O,G,h3⟩
 ·have:=congrArg List.length h2
  rw[ac,ac]at this;omega
 ·have:=(G.je y).mp (gq.mpr ⟨h,hh,db.mpr ⟨_,hy,rfl⟩⟩)
  obtain⟨k,hk,rfl⟩:=bv.mp this;exact cf (lq hk)
section
variable {h0:Hd} {hs hs':List Hd} {g:Hd->Hd} {en:Str->List Str} {rk:Str->Nat}
theorem ziI (p:hs'.Perm (hs.map g))(g1: ∀h,(g h).1=h.1)(gs: ∀h,(g h).2.filterMap Rh.sp=h.2.filterMap Rh.sp)(gl: ∀h,(g h).2.length<=h.2.length)(O:sI hs):sI hs':=by
 have en:(hs.map g).map (·.1)=hs.map (·.1):=by rw[bt];exact jg λh _=>g1 h
 have pn:(hs'.map (·.1)).Perm (hs.map (·.1)):=by rw[<- en];exact p.map _
 have hn':(hs'.map (·.1)).Nodup:=pn.nodup_iff.mpr O.hn;have qE: ∀h'∈hs',∃h∈hs,h'=g h:=λh' m=>by
  obtain⟨h,hh,e⟩:=bv.mp (p.mem_iff.mp m);exact⟨h,hh,e.symm⟩
 have kd: ∀n∈hs'.map (·.1),n∈hs.map (·.1)/\kids Rh.sp hs' n=kids Rh.sp hs n:=λn hm=>by
  obtain⟨h',m,rfl⟩:=bv.mp hm;obtain⟨h,hh,rfl⟩:=qE h' m;refine⟨pn.mem_iff.mp hm,?_⟩;rw[tD hn' m,gs h,g1 h,tD O.hn hh]
 obtain⟨rk,R,h7⟩:=O.rk;refine⟨hn',by rw[p.length_eq,ac];exact O.hl,λh' m=> ?_,rk,⟨λn hm k hk=> ?_,λn hm k hk=> ?_,λn hm=> ?_⟩,λn hm=>h7 n (kd n hm).1⟩
 ·obtain⟨h,hh,rfl⟩:=qE h' m
  exact bf (gl h) (O.rl h hh)
 ·rw[(kd n hm).2]at hk
  exact pn.mem_iff.mpr (R.sub n (kd n hm).1 k hk)
 ·rw[(kd n hm).2]at hk
  exact R.down n (kd n hm).1 k hk
 ·rw[(kd n hm).2];exact R.few n (kd n hm).1
theorem zie {f:Rh->Option Str}(p:hs'.Perm (hs.map g))(gf: ∀h,(g h).2.filterMap f=h.2.filterMap f):((g h0::hs').flatMap λh=>h.2.filterMap f).Perm ((h0::hs).flatMap λh=>h.2.filterMap f):=by
 rw[da,da,gf h0];refine fv _ ((p.flatMap_right _).trans ?_);rw[ni];have:(λh=>(g h).2.filterMap f)=λh:Hd=>h.2.filterMap f:=funext gf;rw[this]
theorem ziH (p:hs'.Perm (hs.map g))(g1: ∀h,(g h).1=h.1)(gs: ∀h,(g h).2.filterMap Rh.sp=h.2.filterMap Rh.sp)(gj: ∀h,(g h).2.filterMap Rh.jn=h.2.filterMap Rh.jn)(gh: ∀h,xG en (g h).2=xG en h.2)(gv: ∀h,HV en h.2->HV en (g h).2)
  (G:xV (h0::hs) en rk):xV (g h0::hs') en rk:=by
 have qE: ∀h'∈g h0::hs',∃h∈h0::hs,h'=g h:=λh' m=>by
  rcases az.mp m with rfl | m
  ·exact⟨h0,ar ..,rfl⟩
  ·obtain⟨h,hh,e⟩:=bv.mp (p.mem_iff.mp m)
   exact⟨h,bc _ hh,e.symm⟩
 have tl: ∀y,y∈hs'.map (·.1)↔y∈hs.map (·.1):=λy=>by
  rw[(p.map _).mem_iff,bt];have:((λh:Hd=>h.1) ∘ g)=λh=>h.1:=funext g1;rw[this]
 have pj:=zie (h0:=h0) p gj;have ps:=zie (h0:=h0) p gs;refine⟨λh' m=> ?_,λh t e=> ?_,pj.nodup_iff.mpr G.jn,λy=> ?_,λh' m y hy=> ?_,λh' m=> ?_,ps.nodup_iff.mpr G.sn,λy hy=> ?_⟩
 ·obtain⟨h,hh,rfl⟩:=qE h' m
  have:=G.hb h hh;exact⟨by rw[gh h,g1 h];exact this.1,gv h this.2⟩
 ·cases e
  rw[g1 h0];exact G.root h0 hs rfl
 ·rw[pj.mem_iff,G.je y];exact(tl y).symm
 ·obtain⟨h,hh,rfl⟩:=qE h' m
  rw[g1 h];have:y∈(g h).2.filterMap Rh.jn:=db.mpr ⟨_,hy,rfl⟩;rw[gj h]at this;obtain⟨r,hr,e⟩:=db.mp this;have e2:r= .join y:=by cases r <;> cases e;rfl
  exact G.jr h hh y (e2▸hr)
 ·obtain⟨h,hh,rfl⟩:=qE h' m
  rw[g1 h];exact G.r7 h hh
 ·exact(tl y).mpr (G.st y (ps.mem_iff.mp hy))
end
def Rh.sj:Rh->Bool | .pl _=>false | _=>true
def so (h:Hd):Hd:=(h.1,h.2.filter Rh.sj)
theorem nO {f:Rh->Option Str}(hf: ∀r,f (.pl r)=none): ∀l:List Rh,(l.filter Rh.sj).filterMap f=l.filterMap f
 | []=>rfl
 | r::l=>by
  cases r with
  | pl r=>rw[mo (by simp[Rh.sj]),bx,hf r];exact nO hf l
  | split n=>rw[jf rfl,bx,bx,nO hf l]
  | join n=>rw[jf rfl,bx,bx,nO hf l]
theorem zks {en:Str->List Str}(l:List Rh):xG en (l.filter Rh.sj)=xG en l:=by
 unfold xG;have: ∀(l:List Rh) (a:List Str),(l.filter Rh.sj).foldl (hbS en) a=l.foldl (hbS en) a:=by
  intro l
  induction l with
  | nil=>intro a;rfl
  | cons r l ih=>
   intro a;cases r with
   | pl r=>rw[mo (by simp[Rh.sj]),gb];exact ih a
   | split n=>rw[jf rfl,gb,gb];exact ih _
   | join n=>rw[jf rfl,gb,gb];exact ih _
 exact this l []
theorem zsu {en:Str->List Str}{l:List Rh}(h:HV en l):HV en (l.filter Rh.sj):=λA x B e=>by
 obtain⟨l1,l2,rfl,rfl,e2⟩:=List.filter_eq_append_iff.mp e;obtain⟨l3,l4,rfl,e3,_,_⟩:=List.filter_eq_cons_iff.mp e2;have:=h (l1++l3) x l4 (by rw[bh]);rw[<- zks (en:=en) (l1++l3),List.filter_append]at this;have z:l3.filter Rh.sj= []:=ud.mpr λa ha=>by simpa using e3 a ha
 rw[z,cn]at this;exact this
theorem zij {shl:List Sh}{n:Str}(hsh: ∀s∈shl,uZ s)(hn:(shl.map (·.1)).Nodup)(hl:shl.length<=100):u3 (shl.map pN) (n,[]) []:=by
 refine jL (en:=λ_=> []) (rj:=λ_=>0) hsh hn hl ⟨by simp,by simp,λh m=> ?_,λ_=>0,⟨λm hm k hk=> ?_,λm hm k hk=> ?_,λm hm=> ?_⟩,λ_ _=>dg _⟩ ⟨λh m=> ?_,λh t e=>rfl,by simp,λy=>by simp,λh m y hy=> ?_,λh m=>dg _,by simp,λy hy=> ?_⟩ λh m r hr=> ?_
 ·rw[aj.mp m];exact dg _
 ·rw[pi,aj]at hm
  rw[hm,tD (h:=(n,[])) (by simp) (by simp)]at hk;cases hk
 ·rw[pi,aj]at hm
  rw[hm,tD (h:=(n,[])) (by simp) (by simp)]at hk;cases hk
 ·rw[pi,aj]at hm
  rw[hm,tD (h:=(n,[])) (by simp) (by simp)];exact dg _
 ·rw[aj.mp m];exact⟨rfl,λA x B e=>by cases A <;> cases e⟩
 ·rw[aj.mp m]at hy;cases hy
 ·simp at hy
 ·rw[aj.mp m]at hr;cases hr
def lQ:zQ:=λxs st Q=> ∃ns:List Int,xs= [.lst (ns.map PV.int)]/\st= []/\ns.length<=63/\∀s,Q (.bl true) s
def sjF:PV->Option PV:=λx=>match x with | .tup (k::r)=>if yF k [.str "split",.str "join"]then some (.tup (k::r))else none | _=>none
theorem zkp (r:Rh):sjF r.pv=if r.sj then some r.pv else none:=by
 have i1:yF (.str "split") [PV.str "split",.str "join"]=true:=by unfold yF;simp[u9]
 have i2:yF (.str "join") [PV.str "split",.str "join"]=true:=by unfold yF;simp[u9]
 cases r with
 | split n=>show(if yF (.str "split") [PV.str "split",.str "join"]then some (Rh.split n).pv else none)=_;rw[i1];rfl
 | join n=>show(if yF (.str "join") [PV.str "split",.str "join"]then some (Rh.join n).pv else none)=_;rw[i2];rfl
 | pl r=>
  obtain⟨k,more,e,_,h⟩:=zcU r;have e':(Rh.pl r).pv= .tup (.str k::more):=e;rw[e'];show(if yF (.str k) [PV.str "split",.str "join"]then some (PV.tup (.str k::more))else none)=_;rw[h];rfl
theorem zko: ∀l:List Rh,(l.map Rh.pv).filterMap sjF=(l.filter Rh.sj).map Rh.pv
 | []=>rfl
 | r::l=>by
  rw[am,bx,zkp,zko l];cases h:r.sj with
  | true=>rw[jf h];rfl
  | false=>rw[mo (by rw[h];exact dm)];rfl
theorem znE {shl:List Sh}{h0:Hd}{hs:List Hd}{en:Str->List Str}{rj:Str->Nat}(hsh: ∀s∈shl,uZ s)(hn:(shl.map (·.1)).Nodup)(hl:shl.length<=100)(O:sI (h0::hs))(G:xV (h0::hs) en rj)(hr: ∀h∈h0::hs,∀r∈h.2,qB shl r):
  u3 ((shl.map pN).reverse) h0 hs.reverse:=by
 have p:hs.reverse.Perm (hs.map id):=by rw[xb];exact qf hs
 have pa:(h0::hs.reverse).Perm ((h0::hs).map id):=by rw[am];exact p.cons _
 have ps:shl.reverse.Perm shl:=qf shl;rw[<- jm];refine jL (shl:=shl.reverse) (λs m=>hsh s (ps.mem_iff.mp m)) ((ps.map _).nodup_iff.mpr hn) (by rw[cm];exact hl) (ziI pa (λ_=>rfl) (λ_=>rfl) (λ_=>ao _) O) (ziH (g:=id) p (λ_=>rfl) (λ_=>rfl) (λ_=>rfl) (λ_=>rfl) (λ_ h=>h) G) λh m r hr'=> ?_;have m':h∈h0::hs:=by rw[xb]at pa;exact pa.mem_iff.mp m
 have:=hr h m' r hr';cases r with
 | pl r=>
  have mv: ∀{s},s∈shl->s∈shl.reverse:=λ{s} z=>ps.mem_iff.mpr z;have lf: ∀{l},q9 shl l->q9 shl.reverse l:=λ{l} ⟨s,hs,z⟩=>⟨s,mv hs,z⟩;have tm: ∀{x},o4 shl x->o4 shl.reverse x:=λ{x} t=>⟨Tm.ok_mono (λl hl=>lf hl) t.1,t.2⟩;obtain⟨z1,z2,z3⟩:=this;exact⟨λx e=>tm (z1 x e),λx e=>tm (z2 x e),λs e=>let⟨sx,hs,z⟩:=z3 s e;⟨sx,mv hs,z⟩⟩
 | split n=>trivial
 | join n=>trivial
theorem znF {h0:Hd}{hs:List Hd}{en:Str->List Str}{rj:Str->Nat}(O:sI (h0::hs))(G:xV (h0::hs) en rj):u3 [] (so h0) (hs.map so):=by
 have gl: ∀h:Hd,(so h).2.length<=h.2.length:=λh=>nj ..;refine jL (shl:= []) (λs m=>by cases m) (by simp) (by simp) (ziI (g:=so) (ur _) (λ_=>rfl) (λh=>nO (λ_=>rfl) h.2) gl O) (ziH (g:=so) (ur _) (λ_=>rfl) (λh=>nO (λ_=>rfl) h.2) (λh=>nO (λ_=>rfl) h.2) (λh=>zks h.2) (λh z=>zsu z) G) λh m r hr=> ?_;have: ∃k:Hd,h=so k:=by
  rcases az.mp m with rfl | m
  ·exact⟨h0,rfl⟩
  ·obtain⟨k,_,e⟩:=bv.mp m;exact⟨k,e.symm⟩
 obtain⟨k,rfl⟩:=this;have:=(kj.mp hr).2;cases r with
 | pl r=>cases this
 | split n=>trivial
 | join n=>trivial
section
variable {P:Program} {w:World} {K:Frag} {mg:Str->Option Value} {base:Heap}
theorem zpD {f:Addr}{fd:FuncData}(M:Mo w K mg)(F:yD K "deed_of" "deed_of" gF f fd):zU P w K mg base y3 1 f fd ["row"] (y2 K zsx):=by
 refine yW 0 F zsc (λxs st Q h=>by obtain⟨r,rfl,_⟩:=h;rfl) ⟨_,λcdv A outer s H E hr=>(zA (y9 (qc (yV hr) (qx hr (qv 0) z9) zH) (zF (yB (qx hr (qv 0) z9))) yC)
   (zA (y9 (uH (pC hr) (qx hr (qv 0) z9) (y4 (z4 zH (z4 zH z8))) (by rfl)) (zF (yB mY)) yC)
   (zF (yB (qv 0))))),λxs st Q h=> ?_⟩
 obtain⟨r,rfl,q⟩:=h;have n1:(("split" :Str)==("when" :Str))=false:=by decide+kernel
 have n2:(("join" :Str)==("when" :Str))=false:=by decide+kernel
 have i1:yF (.str "split") [PV.str "split",.str "join"]=true:=by unfold yF;simp[u9]
 have i2:yF (.str "join") [PV.str "split",.str "join"]=true:=by unfold yF;simp[u9]
 have fl: [PV.str "split",PV.str "join"].all xD=true:=rfl;cases r with
 | split n=>
  unfold Rh.pv;symm;simp? only[n1];symm;simp? only[xJ,wX,xD,i1,fl];exact q
 | join n=>
  unfold Rh.pv;symm;simp? only[n2];symm;simp? only[xJ,wX,xD,i2,fl];exact q
 | pl r=>
  obtain⟨g,d⟩:=r;have hq:Q d.pv st:=q;cases g with
  | none=>
   obtain⟨k,more,e,k1,k2⟩:=d.form2;show vY _ _ _ (sY _ [d.pv]) _;rw[e]at hq⊢
   symm;simp? only[k1];symm;simp? only[xJ,wX,xD,k2,fl];exact hq
  | some x=>
   show vY _ _ _ (sY _ [.tup [.str "when",x5 x,d.pv]]) _;symm;simp? only[beq_self_eq_true];exact znt hq
theorem zpQ {f:Addr}{fd:FuncData}(M:Mo w K mg)(F:yD K "shelf_of" "shelf_of" gW f fd):zU P w K mg base y3 1 f fd ["deed"] (y2 K zs9):=by
 refine yW 0 F zsh (λxs st Q h=>by obtain⟨d,rfl,_⟩:=h;rfl) ⟨_,λcdv A outer s H E hr=>(zA (y9 (qc (yV hr) (qx hr (qv 0) z9) zH) (zF (yB mY)) yC)
   (zF (yB (qx hr (qv 0) z9)))),λxs st Q h=> ?_⟩
 obtain⟨d,rfl,q⟩:=h;cases hd:d.nm with
 | none=>
  rw[hd]at q;cases d with
  | tell x=>
   unfold Dd.pv;symm;simp? only[beq_self_eq_true];exact q
  | bag up a b=>cases hd
  | set a x=>cases hd
  | more a x=>cases hd
  | lay a x b=>cases hd
  | drop a x=>cases hd
 | some s=>
  rw[hd]at q;obtain⟨k,more,e,_,k2⟩:=d.form hd;rw[e];symm;simp? only[k2];exact q
theorem zpS {f:Addr}{fd:FuncData}(M:Mo w K mg)(F:yD K "terms_in" "terms_in" gY f fd):zU P w K mg base y3 1 f fd ["term"] (y2 K zs_):=by
 refine yW 0 F zsj (λxs st Q h=>by obtain⟨x,rfl,_⟩:=h;rfl) ⟨_,λcdv A outer s H E hr=>(zA (y9 (qc (yV hr) (qx hr (qv 0) z9) zH) (zF (yB (vG (qv 0) (wS z9) vH))) yC)
   (zA (y9 (qc (yV hr) (qx hr (qv 0) z9) zH) (zF (yB (vG (qv 0) (wS z9) vH))) yC)
   (zF (yB (y4 z8))))),λxs st Q h=> ?_⟩
 obtain⟨x,rfl,q⟩:=h;have o1:(("op" :Str)== "op")=true:=by decide+kernel
 have o2:(("if" :Str)== "op")=false:=by decide+kernel
 have o3:(("if" :Str)== "if")=true:=by decide+kernel
 cases x with
 | num k=>
  have a1:(("num" :Str)== "op")=false:=by decide+kernel
  have a2:(("num" :Str)== "if")=false:=by decide+kernel
  unfold x5 Tm.pv;symm;simp? only[a1];symm;simp? only[a2];exact q
 | lf l=>
  obtain⟨k,more,e,_,a1,a2⟩:=ziG l;have e':x5 (.lf l)= .tup (.str k:: .str l.nm::more):=e;rw[e'];symm;simp? only[a1];symm;simp? only[a2];exact q
 | op s a b=>
  unfold x5 Tm.pv;symm;simp? only[o1];exact q
 | ite a b c=>
  unfold x5 Tm.pv;symm;simp? only[o2];symm;simp? only[o3];exact q
theorem zpR {f:Addr}{fd:FuncData}(M:Mo w K mg)(F:yD K "term_of" "term_of" gX f fd):zU P w K mg base y3 1 f fd ["deed"] (y2 K zsA):=by
 refine yW 0 F zsi (λxs st Q h=>by obtain⟨d,rfl,_⟩:=h;rfl) ⟨_,λcdv A outer s H E hr=>(zA (y9 (qc (yV hr) (qx hr (qv 0) z9) zH) (zF (yB (qx hr (qv 0) z9))) yC)
   (zA (y9 (uH (pC hr) (qx hr (qv 0) z9) (y4 (z4 zH (z4 zH z8))) (by rfl)) (zF (yB mY)) yC)
   (zF (yB (qx hr (qv 0) z9))))),λxs st Q h=> ?_⟩
 obtain⟨d,rfl,q⟩:=h;have hin: ∀{k:Str} {st:z7} {Q:K3},xJ false (.str k) (.tup [PV.str "in",.str "out"]) st Q=((xD (.str k)=true/\[PV.str "in",PV.str "out"].all xD=true)/\Q (.bl (yF (.str k) [PV.str "in",.str "out"])) st):=λ{k st Q} =>rfl;have fl: [PV.str "in",PV.str "out"].all xD=true:=rfl;have fs: ∀k:Str,xD (.str k)=true:=λ_=>rfl;have t1:(("tell" :Str)== "tell")=true:=by decide+kernel
 have n1:(("in" :Str)== "tell")=false:=by decide+kernel
 have n2:(("out" :Str)== "tell")=false:=by decide+kernel
 have n3:(("set" :Str)== "tell")=false:=by decide+kernel
 have n4:(("more" :Str)== "tell")=false:=by decide+kernel
 have n5:(("lay" :Str)== "tell")=false:=by decide+kernel
 have n6:(("drop" :Str)== "tell")=false:=by decide+kernel
 have out: ∀{k:Str},k∉(["in","out"]:List Str)->yF (.str k) [.str "in",.str "out"]=false:=λ{k} hk=>by
  have e:=oN (w:=k) (ws:= ["in","out"]);rw[am,am,ic]at e;rw[e];exact decide_eq_false hk
 have i1:yF (.str "in") [PV.str "in",.str "out"]=true:=by unfold yF;simp[u9]
 have i2:yF (.str "out") [PV.str "in",.str "out"]=true:=by unfold yF;simp[u9]
 have i3:yF (.str "set") [PV.str "in",.str "out"]=false:=out (by decide+kernel);have i4:yF (.str "more") [PV.str "in",.str "out"]=false:=out (by decide+kernel);have i5:yF (.str "lay") [PV.str "in",.str "out"]=false:=out (by decide+kernel);have i6:yF (.str "drop") [PV.str "in",.str "out"]=false:=out (by decide+kernel);cases d with
 | tell x=>
  unfold Dd.pv;symm;simp? only[t1];exact mO q
 | bag up a b=>
  cases up with
  | true=>
   unfold Dd.pv;symm;simp? only[n1];symm;simp? only[hin,i1,fl,fs];exact q
  | false=>
   unfold Dd.pv;symm;simp? only[n2];symm;simp? only[hin,i2,fl,fs];exact q
 | set a x=>
  unfold Dd.pv;symm;simp? only[n3];symm;simp? only[hin,i3,fl,fs];exact mO q
 | more a x=>
  unfold Dd.pv;symm;simp? only[n4];symm;simp? only[hin,i4,fl,fs];exact mO q
 | lay a x b=>
  unfold Dd.pv;symm;simp? only[n5];symm;simp? only[hin,i5,fl,fs];exact mO q
 | drop a x=>
  unfold Dd.pv;symm;simp? only[n6];symm;simp? only[hin,i6,fl,fs];exact mO q
theorem nd0:(["program","kind","named","hand","row"]:List Str).Nodup:=by decide+kernel
theorem zpO {f:Addr}{fd:FuncData}(M:Mo w K mg)(F:yD K "named_by_hands" "named_by_hands" lP f fd):zU P w K mg base y3 1 f fd ["program","kind"] (y2 K zs6):=by
 refine yW 0 F zd3 (λxs st Q h=>by obtain⟨sh,hs,kind,f,rfl,_⟩:=h;rfl) ⟨_,λcdv A outer s H E hr=>(zA (qz 2 zd3.nd iI)
   (zA (vV dh rfl (wQ (qx hr (qv 0) z9)) (qn 3 zd3.nd) (zF (vI (qN (own:= ["row"]) (tP (fsc:=zV lP) (N:= ["program","kind","named","hand"]) (N':= ["program","kind","named","hand"]) rfl rfl (by decide+kernel)) rfl (wQ (qx hr (qv 3) z9)) (λC s H fp pins=>(qn 4 nd0)) (λC s H fp pins=>iJ (qc (yV hr) (qx hr (qv 4) z9) (qv 1))) (λC s H fp pins=>(qx hr (qv 4) z9))) (tY hr (qv 2) (qx hr (qv 3) z9)))))
   (zF (yB (qv 2))))),λxs st Q h=> ?_⟩
 obtain⟨sh,hs,kind,f,rfl,hf,hn,hl,q⟩:=h;symm
 ac_nf
 symm;unfold yZ
 ac_nf
 refine vQ (λk env s=> ∃v:Option PV,env= [some (yZ sh hs),some (.str kind),some (.obj st.length),v]/\s=st++ [.dct (tF f (hs.take k))]) ⟨none,rfl,rfl⟩ ?_ ?_
 ·rintro k x env s hx ⟨v,rfl,rfl⟩
  obtain⟨h,hh,rfl⟩:=wV hx;have hnew:(Sum.inr h.1:z6)∉(tF f (hs.take k)).map (·.1):=by
   unfold tF;rw[bt];intro z;obtain⟨h',hm',e⟩:=bv.mp z;obtain⟨i,hi⟩:=bi.mp hm';have hik:i < k:=by have:=(ad.mp hi).1;rw[cj]at this;omega
   rw[dv hik]at hi;have e1:h'.1=h.1:=io e;have:=(du (i:=i) (j:=k) (l:=hs.map (·.1)) (by rw[ac];exact(ad.mp hi).1) hn).mp (by rw[cg,cg,hi,hh,sw,sw,e1]);omega
  have hkl:(tF f (hs.take k)).length<=1000:=by unfold tF;rw[ac,cj];omega
  unfold y8 yH uB
  ac_nf
  refine rJ (oJ kind) (λj y e hy he=> ?_) ?_
  ·obtain⟨r,hr,rfl⟩:=wV hy
   obtain⟨y1,rfl⟩:=rO he;obtain⟨k1,x1,more,e1,ex⟩:=zka r;have hfk:oJ kind r.pv=if k1==kind then some x1 else none:=by rw[e1];rfl
   rw[e1]at hy hfk⊢
   ac_nf
   cases hb:(k1==kind)with
   | true=>
    rw[hb]at hfk
    ac_nf
    exact⟨ex,CP.yes (e':= [_]) hy hfk rfl⟩
   | false=>
    rw[hb]at hfk
    ac_nf
    exact CP.no (e':= [_]) hy hfk rfl
  ·rw[zcs hf]
   ac_nf
   exact⟨ky hkl (by decide),_,rfl,by rw[mX hnew,qS hh];unfold tF;rw[av];rfl⟩
 ·rintro env s ⟨v,rfl,rfl⟩
  rw[ac,bz (ao _)]
  ac_nf
  exact q
theorem nd1:(["program","splits","order","waiting","word","hand"]:List Str).Nodup:=by decide+kernel
theorem zjp {f:Addr}{fd:FuncData}(M:Mo w K mg)(F:yD K "in_split_order" "in_split_order" lM f fd):zU P w K mg base y3 2 f fd ["program"] (y2 K zd_):=by
 obtain⟨_,_,ze0,zm6,zoR⟩:=M.named_by_hands;have zlL:= @zpO P w K mg base _ _ M ze0;refine yW 0 F lI (λxs st Q h=>by obtain⟨sh,h0,hs,rk,rfl,_⟩:=h;rfl) ⟨_,λcdv A outer s H E hr=>have hr1:zL 1 _:=hr.mono (by decide);(zA (qz 1 lI.nd (qk zlL hr1 zoR ze0 zm6 (z4 (qv 0) (z4 zH z8))))
   (zA (qz 2 lI.nd (rS z8))
   (zA (zrz (i0:=3) (own:= ["hand"]) (tP (fsc:=zV lM) (N:= ["program","splits","order","waiting","word"]) (N':= ["program","splits","order","waiting","word"]) rfl rfl (by decide+kernel)) lI.nd rfl (Or.inl rfl) rfl (wQ (vG (qx hr (qv 0) z9) vH (wS z9))) (λC s H fp pins=>(qn 5 nd1)) (λC s H fp pins=>pD) (λC s H fp pins=>(qx hr (qv 5) z9)))
   (zA (zjP dh (pF (qv 3)) (zA (qz 4 lI.nd (zrm cb np nq (by decide) zpw (qv 3)))
   (zA (xC (wO cb cu cw (by decide) tG (qv 2) (z4 (qv 4) z8)))
   (zF (xC (wO cb rg rh (by decide) zjf (qv 3) (z4 (zro rfl (by rfl) M.list (by rfl) M.reversed (qx hr (qv 1) (qv 4))) z8)))))))
   (zF (yB (wP (rR rfl) (by rfl) M.tuple rE (z4 (qv 2) z8)))))))),λxs st Q h=> ?_⟩
 obtain⟨sh,h0,hs,rk,rfl,hn,hl,R,hr7,q⟩:=h;obtain⟨all,eall⟩: ∃all,h0::hs=all:=⟨_,rfl⟩;have h0m:h0.1∈all.map (·.1):=by rw[<- eall];exact ar ..
 have hal:all.length<=1000:=by rw[<- eall,bq];omega
 rw[eall]at hn R hr7 q⊢
 symm
 ac_nf
 refine⟨sh,all,"split",Rh.sp,rfl,.inl ⟨rfl,rfl⟩,hn,hal,?_⟩
 ac_nf
 symm
 ac_nf
 symm;unfold yZ
 ac_nf
 rw[show((1:Int))=((1:Nat):Int)from rfl,oA,<- mz,<- eall,List.take_succ_cons,xu,eall];refine rJ nmF (λj y e hy he=> ?_) ?_
 ·obtain⟨h,hh,rfl⟩:=wV hy
  obtain⟨y1,rfl⟩:=rO he;unfold y8 yH at hy⊢
  ac_nf
  exact CP.yes (e':= [_]) hy rfl rfl
 show vY _ _ _ _ (st++ [PO.lst []]++ [PO.lst [PV.str h0.1]]);obtain⟨g,eg⟩: ∃g,kids Rh.sp all=g:=⟨_,rfl⟩;have gv: ∀n∈all.map (·.1),zI (tF Rh.sp all) (.inr n)=some (.lst ((g n).map PV.str)):=λn hn=>by rw[ziV hn,eg]
 rw[eg]at R q;have hbig:(yS g 8 h0.1).length<=960800:=bf (zcN R h0m) (by rw[<- bd7];exact kW (hr7 _ h0m));have g1: ∀{x y:PO},(st++ [x]++ [y])[st.length]?=some x:=λ{x y} =>by rw[bh,aq (ao _),fq];rfl
 have g2: ∀{x y:PO},(st++ [x]++ [y])[st.length+1]?=some y:=λ{x y} =>by rw[bh,aq (by omega),show st.length+1 - st.length=1 by omega];rfl
 have s1: ∀{x y z:PO},(st++ [x]++ [y]).set st.length z=st++ [z]++ [y]:=λ{x y z} =>by rw[bh,fw _ _ (ao _),fq];simp
 have s2: ∀{x y z:PO},(st++ [x]++ [y]).set (st.length+1) z=st++ [x]++ [z]:=λ{x y z} =>by rw[bh,fw _ _ (by omega),show st.length+1 - st.length=1 by omega];simp
 symm;have len1':(st++ [PO.lst []]).length=st.length+1:=by simp
 rw[len1'];refine⟨λm env s=> ∃(wt od:List Str) (v:Option PV),env= [some (.tup [.tup (sh.map yH),.tup (all.map y8)]),some (.dct (tF Rh.sp all)),some (.obj st.length),some (.obj (st.length+1)),v]/\s=st++ [.lst (od.map PV.str)]++ [.lst (wt.map PV.str)]/\(∀n∈wt,n∈all.map (·.1))/\od++wt.reverse.flatMap (yS g 8)=yS g 8 h0.1/\m=(wt.reverse.flatMap (yS g 8)).length,⟨_,[h0.1],[],none,rfl,rfl,λn hn=>by rw[aj.mp hn];exact h0m,by simp,rfl⟩,?_⟩;rintro m env s ⟨wt,od,v,rfl,rfl,hw,ho,rfl⟩;simp? only[g2];rcases List.eq_nil_or_concat wt with rfl | ⟨wt',n,rfl⟩
 ·have ho':od=yS g 8 h0.1:=by simpa using ho
  have t1: ∀{x y:PO},(st++ [x]++ [y]).take st.length=st:=λ{x y} =>by rw[bh,kz (ao _),ig]
  simp? only[g1,t1];rw[ho'];exact q
 ·rw[List.concat_eq_append]at *
  have nm:n∈all.map (·.1):=hw n (by simp);have hgl:((wt'++ [n]).map PV.str).getLast?=some (.str n):=by simp
  have hdl:((wt'++ [n]).map PV.str).dropLast=wt'.map PV.str:=by simp
  have hne:((wt'++ [n]).map PV.str).isEmpty=false:=by simp
  have hst:=iA R nm (show rk n < 8 by have:=hr7 n nm;omega);have hfl:(wt'++ [n]).reverse.flatMap (yS g 8)=n::((g n).flatMap (yS g 8)++wt'.reverse.flatMap (yS g 8)):=by
   rw[fo,List.reverse_singleton,uo,da,hst];rfl
  have hlen:=congrArg List.length ho;rw[hfl,ai,bq,ai]at hlen;have hex:(wt'++(g n).reverse).reverse.flatMap (yS g 8)=(g n).flatMap (yS g 8)++wt'.reverse.flatMap (yS g 8):=by
   rw[fo,vh,jh]
  have hwl: ∀{l:List Str},(∀x∈l,x∈all.map (·.1))->l.length<=(l.flatMap (yS g 8)).length:=λ{l} =>by
   induction l with
   | nil=>intro _;exact ao _
   | cons x l ih=>
    intro h;rw[da,ai,bq];have h1:=ih λy hy=>h y (bc _ hy);have hx:=h x (ar ..);have h2:=iA R hx (show rk x < 8 by have:=hr7 x hx;omega);have h3:1<=(yS g 8 x).length:=by rw[h2,bq];omega
    omega
  have hw': ∀x∈wt'.reverse,x∈all.map (·.1):=λx hx=>hw x (by simp at hx⊢;exact .inl hx);have hg': ∀x∈g n,x∈all.map (·.1):=R.sub n nm;have l1:=hwl hw';have l2:=hwl hg';rw[cm]at l1;simp? only[hne];refine⟨λe s=> ∃(v:Option PV),e= [some (.tup [.tup (sh.map yH),.tup (all.map y8)]),some (.dct (tF Rh.sp all)),some (.obj st.length),some (.obj (st.length+1)),v]/\s=st++ [.lst ((od++ [n]).map PV.str)]++ [.lst ((wt'++(g n).reverse).map PV.str)],?_,?_⟩
  ·rintro e s ⟨v,rfl,rfl⟩
   refine⟨_,?_,wt'++(g n).reverse,od++ [n],v,rfl,rfl,λx hx=> ?_,?_,rfl⟩
   ·rw[hex,hfl,bq];exact nc _
   ·rcases au.mp hx with hx | hx
    ·exact hw x (by simp[hx])
    ·exact hg' x (by simpa using hx)
   ·rw[hex,<- ho,hfl];simp
  ·have gvn:=gv n nm
   have big:(960800:Nat) < sizeLine:=by rw[cx];decide
   symm;simp? only[g2,hgl,hdl,s2];symm;simp? only[g1,s1,ac];refine⟨by omega,?_⟩;simp? only[gvn,g2,s2,ac,cm];refine⟨by omega,_,rfl,by simp⟩
theorem zpF {f:Addr}{fd:FuncData}(M:Mo w K mg)(F:yD K "held_behind" "held_behind" gH f fd):zU P w K mg base y3 1 f fd ["rows","ends"] (y2 K zsz):=by
 refine yW 0 F zdz (λxs st Q h=>by obtain⟨rs,en,ev,kvs,rfl,_⟩:=h;rfl) ⟨_,λcdv A outer s H E hr=>(zA (qz 2 zdz.nd iI)
   (zA (vV dh rfl (wQ (qv 0)) (qn 3 zdz.nd) (zA (y9 (qc (yV hr) (qx hr (qv 3) z9) zH) (zF (vI tX (tY hr (qv 2) (qx hr (qv 3) z9)))) yC)
   (zF (y9 (qc (yV hr) (qx hr (qv 3) z9) zH) (zA (y9 (uH (n9 hr) (qx hr (qv 3) z9) (qv 2) (by rfl)) (zF uG) yC)
   (zA (xC (wO rz uf PySem.F.type_dict_pop (by decide) zpx (qv 2) (z4 (qx hr (qv 3) z9) z8)))
   (zF (xC (wO rz qy PySem.F.type_dict_update (by decide) zp1 (qv 2) (z4 (qx hr (qv 1) (qx hr (qv 3) z9)) z8)))))) yC))))
   (zF (yB (qv 2))))),λxs st Q h=> ?_⟩
 obtain⟨rs,en,ev,kvs,rfl,hev,hl,hv,hj,q⟩:=h;have hix: ∀{y:Str} {v:PV} {o:PO} {Q:K3},zI kvs (.inr y)=some v->rT ev (.str y) (st++ [o]) Q=Q v (st++ [o]):=λ{y v o Q} e=>by
  rcases hev with rfl | ⟨i,rfl,e2⟩
  ·rw[znj,zf4];show xX (zI kvs (.inr y)) _=_;rw[e];rfl
  ·rw[znk,jJ e2,znl,zf4];show xX (zI kvs (.inr y)) _=_;rw[e];rfl
 have hin: ∀{y:Str} {ms:List Str} {Q:K3},xJ true (.str y) (.obj st.length) (st++ [.dct (yG ms)]) Q=Q (.bl (!(zI (yG ms) (.inr y)).isSome)) (st++ [.dct (yG ms)]):=λ{y ms Q} =>by
  unfold xJ wX sK;dsimp only;rw[tV]
  rfl
 have e1:(("split" :Str)== "split")=true:=by decide+kernel
 have e2:(("split" :Str)== "join")=false:=by decide+kernel
 have e3:(("join" :Str)== "split")=false:=by decide+kernel
 have e4:(("join" :Str)== "join")=true:=by decide+kernel
 have big:(40000:Nat) < sizeLine:=by rw[cx];decide
 symm
 ac_nf
 symm
 ac_nf
 refine vQ (λk env s=> ∃(ms:List Str) (v:Option PV),env= [some (.tup (rs.map Rh.pv)),some ev,some (.obj st.length),v]/\s=st++ [.dct (yG ms)]/\u5 ms (xG en (rs.take k))/\ms.length<=1001 * k) ⟨[],none,rfl,rfl,⟨by simp,λx=>by simp[xG]⟩,dg _⟩ ?_ ?_
 ·rintro k x env s hx ⟨ms,v,rfl,rfl,hm,hml⟩
  obtain⟨r,hr,rfl⟩:=wV hx;have hk:=(ad.mp hr).1;have hs:=qS hr;have hmz:ms.length<=30030:=by omega
  cases r with
  | split y=>
   unfold Rh.pv
   ac_nf
   symm;simp? only[e1,zdQ,f8];refine⟨by omega,?_⟩;simp? only[e2];exact⟨_,_,rfl,rfl,by rw[hs];exact hm.split,by have:=zeJ (ms:=ms) (x:=y);omega⟩
  | join y=>
   obtain⟨hi,hr'⟩:=ad.mp hr;have hrs:rs=rs.take k++ .join y::rs.drop (k+1):=by rw[<- hr',fi,dy]
   have hy:y∈ms:=(hm.2 y).mpr (hv _ _ _ hrs);have hvy:zI (yG ms) (.inr y)=some (.bl true):=by rw[nU,if_pos hy]
   obtain⟨ns,hn1,hn2,hn3⟩:=hj y (bi.mpr ⟨k,hr⟩);obtain⟨m2,em,hfl⟩: ∃m2,(ms.filter λz=>decide (z≠y))=m2/\m2.length<=ms.length:=⟨_,rfl,nj ..⟩;have hj2:=hm.join hn2;rw[em]at hj2;unfold Rh.pv
   ac_nf
   symm;simp? only[e3];simp? only[e4];symm;simp? only[hin,hvy];symm;simp? only[zjS];refine⟨st.length,.inr y,.bl true,yG ms,.str y,rfl,rfl,rfl,tV,hvy,?_⟩;rw[pM,zto,em];simp? only[hix hn1,zjT];refine⟨st.length,_,_,rfl,rfl,tV,by rw[f8,f8];omega,?_⟩;rw[pM,zdP];exact⟨_,_,rfl,rfl,by rw[hs];exact hj2,by have:=zeH (ns:=ns) (ms:=m2);omega⟩
  | pl r=>
   obtain⟨k1,more,e,h1,h2⟩:=zqP r;rw[e]
   ac_nf
   symm;simp? only[h1];simp? only[h2];exact⟨_,_,rfl,rfl,by rw[hs];exact hm.pl,by omega⟩
 ·rintro env s ⟨ms,v,rfl,rfl,hm,hml⟩
  rw[ac,bz (ao _)]at hm
  ac_nf
  exact q ms hm
theorem zpE {f:Addr}{fd:FuncData}(M:Mo w K mg)(F:yD K "held_at_ends" "held_at_ends" gG f fd):zU P w K mg base y3 3 f fd ["program"] (y2 K zku):=by
 obtain⟨_,_,m4,eZ,zcE⟩:=M.in_split_order;have fS:= @zjp P w K mg base _ _ M m4;obtain⟨_,_,zes,zmy,zoJ⟩:=M.held_behind;have zlE:= @zpF P w K mg base _ _ M zes;refine yW 0 F gE (λxs st Q h=>by obtain⟨sh,h0,hs,en,rj,rfl,_⟩:=h;rfl) ⟨_,λcdv A outer s H E hr=>have hr1:zL 1 _:=hr.mono (by decide);have hr2:zL 2 _:=hr.mono (by decide);(zA (qz 1 gE.nd (wP (zpq rfl) (by rfl) M.dict j0 (z4 (qx hr (qv 0) z9) z8)))
   (zA (qz 2 gE.nd iI)
   (zA (vV dh rfl (wQ (zrp rfl (by rfl) M.list (by rfl) M.reversed (qk fS hr2 zcE m4 eZ (z4 (qv 0) z8)))) (qn 3 gE.nd) (zF (vI (qk zlE hr1 zoJ zes zmy (z4 (qx hr (qv 1) (qv 3)) (z4 (qv 2) z8))) (tY hr (qv 2) (qv 3)))))
   (zF (yB (qv 2)))))),λxs st Q h=> ?_⟩
 obtain⟨sh,h0,hs,en,rj,rfl,O,G,q⟩:=h;obtain⟨rk,R,h7⟩:=O.rk;obtain⟨all,eall⟩: ∃all,h0::hs=all:=⟨_,rfl⟩;have hl8:=O.hl;have h0n:h0.1∈all.map (·.1):=by rw[<- eall];exact ar ..
 have iso: ∀{Q:K3} {st:z7},Q (.tup ((yS (kids Rh.sp all) 8 h0.1).map PV.str)) st->zd_ [yZ sh all] st Q:=λ{Q st} hq=>⟨sh,h0,hs,rk,by rw[eall],O.hn,by rw[bq]at hl8;omega,R,h7,by rw[eall];exact hq⟩;have reach:=G.reach O.hn R h7 rfl;rw[eall]at O G R h7 q reach⊢
 have hps:(all.map y8).map qK=(rW all).map some:=by unfold rW;rw[bt,bt];rfl
 have hmg:uD [] (rW all)=rW all:=jS (by rw[iy,zrW];exact zc1 O.hn);symm;unfold yZ;simp? only[zdb];refine⟨_,hps,?_⟩;rw[hmg];symm
 ac_nf
 symm;simp? only[ztz];refine iso ?_;obtain⟨l,el⟩: ∃l,yS (kids Rh.sp all) 8 h0.1=l:=⟨_,rfl⟩;have hbig:l.length<=960800:=by rw[<- el];exact bf (zcN R h0n) (by rw[<- bd7];exact kW (h7 _ h0n))
 have big:(960800:Nat) < sizeLine:=by rw[cx];decide
 rw[el]at reach;rw[el];dsimp only;rw[<- jm];refine vQ (λk env s=> ∃(kvs:List (z6×PV)) (v:Option PV),env= [some (.tup [.tup (sh.map yH),.tup (all.map y8)]),some (.dct (rW all)),some (.obj st.length),v]/\s=st++ [.dct kvs]/\kvs.length<=k/\∀w∈l.reverse.take k,fH kvs en w) ⟨[],none,rfl,rfl,ao _,λw hw=>by simp at hw⟩ ?_ ?_
 ·rintro k x env s hx ⟨kvs,v,rfl,rfl,hk,hw⟩
  obtain⟨w,hwk,rfl⟩:=wV hx;obtain⟨hkl,hwk'⟩:=ad.mp hwk;have hkl':=hkl;rw[cm]at hkl';have hsp:l.reverse=l.reverse.take k++w::l.reverse.drop (k+1):=by rw[<- hwk',fi,dy]
  have hlsp:yS (kids Rh.sp all) 8 h0.1=(l.reverse.drop (k+1)).reverse++w::(l.reverse.take k).reverse:=by
   have:=congrArg List.reverse hsp;rw[vh,fo,la]at this;rw[el];exact this.trans (by rw[bh];rfl)
  obtain⟨hwn,hwb⟩:=iB R h7 h0n (show rk h0.1 < 8 by have:=h7 _ h0n;omega) hlsp;obtain⟨h,hh,rfl⟩:=bv.mp hwn;have hrw:=zke O.hn hh;have hhb:=G.hb h hh;simp? only[hrw];refine⟨h.2,en,.obj st.length,kvs,rfl,.inr ⟨_,rfl,tV⟩,O.rl h hh,hhb.2,λy hy=> ?_,λms hms=> ?_⟩
  ·obtain⟨i,hi⟩:=bi.mp hy
   obtain⟨hil,e'⟩:=ad.mp hi;have hs2:h.2=h.2.take i++ .join y::h.2.drop (i+1):=by rw[<- e',fi,dy]
   have:=G.below O.hn R h7 (x:=y) _ h (ao _) hh i (hhb.2 _ _ _ hs2);exact hw y (by simpa using hwb y this)
  ·have hml:ms.length<=1000:=by
    have:=mV (l:=ms) (m:=all.map (·.1)) hms.1 λx hx=>by
     have:=G.tail hh (n:=h.2.length) (x:=x) (by rw[ig];exact(hms.2 x).mp hx);obtain⟨k2,hk2,e2⟩:=bv.mp this;exact bv.mpr ⟨k2,lq hk2,e2⟩
    rw[ac,<- eall]at this;omega
   rw[hhb.1]at hms
   ac_nf
   refine⟨by omega,_,_,rfl,rfl,bf zrg (by omega),λw hw2=> ?_⟩;rw[qS hwk]at hw2;by_cases e:h.1=w
   ·exact⟨ms,by rw[lV,if_pos (by rw[e])],by rw[<- e];exact hms,hml⟩
   ·rcases au.mp hw2 with hw2 | hw2
    ·obtain⟨ns,n1,n2,n3⟩:=hw w hw2
     exact⟨ns,by rw[lV,if_neg λz=>e (io z)];exact n1,n2,n3⟩
    ·exact absurd (aj.mp hw2).symm e
 ·rintro env s ⟨kvs,v,rfl,rfl,hk,hw⟩
  rw[ac,bz (ao _)]at hw
  ac_nf
  exact q kvs λw hwn=>hw w (rb.mpr (reach _ w hwn (ao _)))
theorem nd2:(["program","held","hand"]:List Str).Nodup:=by decide+kernel
theorem zpG {f:Addr}{fd:FuncData}(M:Mo w K mg)(F:yD K "in_order_of_hands" "in_order_of_hands" lK f fd):zU P w K mg base y3 1 f fd ["program","held"] (y2 K zs0):=by
 refine yW 0 F zsd (λxs st Q h=>by obtain⟨sh,hs,ms,rfl,_⟩:=h;rfl) ⟨_,λcdv A outer s H E hr=>(zF (yB (wP (rR rfl) (by rfl) M.tuple rE (z4 (qN (own:= ["hand"]) (tP (fsc:=zV lK) (N:= ["program","held"]) (N':= ["program","held"]) rfl rfl (by decide+kernel)) rfl (wQ (qx hr (qv 0) z9)) (λC s H fp pins=>(qn 2 nd2)) (λC s H fp pins=>iJ (uH (pC hr) (qx hr (qv 2) z9) (qv 1) (by rfl))) (λC s H fp pins=>(qx hr (qv 2) z9))) z8)))),λxs st Q h=> ?_⟩;obtain⟨sh,hs,ms,rfl,q⟩:=h;unfold yZ
 ac_nf
 refine rJ (jM ms) (λj y e hy he=> ?_) ?_
 ·obtain⟨h,hh,rfl⟩:=wV hy
  obtain⟨y1,rfl⟩:=rO he;have hf:jM ms (y8 h)=if h.1∈ms then some (.str h.1)else none:=rfl
  have hin: ∀{Q:K3} {st:z7},xJ false (.str h.1) (.dct (yG ms)) st Q=Q (.bl (zI (yG ms) (.inr h.1)).isSome) st:=λ{Q st} =>rfl;unfold y8 yH uB at hy hf⊢
  by_cases e:h.1∈ms
  ·rw[if_pos e]at hf
   have hv:zI (yG ms) (.inr h.1)=some (.bl true):=by rw[nU,if_pos e]
   simp? only[hin,hv];exact CP.yes (e':= [_]) hy hf rfl
  ·rw[if_neg e]at hf
   have hv:zI (yG ms) (.inr h.1)=none:=by rw[nU,if_neg e]
   simp? only[hin,hv];exact CP.no (e':= [_]) hy hf rfl
 rw[ziv]
 ac_nf
 exact q
theorem zjs {f:Addr}{fd:FuncData}(M:Mo w K mg)(F:yD K "look_for_twice" "look_for_twice" gP f fd):zU P w K mg base y3 1 f fd ["tuples"] (y2 K zs3):=by
 refine yW 0 F zd2 (λxs st Q h=>by obtain⟨l,rfl,_⟩:=h;rfl) ⟨_,λcdv A outer s H E hr=>(zA (qz 1 zd2.nd iI)
   (zF (vV dh rfl (wQ (qv 0)) (qn 2 zd2.nd) (zA (y9 (uH (pC hr) (qx hr (qv 2) z9) (qv 1) (by rfl)) (zF uG) yC)
   (zF (vI tX (tY hr (qv 1) (qx hr (qv 2) z9)))))))),λxs st Q h=> ?_⟩
 obtain⟨l,rfl,hn,hl,q⟩:=h;have big:(1000:Nat) < sizeLine:=by rw[cx];decide
 have hin: ∀{x:Str} {ms:List Str} {Q:K3},xJ false (.str x) (.obj st.length) (st++ [.dct (yG ms)]) Q=Q (.bl (zI (yG ms) (.inr x)).isSome) (st++ [.dct (yG ms)]):=λ{x ms Q} =>by
  unfold xJ wX sK;dsimp only;rw[tV]
  rfl
 symm
 ac_nf
 refine vQ (λk env s=> ∃(ms:List Str) (v:Option PV),env= [some (.tup (l.map yH)),some (.obj st.length),v]/\s=st++ [.dct (yG ms)]/\ms=(l.take k).map (·.1)) ⟨[],none,rfl,rfl,rfl⟩ ?_ ?_
 ·rintro k x env s hx ⟨ms,v,rfl,rfl,hm⟩
  obtain⟨y,hy,rfl⟩:=wV hx;have hk:=(ad.mp hy).1;have hs:=qS hy;have hml:ms.length<=1000:=by rw[hm,ac,cj];omega
  have hni:y.1∉ms:=by
   intro hmem;rw[hm]at hmem;have h1:=List.Nodup.sublist (List.Sublist.map (·.1) (iz (k+1) l)) hn;rw[hs,av,ba]at h1;exact h1.2.2 _ hmem _ (aj.mpr rfl) rfl
  have hv:zI (yG ms) (.inr y.1)=none:=by rw[nU,if_neg hni]
  unfold yH
  ac_nf
  symm;simp? only[hin,hv];simp? only[zdQ,f8];refine⟨by omega,?_⟩;refine⟨_,_,rfl,rfl,?_⟩;rw[hs,av,<- hm];unfold wF;rw[if_neg hni];rfl
 ·rintro env s ⟨ms,v,rfl,rfl,hm⟩
  ac_nf
  exact q
theorem zpL {f:Addr}{fd:FuncData}(M:Mo w K mg)(F:yD K "look_at_named_hand" "look_at_named_hand" gL f fd):zU P w K mg base y3 1 f fd ["row","taken"] (y2 K zs1):=by
 refine yW 0 F zse (λxs st Q h=>by obtain⟨r,i,kvs,n,rfl,_⟩:=h;rfl) ⟨_,λcdv A outer s H E hr=>(zA (y9 (uH (n9 hr) (qx hr (qv 0) z9) (qv 1) (by rfl)) (zF uG) yC)
   (zF (y9 (qc (yV hr) (qx hr (qv 0) z9) zH) (zA (y9 (pF (qx hr (qv 1) (qx hr (qv 0) z9))) (zF uG) yC)
   (zF (vI tX (tY hr (qv 1) (qx hr (qv 0) z9))))) yC))),λxs st Q h=> ?_⟩
 obtain⟨r,i,kvs,n,rfl,hi,hl,h⟩:=h;have hin: ∀{Q:K3},xJ true (.str n) (.obj i) st Q=Q (.bl (!(zI kvs (.inr n)).isSome)) st:=λ{Q} =>by
  unfold xJ wX sK;dsimp only;rw[hi]
  rfl
 have big:(1000:Nat) < sizeLine:=by rw[cx];decide
 rcases h with⟨rfl,hv,q⟩ | ⟨rfl,⟨b,hv⟩,q⟩
 ·have e1:(("split" :Str)== "split")=true:=by decide+kernel
  unfold Rh.pv;symm;simp? only[hin,hv];simp? only[e1];symm;simp? only[hi,hv];exact⟨by omega,q⟩
 ·have e1:(("join" :Str)== "split")=false:=by decide+kernel
  unfold Rh.pv;symm;simp? only[hin,hv];simp? only[e1];exact q
theorem zjq {f:Addr}{fd:FuncData}(M:Mo w K mg)(F:yD K "look_at_shelf" "look_at_shelf" gM f fd):zU P w K mg base y3 1 f fd ["S","manners","fitting"] (y2 K zs2):=by
 refine yW 0 F zsf (λxs st Q h=>by obtain⟨S,fit,mn,rfl,_⟩:=h;rfl) ⟨_,λcdv A outer s H E hr=>(zA (y9 (uH (n9 hr) (qv 0) (qv 1) (by rfl)) (zF uG) yC)
   (zF (y9 (uH (n9 hr) (qx hr (qv 1) (qv 0)) (qv 2) (by rfl)) (zF uG) yC))),λxs st Q h=> ?_⟩
 obtain⟨S,fit,mn,rfl,⟨kd,hv,hk⟩,q⟩:=h;have e:yF (.str kd) (fit.map PV.str)=true:=by rw[oN];exact decide_eq_true hk
 have fs:xD (.str kd)=true:=rfl;symm;simp? only[zjb,hv];simp? only[zpp,zmf,hv,e,fs];exact q
theorem zjr {f:Addr}{fd:FuncData}(M:Mo w K mg)(F:yD K "look_at_term" "look_at_term" gO f fd)(o7:wT K fd ["term","manners"] [])(oW:mg "look_at_term" =some (.ref f)): ∀d,zU P w K mg base y3 (d+2) f fd ["term","manners"] (y2 K (gR d))
 | 0=>⟨λvs H Q E h=>(zky h).elim,λA outer s H args us vs Q E _ _ _ _ h=>(zky h).elim⟩
 | d+1=>by
  have IH:zU P w K mg base y3 (d+2) f fd ["term","manners"] (y2 K (gR d)):=zjr M F o7 oW d;obtain⟨_,_,ze1,zm9,zoW⟩:=M.terms_in;have zlM:= @zpS P w K mg base _ _ M ze1;obtain⟨_,_,m5,dA,zcG⟩:=M.look_at_shelf;have fT:= @zjq P w K mg base _ _ M m5;have m7:=F;obtain⟨aMT,uMT,mMT,dMT,vMT⟩:=M.MT;refine yW 0 F zkl (λxs st Q h=>by obtain⟨x,mn,rfl,_⟩:=h;rfl) ⟨_,λcdv A outer s H E hr=>have hr1:zL 1 _:=hr.mono (by omega);(zA (y9 (zr2 (by rfl) mMT dMT vMT (qx hr (qv 0) z9) (by rfl)) (zF (xC (qk fT hr1 zcG m5 dA (z4 (qx hr (qv 0) z9) (z4 (qv 1) (z4 (zjM (by rfl) mMT dMT vMT (qx hr (qv 0) z9) (λ_ _=>rfl)) z8)))))) yC)
   (zF (vV dh rfl (wQ (qk zlM hr1 zoW ze1 zm9 (z4 (qv 0) z8))) (qn 2 zkl.nd) (zF (xC (qk IH hr oW m7 o7 (z4 (qv 2) (z4 (qv 1) z8)))))))),λxs st Q h=> ?_⟩
  obtain⟨x,mn,rfl,hx,hd,q⟩:=h;refine tZ (λenv s=>env= [some (x5 x),some (.dct mn),none]/\s=st) (λN hN=> ?_) ?_
  ·by_cases hl: ∃l,x= .lf l
   ·obtain⟨l,rfl⟩:=hl
    obtain⟨k,more,e,hv,_⟩:=ziG l;have e':x5 (.lf l)= .tup (.str k:: .str l.nm::more):=e;have hN':=hN _ st ⟨rfl,rfl⟩;rw[e']at hN'⊢
    have hs:(zI mT (.inr k)).isSome=true:=by rw[hv];rfl
    simp? only[zf5,hs];refine ziB hv ?_
    ac_nf
    exact⟨_,_,_,rfl,hx,hN'⟩
   ·obtain⟨k,more,e,hv⟩:=zpk (x:=x) λl z=>hl ⟨l,z⟩
    have hN':=hN _ st ⟨rfl,rfl⟩;rw[e]at hN'⊢
    have hs:(zI mT (.inr k)).isSome=false:=by rw[hv];rfl
    simp? only[zf5,hs];exact hN'
  ·rintro env s ⟨rfl,rfl⟩
   ac_nf
   refine⟨x,rfl,?_⟩
   ac_nf
   refine vQ (λk env s'=>(∃v,env= [some (x5 x),some (.dct mn),v])/\s'=s) ⟨⟨none,rfl⟩,rfl⟩ ?_ ?_
   ·rintro k y env s' hy ⟨⟨v,rfl⟩,rfl⟩
    obtain⟨z,hz,rfl⟩:=wV hy;obtain⟨h1,h2⟩:=Tm.kid_ok hx (bi.mpr ⟨k,hz⟩)
    ac_nf
    exact⟨z,mn,rfl,h1,by omega,⟨_,rfl⟩,rfl⟩
   ·rintro env s' ⟨⟨v,rfl⟩,rfl⟩
    ac_nf
    exact q
theorem zpJ {f:Addr}{fd:FuncData}(M:Mo w K mg)(F:yD K "look_at_doing" "look_at_doing" gJ f fd):zU P w K mg base y3 10 f fd ["row","manners"] (y2 K zkw):=by
 obtain⟨_,_,zeq,zmw,zoH⟩:=M.deed_of;have zlC:= @zpD P w K mg base _ _ M zeq;obtain⟨_,_,fN,zeY,ziT⟩:=M.shelf_of;have ze8:= @zpQ P w K mg base _ _ M fN;obtain⟨_,_,fO,zeZ,ziU⟩:=M.term_of;have ze9:= @zpR P w K mg base _ _ M fO;obtain⟨zn6,zn4,m7,o7,oW⟩:=M.look_at_term;have ze7:zU P w K mg base y3 9 zn6 zn4 ["term","manners"] (y2 K (gR 7)):=zjr M m7 o7 oW 7;obtain⟨_,_,m5,dA,zcG⟩:=M.look_at_shelf;have fT:= @zjq P w K mg base _ _ M m5;obtain⟨aMD,uMD,mMD,dMD,vMD⟩:=M.MD;refine yW 0 F zkk (λxs st Q h=>by obtain⟨r,mn,rfl,_⟩:=h;rfl) ⟨_,λcdv A outer s H E hr=>have hr1:zL 1 _:=hr.mono (by decide);have hr9:zL 9 _:=hr.mono (by decide);(zA (y9 (qc (yV hr) (qx hr (qv 0) z9) zH) (zF (xC (qk ze7 hr9 oW m7 o7 (z4 (qx hr (qv 0) z9) (z4 (qv 1) z8))))) yC)
   (zA (qz 2 zkk.nd (qk zlC hr1 zoH zeq zmw (z4 (qv 0) z8)))
   (zA (y9 (qc zji (qk ze8 hr1 ziT fN zeY (z4 (qv 2) z8)) mY) (zF (xC (qk fT hr1 zcG m5 dA (z4 (qk ze8 hr1 ziT fN zeY (z4 (qv 2) z8)) (z4 (qv 1) (z4 (zjM (by rfl) mMD dMD vMD (qx hr (qv 2) z9) (λ_ _=>rfl)) z8)))))) yC)
   (zF (y9 (qc zji (qk ze9 hr1 ziU fO zeZ (z4 (qv 2) z8)) mY) (zF (xC (qk ze7 hr9 oW m7 o7 (z4 (qk ze9 hr1 ziU fO zeZ (z4 (qv 2) z8)) (z4 (qv 1) z8))))) yC))))),λxs st Q h=> ?_⟩
 obtain⟨r,mn,rfl,⟨hg,hn,ht⟩,q⟩:=h;have w1:(("when" :Str)== "when")=true:=by decide+kernel
 refine tZ (λenv s=>env= [some r.pv,some (.dct mn),none]/\s=st) (λN hN=> ?_) ?_
 ·have hN':=hN _ st ⟨rfl,rfl⟩
  obtain⟨g,d⟩:=r;cases g with
  | none=>
   obtain⟨k,more,e,k1,k2⟩:=d.form2;have e':Rw.pv (none,d)= .tup (.str k::more):=e;rw[e']at hN'⊢
   simp? only[k1];exact hN'
  | some x=>
   obtain⟨h1,h2⟩:=hg x rfl;have e':Rw.pv (some x,d)= .tup [.str "when",x5 x,d.pv]:=rfl;rw[e']at hN'⊢
   simp? only[w1];exact⟨x,mn,rfl,h1,h2,hN'⟩
 rintro env s ⟨rfl,rfl⟩;symm
 ac_nf
 refine⟨.pl r,rfl,?_⟩;have e0:dvP (Rh.pl r).deed=r.2.pv:=rfl;rw[e0];obtain⟨d,ed⟩: ∃d,r.2=d:=⟨_,rfl⟩;rw[ed]at hn ht⊢
 ac_nf
 refine tZ (λenv s'=>env= [some r.pv,some (.dct mn),some d.pv]/\s'=s) (λN hN=> ?_) ?_
 ·have hN':=hN _ s ⟨rfl,rfl⟩
  ac_nf
  refine⟨d,rfl,?_⟩;cases hd:d.nm with
  | none=>
   unfold i8
   ac_nf
   exact hN'
  | some x=>
   unfold i8
   ac_nf
   refine⟨d,rfl,?_⟩;rw[hd];obtain⟨k,more,e,hv⟩:=znc hd;unfold i8;rw[e]at hN'⊢
   ac_nf
   refine ziB hv ?_
   ac_nf
   exact⟨_,_,_,rfl,hn x hd,hN'⟩
 rintro env s' ⟨rfl,rfl⟩
 ac_nf
 refine⟨d,rfl,?_⟩;cases hd:d.tm with
 | none=>
  unfold i9
  ac_nf
  exact q
 | some x=>
  obtain⟨k,more,e⟩:=zkL x;obtain⟨h1,h2⟩:=ht x hd;have e1:i9 (some x)=x5 x:=rfl;have hni:vR (x5 x)=false:=by rw[e];rfl
  rw[e1];show if(!vR (x5 x))=true then _ else _
  rw[if_pos (by rw[hni];rfl)]
  ac_nf
  refine⟨d,rfl,?_⟩;rw[hd,e1]
  ac_nf
  exact⟨x,mn,rfl,h1,h2,by show Q PV.non (List.take (List.length s') s');rw[ig];exact q⟩
theorem nd3:(["program","manners","hand","taken","row","shelf"]:List Str).Nodup:=by decide+kernel
theorem nd4:(["program","manners","?2","taken","row","hand"]:List Str).Nodup:=by decide+kernel
theorem zpM {f:Addr}{fd:FuncData}(M:Mo w K mg)(F:yD K "look_at_rows" "look_at_rows" nN f fd):zU P w K mg base y3 11 f fd ["program"] (y2 K zkx):=by
 obtain⟨_,_,zew,zm3,zoO⟩:=M.look_at_named_hand;have zlI:= @zpL P w K mg base _ _ M zew;obtain⟨_,_,zeu,zm1,zoM⟩:=M.look_at_doing;have zlG:= @zpJ P w K mg base _ _ M zeu;refine yW 0 F lJ (λxs st Q h=>by obtain⟨skl,h0,hs,rfl,_⟩:=h;rfl) ⟨_,λcdv A outer s H E hr=>have hr1:zL 1 _:=hr.mono (by decide);have hr10:zL 10 _:=hr.mono (by decide);(zA (qz 1 lJ.nd (wP (zje rfl) (by rfl) M.dict j0 (z4 (qN (own:= ["shelf"]) (tP (fsc:=zV nN) (N:= ["program","manners","hand","taken","row"]) (N':= ["program","manners","hand","taken","row"]) rfl rfl (by decide+kernel)) rfl (wQ (qx hr (qv 0) z9)) (λC s H fp pins=>(qn 5 nd3)) (λC s H fp pins=>pD) (λC s H fp pins=>(y4 (z4 (qx hr (qv 5) z9) (z4 (qx hr (qx hr (qv 5) z9) z9) z8))))) z8)))
   (zA (qz 3 lJ.nd (wP (zpr rfl) (by rfl) M.dict j0 (z4 (qN (own:= ["hand"]) (tP (fsc:=zV nN) (N:= ["program","manners","hand","taken","row"]) (N':= ["program","manners","?2","taken","row"]) rfl rfl (by decide+kernel)) rfl (wQ (qx hr (qv 0) z9)) (λC s H fp pins=>(qn 5 nd4)) (λC s H fp pins=>pD) (λC s H fp pins=>(y4 (z4 (qx hr (qv 5) z9) (z4 tX z8))))) z8)))
   (zA (vI tX (tY hr (qv 3) (qx hr (qx hr (qx hr (qv 0) z9) z9) z9)))
   (zF (vV dh rfl (wQ (qx hr (qv 0) z9)) (qn 2 lJ.nd) (zF (vV dh rfl (wQ (qx hr (qv 2) z9)) (qn 4 lJ.nd) (zF (y9 (uH (pC hr) (qx hr (qv 4) z9) (y4 (z4 zH (z4 zH z8))) (by rfl)) (zF (xC (qk zlI hr1 zoO zew zm3 (z4 (qv 4) (z4 (qv 3) z8))))) (zF (xC (qk zlG hr10 zoM zeu zm1 (z4 (qv 4) (z4 (qv 1) z8)))))))))))))),λxs st Q h=> ?_⟩
 obtain⟨skl,h0,hs,rfl,O,q⟩:=h;obtain⟨all,eall⟩: ∃all,h0::hs=all:=⟨_,rfl⟩;have h0n:h0.1∈all.map (·.1):=by rw[<- eall];exact ar ..
 have hx0:atI (all.map y8) 0=some (y8 h0):=by rw[<- eall];exact vM (j:=0) rfl
 have tails: ∀y∈sW all,y∈all.map (·.1)/\y≠h0.1:=λy hy=>by
  rw[<- eall]at hy⊢
  have h1:=O.st y hy;have h2:=O.hn;rw[am,dq]at h2;exact⟨bc _ h1,λz=>h2.1 (z▸h1)⟩
 obtain⟨sn,sl,hn,hl,rl,hsp,hst,hjn,hft⟩:=O;rw[eall]at hn hl rl hsp hjn hft⊢
 have ps1:(skl.map λs=>PV.tup [.str s.1,.str s.2.1]).map qK=(uE skl).map some:=by unfold uE;rw[bt,bt];rfl
 have mg1:uD [] (uE skl)=uE skl:=jS (by rw[iy];unfold uE;rw[bt];exact(bt (f:=λs:Sk=>s.1) (g:=(Sum.inr:Str->z6)))▸zc1 sn);have ps2:(all.map λh=>PV.tup [.str h.1,.bl false]).map qK=(rK (all.map (·.1))).map some:=by unfold rK;rw[bt,bt,bt];rfl
 have mg2:uD [] (rK (all.map (·.1)))=rK (all.map (·.1)):=jS (by rw[iy];unfold rK;rw[bt];exact zc1 hn);have big:(1000:Nat) < sizeLine:=by rw[cx];decide
 symm;unfold yZ
 ac_nf
 refine rJ mnF (λj x e hx he=> ?_) ?_
 ·rw[bt]at hx
  obtain⟨s,hs',rfl⟩:=wV hx;obtain⟨y,rfl⟩:=rO he;show _;unfold Function.comp yH wY
  ac_nf
  exact CP.yes (e':= [_]) (by rw[bt];exact hx) rfl rfl
 rw[bt,zcq skl (f:=mnF) (h:=λs=>PV.tup [.str s.1,.str s.2.1]) λs=>rfl];simp? only[iN];refine⟨_,ps1,?_⟩;rw[mg1];symm
 ac_nf
 refine rJ flF (λj x e hx he=> ?_) ?_
 ·obtain⟨h,hh,rfl⟩:=wV hx
  obtain⟨y,rfl⟩:=rO he;unfold y8 yH uB
  ac_nf
  exact CP.yes (e':= [_]) hx rfl rfl
 rw[zcq all (f:=flF) (h:=λh=>PV.tup [.str h.1,.bl false]) λs=>rfl];simp? only[zdc];refine⟨_,ps2,?_⟩;rw[mg2];symm;simp? only[hx0];unfold y8 yH uB
 ac_nf
 have hlf:(rK (all.map (·.1))).length<=8:=by unfold rK;rw[ac,ac];exact hl
 refine⟨by omega,?_⟩;have t0:TK h0.1 (all.map (·.1)) [] (xP (rK (all.map (·.1))) (.inr h0.1) (.bl true)):=by
  refine⟨by rw[zjJ (zct h0n)];exact hlf,λn hn'=> ?_⟩;rw[lV];by_cases e:h0.1=n
  ·rw[if_pos (by rw[e]),decide_eq_true (.inl e.symm)]
  ·rw[if_neg λz=>e (io z),zct hn',decide_eq_false λz=>z.elim (λz=>e z.symm) (λz=>by cases z)]
 have i1:yF (.str "split") [PV.str "split",.str "join"]=true:=by unfold yF;simp[u9]
 have i2:yF (.str "join") [PV.str "split",.str "join"]=true:=by unfold yF;simp[u9]
 have fl: [PV.str "split",PV.str "join"].all xD=true:=rfl;refine vQ (λk env s=> ∃(kvs:List (z6×PV)) (v w:Option PV),env= [some (.tup [.tup (skl.map (yH ∘ wY)),.tup (all.map y8)]),some (.dct (uE skl)),v,some (.obj st.length),w]/\s=st++ [.dct kvs]/\TK h0.1 (all.map (·.1)) (sW (all.take k)) kvs) ⟨_,none,none,rfl,rfl,t0⟩ ?_ ?_
 ·rintro k x env s hx ⟨kvs,v,w,rfl,rfl,t⟩
  obtain⟨h,hh,rfl⟩:=wV hx;have hm:h∈all:=bi.mpr ⟨k,hh⟩
  ac_nf
  unfold y8 yH uB
  ac_nf
  refine vQ (λj env s=> ∃(kvs:List (z6×PV)) (w:Option PV),env= [some (.tup [.tup (skl.map (yH ∘ wY)),.tup (all.map y8)]),some (.dct (uE skl)),some (y8 h),some (.obj st.length),w]/\s=st++ [.dct kvs]/\TK h0.1 (all.map (·.1)) (sW (all.take k)++(h.2.take j).filterMap Rh.sp) kvs) ⟨kvs,w,rfl,rfl,by rw[xu];simpa using t⟩ ?_ ?_
  ·rintro j y env s hy ⟨kvs,w,rfl,rfl,t⟩
   obtain⟨r,hr,rfl⟩:=wV hy;have hrm:r∈h.2:=bi.mpr ⟨j,hr⟩;have hs2:=qS hr;have kl:=t.len;cases r with
   | split n=>
    have nn:=tails n (gq.mpr ⟨h,hm,db.mpr ⟨_,hrm,rfl⟩⟩);have hv:zI kvs (.inr n)=some (.bl false):=by
     rw[t.at_ n nn.1,decide_eq_false λz=>z.elim nn.2 (zsD hsp hh hr)]
    unfold Rh.pv
    ac_nf
    simp? only[xJ,wX,xD,i1,fl];refine⟨.split n,st.length,kvs,n,rfl,tV,by omega,.inl ⟨rfl,hv,?_⟩⟩;rw[pM];refine⟨_,_,rfl,rfl,?_⟩;rw[hs2,ia,<- bh];exact t.put nn.1
   | join n=>
    have nn:=hjn h hm n hrm;unfold Rh.pv
    ac_nf
    simp? only[xJ,wX,xD,i2,fl];refine⟨.join n,st.length,kvs,n,rfl,tV,by omega,.inr ⟨rfl,⟨_,t.at_ n nn⟩,?_⟩⟩;refine⟨_,_,rfl,rfl,?_⟩;rw[hs2,ia];exact(cn (List.filterMap Rh.sp (List.take j h.2))).symm▸t
   | pl r=>
    obtain⟨k1,more,e,h1,h2⟩:=zcU r;have hf:eI (uE skl) r:=hft h hm _ hrm;have e2:(Rh.pl r).pv=r.pv:=rfl;rw[e2];have go: ∀{Q:K3},Q .non (st++ [.dct kvs])->zkw [r.pv,.dct (uE skl)] (st++ [.dct kvs]) Q:=λ{Q} z=>⟨r,_,rfl,hf,z⟩;rw[e]at go⊢
    ac_nf
    simp? only[xJ,wX,xD,h2,fl];refine go ⟨_,_,rfl,rfl,?_⟩;rw[hs2,ia];exact(cn (List.filterMap Rh.sp (List.take j h.2))).symm▸t
  ·rintro env s ⟨kvs,w,rfl,rfl,t⟩
   rw[ac,bz (ao _)]at t;refine⟨kvs,_,w,rfl,rfl,?_⟩;rw[qS hh];show TK _ _ (List.flatMap _ _) _;rw[jh,List.flatMap_singleton];exact t
 ·rintro env s ⟨kvs,v,w,rfl,rfl,t⟩
  ac_nf
  exact q
theorem nd5:(["program","come_to","hand","word"]:List Str).Nodup:=by decide+kernel
theorem zpN {f:Addr}{fd:FuncData}(M:Mo w K mg)(F:yD K "look_at_splits" "look_at_splits" lO f fd):zU P w K mg base y3 3 f fd ["program"] (y2 K zdB):=by
 obtain⟨_,_,m4,eZ,zcE⟩:=M.in_split_order;have fS:= @zjp P w K mg base _ _ M m4;refine yW 0 F zd1 (λxs st Q h=>by obtain⟨sh,h0,hs,en,rj,rfl,_⟩:=h;rfl) ⟨_,λcdv A outer s H E hr=>have hr2:zL 2 _:=hr.mono (by decide);(zA (qz 1 zd1.nd (wP (zje rfl) (by rfl) M.dict j0 (z4 (qN (own:= ["word"]) (tP (fsc:=zV lO) (N:= ["program","come_to","hand"]) (N':= ["program","come_to","hand"]) rfl rfl (by decide+kernel)) rfl (wQ (qk fS hr2 zcE m4 eZ (z4 (qv 0) z8))) (λC s H fp pins=>(qn 3 nd5)) (λC s H fp pins=>pD) (λC s H fp pins=>(y4 (z4 (qv 3) (z4 tX z8))))) z8)))
   (zF (vV dh rfl (wQ (qx hr (qv 0) z9)) (qn 2 zd1.nd) (zF (y9 (uH (n9 hr) (qx hr (qv 2) z9) (qv 1) (by rfl)) (zF uG) yC))))),λxs st Q h=> ?_⟩
 obtain⟨sh,h0,hs,en,rj,rfl,O,G,q⟩:=h;obtain⟨rk,R,h7⟩:=O.rk;obtain⟨all,eall⟩: ∃all,h0::hs=all:=⟨_,rfl⟩;have hl8:=O.hl;have iso: ∀{Q:K3} {st:z7},Q (.tup ((yS (kids Rh.sp all) 8 h0.1).map PV.str)) st->zd_ [yZ sh all] st Q:=λ{Q st} hq=>⟨sh,h0,hs,rk,by rw[eall],O.hn,by rw[bq]at hl8;omega,R,h7,by rw[eall];exact hq⟩;have reach:=G.reach O.hn R h7 rfl;rw[eall]at reach⊢
 symm
 ac_nf
 refine iso ?_
 ac_nf
 refine rJ ctF (λj x e hx he=> ?_) ?_
 ·obtain⟨w,hw,rfl⟩:=wV hx
  obtain⟨y,rfl⟩:=rO he
  ac_nf
  exact CP.yes (e':= [_]) hx rfl rfl
 obtain⟨l,el⟩: ∃l,yS (kids Rh.sp all) 8 h0.1=l:=⟨_,rfl⟩;rw[el]at reach⊢
 rw[zcq l (f:=ctF) (h:=λw=>PV.tup [.str w,.bl true]) λs=>rfl];simp? only[iN];refine⟨yG l,by unfold yG;rw[bt,bt];rfl,?_⟩;have em:uD [] (yG l)=yG (l.foldl wF []):=zdP (ms:= []) (ns:=l);rw[em];unfold yZ
 ac_nf
 refine vQ (λk env s=> ∃v:Option PV,env= [some (.tup [.tup (sh.map yH),.tup (all.map y8)]),some (.dct (yG (l.foldl wF []))),v]/\s=st) ⟨none,rfl,rfl⟩ ?_ ?_
 ·rintro k x env s hx ⟨v,rfl,rfl⟩
  obtain⟨h,hh,rfl⟩:=wV hx;have hm:h.1∈l.foldl wF []:=eO.mpr (.inr (reach _ h.1 (cf (bi.mpr ⟨k,hh⟩)) (ao _)));have hv:zI (yG (l.foldl wF [])) (.inr h.1)=some (.bl true):=by rw[nU,if_pos hm]
  unfold y8 yH uB
  ac_nf
  simp? only[zjb,hv]
  first | exact⟨_,rfl,rfl⟩ | exact⟨_,rfl⟩
 ·rintro env s ⟨v,rfl,rfl⟩
  ac_nf
  exact q
theorem zpK {f:Addr}{fd:FuncData}(M:Mo w K mg)(F:yD K "look_at_joins" "look_at_joins" gK f fd):zU P w K mg base y3 4 f fd ["program"] (y2 K zdB):=by
 obtain⟨_,_,zer,zmx,zoI⟩:=M.held_at_ends;have zlD:= @zpE P w K mg base _ _ M zer;obtain⟨_,_,zet,zmz,zoK⟩:=M.in_order_of_hands;have zlF:= @zpG P w K mg base _ _ M zet;refine yW 0 F zd0 (λxs st Q h=>by obtain⟨sh,h0,hs,en,rj,rfl,_⟩:=h;rfl) ⟨_,λcdv A outer s H E hr=>have hr1:zL 1 _:=hr.mono (by decide);have hr3:zL 3 _:=hr.mono (by decide);(zA (qz 1 zd0.nd (qk zlD hr3 zoI zer zmx (z4 (qv 0) z8)))
   (zA (qz 2 zd0.nd (qk zlF hr1 zoK zet zmz (z4 (qv 0) (z4 (qx hr (qv 1) (qx hr (qx hr (qx hr (qv 0) z9) z9) z9)) z8))))
   (zF (y9 (pF (qv 2)) (zF uG) yC)))),λxs st Q h=> ?_⟩
 obtain⟨sh,h0,hs,en,rj,rfl,O,G,q⟩:=h;have hroot:en h0.1= []:=G.root h0 hs rfl;obtain⟨all,eall⟩: ∃all,h0::hs=all:=⟨_,rfl⟩;have hae: ∀{Q:K3} {st:z7},(∀kvs,(∀w∈all.map (·.1),fH kvs en w)->Q (.dct kvs) st)->zku [yZ sh all] st Q:=λ{Q st} hq=>⟨sh,h0,hs,en,rj,by rw[eall],O,G,by rw[eall];exact hq⟩;have h0n:h0.1∈all.map (·.1):=by rw[<- eall];exact ar ..
 have hx0:atI (all.map y8) 0=some (y8 h0):=by rw[<- eall];exact vM (j:=0) rfl
 rw[eall];symm
 ac_nf
 refine hae λkvs hk=> ?_;obtain⟨ns,hv,hm,hl⟩:=hk _ h0n;have hns:ns= []:=List.eq_nil_iff_forall_not_mem.mpr λx hx=>by
  have:=(hm.2 x).mp hx;rw[hroot]at this;cases this
 subst hns;symm;unfold yZ;simp? only[hx0];unfold y8 yH uB;simp? only[hv];refine⟨sh,all,[],rfl,?_⟩;have e:(all.map (·.1)).filter (λn=>decide (n∈([]:List Str)))= []:=ud.mpr λx _ z=>by simp at z
 rw[e]
 ac_nf
 exact q
theorem zpI {f:Addr}{fd:FuncData}(M:Mo w K mg)(F:yD K "look" "look" lN f fd):zU P w K mg base y3 12 f fd ["program"] (y2 K zkz):=by
 obtain⟨_,_,pX,kZ,jU⟩:=M.look_for_twice;have kF:= @zjs P w K mg base _ _ M pX;obtain⟨_,_,zex,zm4,zoP⟩:=M.look_at_rows;have zlJ:= @zpM P w K mg base _ _ M zex;obtain⟨_,_,zey,zm5,zoQ⟩:=M.look_at_splits;have zlK:= @zpN P w K mg base _ _ M zey;obtain⟨_,_,zev,zm2,zoN⟩:=M.look_at_joins;have zlH:= @zpK P w K mg base _ _ M zev;refine yW 0 F zkj (λxs st Q h=>by obtain⟨skl,h0,hs,en,rj,rfl,_⟩:=h;rfl) ⟨_,λcdv A outer s H E hr=>have hr1:zL 1 _:=hr.mono (by decide);have hr3:zL 3 _:=hr.mono (by decide);have hr4:zL 4 _:=hr.mono (by decide);have hr11:zL 11 _:=hr.mono (by decide);(zA (xC (qk kF hr1 jU pX kZ (z4 (qx hr (qv 0) z9) z8)))
   (zA (y9 (zda (pF (qx hr (qv 0) z9))) (zF uG) yC)
   (zA (xC (qk kF hr1 jU pX kZ (z4 (qx hr (qv 0) z9) z8)))
   (zA (xC (qk zlJ hr11 zoP zex zm4 (z4 (qv 0) z8)))
   (zA (xC (qk zlK hr3 zoQ zey zm5 (z4 (qv 0) z8)))
   (zA (xC (qk zlH hr4 zoN zev zm2 (z4 (qv 0) z8)))
   (zF (yB tX)))))))),λxs st Q h=> ?_⟩
 obtain⟨skl,h0,hs,en,rj,rfl,L,O,G,q⟩:=h;have c1:(yZ (skl.map wY) (h0::hs))= .tup [.tup ((skl.map wY).map yH),.tup (((h0::hs).map uB).map yH)]:=by unfold yZ;rw[bt (l:=h0::hs)];rfl
 have s1:((skl.map wY).map (·.1)).Nodup:=by rw[bt];exact L.sn
 have s2:(((h0::hs).map uB).map (·.1)).Nodup:=by rw[znH];exact L.hn
 have z1:(skl.map wY).length<=1000:=by rw[ac];have:=L.sl;omega
 have z2:((h0::hs).map uB).length<=1000:=by rw[ac];have:=L.hl;omega
 have emp:(List.map yH (List.map uB (h0::hs))).isEmpty=false:=rfl;obtain⟨p,ep⟩: ∃p,yZ (skl.map wY) (h0::hs)=p:=⟨_,rfl⟩;have g1: ∀{Q:K3} {st:z7},Q .non st->zkx [p] st Q:=λ{Q st} z=>⟨skl,h0,hs,by rw[ep],L,z⟩;have g2: ∀{Q:K3} {st:z7},Q .non st->zdB [p] st Q:=λ{Q st} z=>⟨_,h0,hs,en,rj,by rw[ep],O,G,z⟩;rw[ep]at c1⊢
 rw[c1]at g1 g2⊢
 symm
 ac_nf
 refine⟨_,rfl,s1,z1,?_⟩;symm;simp? only[emp];symm
 ac_nf
 refine⟨_,rfl,s2,z2,?_⟩;symm
 ac_nf
 refine g1 ?_;symm
 ac_nf
 refine g2 ?_;symm
 ac_nf
 refine g2 ?_
 ac_nf
 exact q
theorem zjm {f:Addr}{fd:FuncData}(M:Mo w K mg)(F:yD K "_law_box" "_law_box" iW f fd):zU P w K mg base y3 1 f fd ["_law_script","_law_k"] (y2 K zsw):=by
 refine yW 1 F lF (λxs st Q h=>by obtain⟨ns,k,rfl,_⟩:=h;rfl) ⟨_,λcdv A outer s H E hr=>(zA (qz 2 lF.nd (zS yY (zS sT z9 (qv 1)) z9))
   (zA (y9 (qc oZ (qv 1) (wH wN (by rfl) M.len df (z4 (qv 0) z8))) (zF (qz 2 lF.nd (qx hr (qv 0) (qv 1)))) (zF (y9 (qc tH (wH wN (by rfl) M.len df (z4 (qv 0) z8)) z9) (zF (qz 2 lF.nd (zS yY (qv 2) (zS sT (zS sS (qx hr (qv 0) (zS sS (qv 1) (wH wN (by rfl) M.len df (z4 (qv 0) z8)))) z9) z9)))) yC)))
   (zA (qz 3 lF.nd (zS yY (zS sS (zS yY (zS sT (zS sS (qv 2) z9) z9) (zS sT z9 (qv 1))) z9) z9))
   (zF (yB (rS (z4 (zS sT (qv 2) (wP oY (by rfl) M.int o8 (z4 (qM zjg (qv 2) (zS zpy z9 z9) (rP _)) z8))) (z4 (qv 3) z8)))))))),λxs st Q h=> ?_⟩
 obtain⟨ns,k,rfl,hl,hk,q⟩:=h
 simp_all? only[ac]
 have bit: ∀c:Int,-18446744073709551616 < (if decide (1000000000000000000<=c)=true then(1:Int)else 0)/\(if decide (1000000000000000000<=c)=true then(1:Int)else 0) < 18446744073709551616:=λc=>by split <;> exact⟨by decide,by decide⟩
 have fin: ∀c:Int,y7 (c * (if decide (1000000000000000000<=c)=true then(1:Int)else 0)) ((c % 2147483629 * 48271+40692 * k) % 2147483629+1):=λc=>by
  refine⟨?_,by omega,by omega⟩
  split
  ·rename_i h
   have:=of_decide_eq_true h;omega
  ·omega
 refine zc3 (λh=> ?_) (λh=>zc3 (λh2=> ?_) (λh2=> ?_))
 ·obtain⟨z,_,ez⟩:=o6 PV.int (ns:=ns) hk (of_decide_eq_true h)
  simp_all? only[ez]
  exact⟨dF,.inr (bit z),q _ _ (fin z)⟩
 ·have hp:(0:Int) < ns.length:=of_decide_eq_true h2
  obtain⟨z,_,ez⟩:=o6 PV.int (ns:=ns) (k:=k % ns.length) (om _ (by omega)) (mj _ hp)
  simp_all? only[ez]
  exact⟨hp,dF,.inr (bit _),q _ _ (fin _)⟩
 ·exact⟨dF,.inr (bit _),q _ _ (fin _)⟩
theorem uQ {f:Addr}{fd:FuncData}(M:Mo w K mg)(F:yD K "_law_take" "_law_take" gA f fd):zU P w K mg base y3 1 f fd ["_law_box_here","_law_many"] (y2 K zk2):=by
 refine yW 0 F zdy (λxs st Q h=>by obtain⟨i,many,a,b,rfl,_⟩:=h;rfl) ⟨_,λcdv A outer s H E hr=>(zA (y9 (qc tH (qx hr (qv 0) z9) z9) (zA (qz 2 zdy.nd (zS sS (qx hr (qv 0) z9) (qv 1)))
   (zA (vI (zS jX (qx hr (qv 0) z9) (qv 1)) (tY hr (qv 0) z9))
   (zF (yB (qv 2))))) yC)
   (zA (qz 3 zdy.nd (zS sS (zS sT (qx hr (qv 0) z9) z9) z9))
   (zA (vI (zS yY (zS sS (zS yY (zS sT (qv 3) z9) z9) z9) z9) (tY hr (qv 0) z9))
   (zF (yB (zS sS (zS jX (zS yY (zS sT (qv 3) z9) (qx hr (qv 0) z9)) z9) (qv 1))))))),λxs st Q h=> ?_⟩
 obtain⟨i,many,a,b,rfl,hi,⟨ha,hb,hb2⟩,hm,hm2,q⟩:=h
 simp_all? only[hi]
 refine zc3 (λh=> ?_) (λh=> ?_)
 ·exact⟨hm,⟨hm,hm2⟩,q _ _ _ (om _ (by omega)) (mj _ hm) ⟨Int.ediv_nonneg ha (by omega),hb,hb2⟩⟩
 ·exact⟨hm,q _ _ _ (om _ (by omega)) (mj _ hm) ⟨ha,by omega,by omega⟩⟩
theorem nd6:(["_law_box_here","_law_many","_law_letters","?3","_law_common","_law_at","_law_first","_law_longer","_law_found","_law_word","_law_own","_law_k"]:List Str).Nodup:=by decide+kernel
theorem zpC {f:Addr}{fd:FuncData}(M:Mo w K mg)(F:yD K "_law_words" "_law_words" lC f fd):zU P w K mg base y3 2 f fd ["_law_box_here","_law_many"] (y2 K zsC):=by
 obtain⟨_,_,zP,zX,zY⟩:=M._law_take;have zW:= @uQ P w K mg base _ _ M zP;refine yW 0 F uS (λxs st Q h=>by obtain⟨i,many,a,b,rfl,_⟩:=h;rfl) ⟨_,λcdv A outer s H E hr=>have hr1:zL 1 _:=hr.mono (by decide);(zA (zcZ (i:=2) uS.nd rfl (Or.inr rfl) zH)
   (zA (qz 4 uS.nd (wO PySem.F.plainAttrs_str PySem.F.slot_str_join PySem.F.type_str_join (by decide) zpu zH (z4 (qN (own:= ["_law_k"]) (tP (fsc:=zV lC) (N:= ["_law_box_here","_law_many","_law_letters","_law_k","_law_common","_law_at","_law_first","_law_longer","_law_found","_law_word","_law_own"]) (N':= ["_law_box_here","_law_many","_law_letters","?3","_law_common","_law_at","_law_first","_law_longer","_law_found","_law_word","_law_own"]) rfl rfl (by decide+kernel)) rfl (nG (by rfl) M.range (z4 (qk zW hr1 zY zP zX (z4 (qv 0) (z4 z9 z8))) z8)) (λC s H fp pins=>(qn 11 nd6)) (λC s H fp pins=>pD) (λC s H fp pins=>(qx hr (qv 2) (qk zW hr1 zY zP zX (z4 (qv 0) (z4 z9 z8)))))) z8)))
   (zA (qz 5 uS.nd (qk zW hr1 zY zP zX (z4 (qv 0) (z4 (zS yY (wH wN (by rfl) M.len df (z4 (qv 4) z8)) z9) z8))))
   (zA (qz 6 uS.nd (qk zW hr1 zY zP zX (z4 (qv 0) (z4 z9 z8))))
   (zA (qz 7 uS.nd (qk zW hr1 zY zP zX (z4 (qv 0) (z4 z9 z8))))
   (zA (qz 8 uS.nd (rS z8))
   (zA (vV dh rfl (nG (by rfl) M.range (z4 (qv 1) z8)) (qn 3 uS.nd) (zA (qz 9 uS.nd (zS yY (zS yY (vG (qv 4) vH (wS (qv 5))) (qx hr (qv 2) (zS sS (zS yY (qv 6) (zS sT z9 (qv 3))) z9))) (vG (qv 4) (wS (qv 5)) vH)))
   (zF (xC (wO cb cu cw (by decide) tG (qv 8) (z4 (zS yY (qv 9) (zS sT zH (wP oY (by rfl) M.int o8 (z4 (zrl (qM (yV hr) (qv 7) z9 (rP _)) (zrr (qM (yV hr) (zS sS (qv 3) z9) z9 (rP _)))) z8)))) z8))))))
   (zA (qz 10 uS.nd (vU (z4 zH (z4 zH (z4 zH (z4 zH (z4 zH (z4 zH (z4 zH (z4 zH (z4 zH (z4 zH (z4 zH (z4 zH z8))))))))))))))
   (zA (qz 10 uS.nd (zS yY (qv 10) (vU (z4 zH (z4 zH (z4 zH (z4 zH (z4 zH (z4 zH (z4 zH (z4 zH (z4 zH (z4 zH (z4 zH z8))))))))))))))
   (zA (qz 10 uS.nd (zS yY (qv 10) (vU (z4 zH (z4 zH (z4 zH (z4 zH z8)))))))
   (zA (qz 9 uS.nd (qx hr (qv 10) (qk zW hr1 zY zP zX (z4 (qv 0) (z4 z9 z8)))))
   (zA (y9 (PW.pt (qO (qc (yV hr) (qk zW hr1 zY zP zX (z4 (qv 0) (z4 z9 z8))) z9) (qP (uH (n9 hr) (qv 9) (qv 8) (by rfl))))) (zF (vI (qv 9) (tY hr (qv 8) (qk zW hr1 zY zP zX (z4 (qv 0) (z4 (qv 1) z8)))))) yC)
   (zF (yB (qv 8))))))))))))))),λxs st Q h=> ?_⟩
 obtain⟨i,many,a,b,rfl,hi,hb,h0,h10,q⟩:=h;have hil:=(ad.mp hi).1;have hset: ∀{a b:Int},(st.set i (zC a b))[i]?=some (zC a b):=λ{a b} =>tS hi;have hset2: ∀{a b:Int} {o:PO},(st.set i (zC a b)++ [o])[i]?=some (zC a b):=λ{a b o} =>jJ hset;have hput: ∀{a b c d:Int} {o:PO},(st.set i (zC a b)++ [o]).set i (zC c d)=st.set i (zC c d)++ [o]:=λ{a b c d o} =>by rw[zd7 (by rw[dw];exact hil),set_set]
 have hsl: ∀{o:PO},(st.set i o).length=st.length:=dw;have hat: ∀{a b:Int} {o:PO},(st.set i (zC a b)++ [o])[st.length]?=some o:=λ{a b o} =>by rw[<- hsl (o:=zC a b)];exact tV
 have hst2: ∀{a b:Int} {o o':PO},(st.set i (zC a b)++ [o]).set st.length o'=st.set i (zC a b)++ [o']:=λ{a b o o'} =>by rw[<- hsl (o:=zC a b)];exact pM
 have small_l:(("abcdefghijklmnopqrstuvwxyz" :Str)).length<=sizeLine:=bf (m:=1000) (by decide+kernel) (by decide);have thou: ∀{n:Nat},n<=1000->n<=sizeLine:=λh=>bf h (by decide);symm
 ac_nf
 symm
 ac_nf
 refine⟨i,7,a,b,rfl,hi,hb,by decide,by decide,λd a b d0 d1 hb=> ?_⟩
 ac_nf
 refine⟨⟨by omega,by omega⟩,λk ys env s=> ∃(xs:List Str) (v:Option PV) (a b:Int),ys=xs.map PV.str/\xs.length=k/\(∀x∈xs,x.length<=1)/\env= [some (PV.obj i),some (PV.int many),some (PV.str "abcdefghijklmnopqrstuvwxyz"),none,none,none,none,none,none,none,none,v]/\y7 a b/\s=st.set i (zC a b),
  ⟨[],none,a,b,rfl,rfl,by simp,rfl,hb,rfl⟩,?_,?_⟩
 ·rintro k x ys env s hx ⟨xs,v,a,b,rfl,hk,hx1,rfl,hb,rfl⟩
  obtain⟨_,rfl⟩:=pI hx
  ac_nf
  refine⟨i,26,a,b,rfl,hset,hb,by decide,by decide,λe a b e0 e1 hb=> ?_⟩;have hc:=ziF e0 e1;simp? only[hc];refine⟨small_l,xs++ [⟨#[97+e.toNat]⟩],_,a,b,by simp,by simp[hk],λz hz=> ?_,rfl,hb,rfl⟩;rcases au.mp hz with hz | hz
  ·exact hx1 z hz
  ·rw[aj.mp hz];exact ao _
 rintro ys env s ⟨xs,v,a,b,rfl,hk,hx1,rfl,hb,rfl⟩;rw[rV]at hk;have hsum:(xs.map (·.length)).sum<=1 * xs.length:=zty xs 1 hx1;have hz:(xs.map (·.length)).sum+xs.length * (Str.ofString "").length<=6:=by
  rw[show(Str.ofString "").length=0 by decide+kernel];omega
 simp? only[zdg];refine⟨xs,rfl,bf hz (by decide),?_⟩;have hcl:(Txt.join (Str.ofString "") xs).length<=6:=bf (zoh _ _) hz;generalize Txt.join (Str.ofString "") xs=common at hcl⊢
 ac_nf
 symm
 ac_nf
 refine⟨thou (by omega),i,_,a,b,rfl,hset,hb,by omega,by omega,λat' a b a0 a1 hb=> ?_⟩
 ac_nf
 symm
 ac_nf
 refine⟨i,26,a,b,rfl,hset,hb,by decide,by decide,λfirst a b f0 f1 hb=> ?_⟩
 ac_nf
 symm
 ac_nf
 refine⟨i,3,a,b,rfl,hset,hb,by decide,by decide,λlg a b g0 g1 hb=> ?_⟩
 ac_nf
 symm
 ac_nf
 symm;simp? only[hsl];obtain⟨A,eA⟩: ∃A:Str,A=Txt.slice common none (some at'):=⟨_,rfl⟩;obtain⟨B,eB⟩: ∃B:Str,B=Txt.slice common (some at') none:=⟨_,rfl⟩;refine⟨⟨by omega,by omega⟩,?_⟩;refine vQ (λk env s=> ∃(ws:List Str) (v3 v9:Option PV),env= [some (PV.obj i),some (PV.int many),some (PV.str "abcdefghijklmnopqrstuvwxyz"),v3,some (.str common),some (.int at'),some (.int first),some (.int lg),some (.obj st.length),v9,none]/\ws.length=k/\qW A B first ws/\s=st.set i (zC a b)++ [.lst (ws.map PV.str)])
  ⟨[],none,none,rfl,rfl,λm w hw=>by simp at hw,rfl⟩ ?_ ?_
 ·rintro k x env s hx ⟨ws,v3,v9,rfl,hwl,hw,rfl⟩
  obtain⟨hk2,rfl⟩:=pI hx;have hc:=ziF (d:=(first+5 * (0+k)) % 26) (om _ (by decide)) (mj _ (by decide))
  ac_nf
  symm;simp? only[hc];refine⟨thou (by omega),λl1=>⟨small_l,?_⟩⟩;rw[<- eA]at l1⊢
  have lc:(⟨#[97+((first+5 * (0+(k:Int))) % 26).toNat]⟩:Str).length=1:=rfl;refine⟨thou (by omega),thou (by omega),λl2=> ?_⟩;rw[<- eB]at l2⊢
  refine⟨thou (by rw[le];omega),?_⟩
  ac_nf
  have done: ∀z:Str,z.length<=1->(A++⟨#[97+((first+5 * (0+(k:Int))) % 26).toNat]⟩++B).length+z.length<=sizeLine/\ws.length < sizeLine/\∃(ws':List Str) (v3 v9:Option PV),[some (PV.obj i),some (PV.int many),some (PV.str "abcdefghijklmnopqrstuvwxyz"),some (PV.int (0+k)),some (.str common),some (.int at'),some (.int first),some (.int lg),some (.obj st.length),some (PV.str (A++⟨#[97+((first+5 * (0+(k:Int))) % 26).toNat]⟩++B)),none]= [some (PV.obj i),some (PV.int many),some (PV.str "abcdefghijklmnopqrstuvwxyz"),v3,some (.str common),some (.int at'),some (.int first),some (.int lg),some (.obj st.length),v9,none]/\ws'.length=k+1/\qW A B first ws'/\st.set i (zC a b)++ [PO.lst (ws.map PV.str++ [.str (A++⟨#[97+((first+5 * (0+(k:Int))) % 26).toNat]⟩++B++z)])]=st.set i (zC a b)++ [.lst (ws'.map PV.str)]:=λz hz=>by
   refine⟨thou (by rw[le,le];omega),bj (m:=1000) (by omega) (by decide),ws++ [A++⟨#[97+((first+5 * (0+(k:Int))) % 26).toNat]⟩++B++z],_,_,rfl,by simp[hwl],hw.snoc hwl,by simp⟩
  by_cases gg:lg=1
  ·subst gg
   by_cases o1:(0+(k:Int)) % 2=1
   ·have b1:((0+(k:Int)) % 2==1)=true:=by simpa using o1
    simp? only[beq_self_eq_true,b1,hat,hst2,ac];exact done _ (by decide+kernel)
   ·have b1:((0+(k:Int)) % 2==1)=false:=by simpa using o1
    simp? only[beq_self_eq_true,b1,hat,hst2,ac];exact done _ (by decide+kernel)
  ·have gf:(lg==1)=false:=by simpa using gg
   simp? only[gf,hat,hst2,ac];exact done _ (by decide+kernel)
 ·rintro env s ⟨ws,v3,v9,rfl,hwl,hw,rfl⟩
  rw[rV]at hwl;have hnd:=hw.nodup (by omega)
  ac_nf
  symm
  ac_nf
  symm
  ac_nf
  refine⟨thou (by decide),zd5 ?_⟩
  ac_nf
  refine⟨thou (by decide),zd5 ?_⟩
  ac_nf
  refine⟨i,27,a,b,rfl,hset2,hb,by decide,by decide,λe a b e0 e1 hb=> ?_⟩;obtain⟨wd,et⟩:=zqp e0 e1;simp? only[hput,et];refine tZ (λenv s=> ∃(us:List Str) (v3 v9 v10:Option PV) (a b:Int),env= [some (PV.obj i),some (PV.int many),some (PV.str "abcdefghijklmnopqrstuvwxyz"),v3,some (.str common),some (.int at'),some (.int first),some (.int lg),some (.obj st.length),v9,v10]/\us.Nodup/\us.length=ws.length/\y7 a b/\s=st.set i (zC a b)++ [.lst (us.map PV.str)]) (λN hN=> ?_) ?_
  ·ac_nf
   refine⟨i,4,a,b,rfl,hset2,hb,by decide,by decide,λf a b f0 f1 hb=> ?_⟩;simp? only[hput];by_cases hf:f=0
   ·subst hf
    have nin: ∀{Q:K3},xJ true (.str wd) (.obj st.length) (st.set i (zC a b)++ [.lst (ws.map PV.str)]) Q=Q (.bl (!decide (wd∈ws))) (st.set i (zC a b)++ [.lst (ws.map PV.str)]):=zpo hat;simp? only[beq_self_eq_true,nin];by_cases hin:wd∈ws
    ·have hd:decide (wd∈ws)=true:=decide_eq_true hin
     simp? only[hd];exact hN _ _ ⟨ws,_,_,_,a,b,rfl,hnd,rfl,hb,rfl⟩
    ·have hd:decide (wd∈ws)=false:=decide_eq_false hin
     simp? only[hd];refine⟨i,many,a,b,rfl,hset2,hb,by omega,by omega,λg a b g0 g1 hb=> ?_⟩;obtain⟨n,rfl⟩: ∃n:Nat,g=n:=⟨g.toNat,by omega⟩;have hix:wA ws.length (n:Int)=some n:=zod (by omega);simp? only[hput,hat,hst2,ac,hix];exact hN _ _ ⟨ws.set n wd,_,_,_,a,b,rfl,zpm hnd hin n,dw,hb,by rw[List.map_set]⟩
   ·have nf:(f==0)=false:=by simpa using hf
    simp? only[nf];exact hN _ _ ⟨ws,_,_,_,a,b,rfl,hnd,rfl,hb,rfl⟩
  ·rintro env s ⟨us,v3,v9,v10,a,b,rfl,hun,hul,hb,rfl⟩
   ac_nf
   rw[show xE st.length Q=xE ((st.set i (zC a b)).length+0) Q by rw[hsl];rfl,<- hsl (o:=zC a b),jB];exact q us a b (by omega) hun hb
theorem zjo {f:Addr}{fd:FuncData}(M:Mo w K mg)(F:yD K "_law_number" "_law_number" hU f fd):zU P w K mg base y3 2 f fd ["_law_box_here"] (y2 K zs7):=by
 obtain⟨_,_,zP,zX,zY⟩:=M._law_take;have zW:= @uQ P w K mg base _ _ M zP;refine yW 0 F zkh (λxs st Q h=>by obtain⟨i,a,b,rfl,_⟩:=h;rfl) ⟨_,λcdv A outer s H E hr=>have hr1:zL 1 _:=hr.mono (by decide);(zA (qz 1 zkh.nd (qk zW hr1 zY zP zX (z4 (qv 0) (z4 z9 z8))))
   (zA (y9 (qc oZ (qv 1) z9) (zF (yB (qk zW hr1 zY zP zX (z4 (qv 0) (z4 z9 z8))))) yC)
   (zA (y9 (qc (yV hr) (qv 1) z9) (zF (yB (zS rQ z9 (qk zW hr1 zY zP zX (z4 (qv 0) (z4 z9 z8)))))) yC)
   (zF (yB (qk zW hr1 zY zP zX (z4 (qv 0) (z4 z9 z8)))))))),λxs st Q h=> ?_⟩
 obtain⟨i,a,b,rfl,hi,hb,q⟩:=h;have hset: ∀{a b:Int},(st.set i (zC a b))[i]?=some (zC a b):=λ{a b} =>tS hi;symm
 ac_nf
 refine⟨i,4,a,b,rfl,hi,hb,by decide,by decide,λd a b d0 d1 hb=> ?_⟩;symm
 ac_nf
 by_cases h0:d < 2
 ·rw[if_pos (decide_eq_true h0)]
  exact⟨i,_,a,b,rfl,hset,hb,by decide,by decide,λe a b e0 e1 hb=>by simp? only[true_and];exact q e a b e0 (by omega) hb⟩
 rw[if_neg (by simpa using h0)];symm
 ac_nf
 by_cases h1:d=2
 ·subst h1
  simp? only[beq_self_eq_true];refine⟨i,_,a,b,rfl,hset,hb,by decide,by decide,λe a b e0 e1 hb=> ?_⟩
  ac_nf
  exact q _ a b (by omega) (by omega) hb
 have n1:(d==2)=false:=by simpa using h1
 simp? only[n1];exact⟨i,_,a,b,rfl,hset,hb,by decide,by decide,λe a b e0 e1 hb=>by simp? only[true_and];exact q e a b e0 e1 hb⟩
theorem zcL {L:Type}{lp:L->PV}{f:Addr}{fd:FuncData}(M:Mo w K mg)(F:yD K "_law_term" "_law_term" gB f fd)(uN:wT K fd ["_law_box_here","_law_leaves_here","_law_room","_law_deep"] [])(uO:mg "_law_term" =some (.ref f)): ∀d,zU P w K mg base y3 (d+2) f fd ["_law_box_here","_law_leaves_here","_law_room","_law_deep"] (y2 K ((lR lp) d))
 | 0=>⟨λvs H Q E h=>(zk3 h).elim,λA outer s H args us vs Q E _ _ _ _ h=>(zk3 h).elim⟩
 | d+1=>by
  have IH:zU P w K mg base y3 (d+2) f fd ["_law_box_here","_law_leaves_here","_law_room","_law_deep"] (y2 K ((lR lp) d)):=zcL M F uN uO d;obtain⟨_,_,zP,zX,zY⟩:=M._law_take;have zW:= @uQ P w K mg base _ _ M zP;obtain⟨_,_,m3,eS,zcB⟩:=M._law_number;have fQ:= @zjo P w K mg base _ _ M m3;have uU:=F;refine yW 0 F pL (λxs st Q h=>by obtain⟨i,ls,room,deep,a,b,rfl,_⟩:=h;rfl) ⟨_,λcdv A outer s H E hr=>have hr1:zL 1 _:=hr.mono (by omega);have hr2:zL 2 _:=hr.mono (by omega);(zA (qz 4 pL.nd (qk zW hr1 zY zP zX (z4 (qv 0) (z4 z9 z8))))
   (zA (y9 (PW.pt (mZ (qc oZ (qv 2) z9) (mZ (qc (yV hr) (qv 3) z9) (iL (qc oZ (qv 4) z9))))) (zA (y9 (PW.pt (qO (qc tH (wH wN (by rfl) M.len df (z4 (qv 1) z8)) z9) (qP (qc tH (qk zW hr1 zY zP zX (z4 (qv 0) (z4 z9 z8))) z9)))) (zF (yB (qx hr (qv 1) (qk zW hr1 zY zP zX (z4 (qv 0) (z4 (wH wN (by rfl) M.len df (z4 (qv 1) z8)) z8)))))) yC)
   (zF (yB (y4 (z4 zH (z4 (qk fQ hr2 zcB m3 eS (z4 (qv 0) z8)) z8)))))) yC)
   (zA (y9 (PW.pt (qO (qc (yV hr) (qv 4) z9) (qP (qc tH (qv 2) z9)))) (zA (qz 5 pL.nd (zS jX (zS rQ (qv 2) z9) z9))
   (zA (qz 6 pL.nd (qk IH hr uO uU uN (z4 (qv 0) (z4 (qv 1) (z4 (qv 5) (z4 (zS rQ (qv 3) z9) z8))))))
   (zA (qz 7 pL.nd (qk IH hr uO uU uN (z4 (qv 0) (z4 (qv 1) (z4 (qv 5) (z4 (zS rQ (qv 3) z9) z8))))))
   (zF (yB (y4 (z4 zH (z4 (qv 6) (z4 (qv 7) (z4 (qk IH hr uO uU uN (z4 (qv 0) (z4 (qv 1) (z4 (qv 5) (z4 (zS rQ (qv 3) z9) z8))))) z8)))))))))) yC)
   (zA (qz 8 pL.nd (zS jX (zS rQ (qv 2) z9) z9))
   (zA (qz 6 pL.nd (qk IH hr uO uU uN (z4 (qv 0) (z4 (qv 1) (z4 (qv 8) (z4 (zS rQ (qv 3) z9) z8))))))
   (zF (yB (y4 (z4 zH (z4 (qx hr zH (qk zW hr1 zY zP zX (z4 (qv 0) (z4 z9 z8)))) (z4 (qv 6) (z4 (qk IH hr uO uU uN (z4 (qv 0) (z4 (qv 1) (z4 (qv 8) (z4 (zS rQ (qv 3) z9) z8))))) z8)))))))))))),λxs st Q h=> ?_⟩
  obtain⟨i,ls,room,deep,a,b,rfl,hi,hb,hlp,hll,d0,dd,q⟩:=h;have hset: ∀{a b:Int},(st.set i (zC a b))[i]?=some (zC a b):=λ{a b} =>tS hi;symm
  ac_nf
  refine⟨i,5,a,b,rfl,hi,hb,by decide,by decide,λf a b f0 f1 hb=> ?_⟩;symm;refine ziu (b:=decide (room < 3∨deep=0∨f < 2)) (λQ=> ?_) ?_
  ·ac_nf
   by_cases h1:room < 3
   ·simp[h1]
   ·by_cases h2:deep=0
    ·simp[h1,h2]
    ·simp[h1,h2]
  by_cases hz:room < 3∨deep=0∨f < 2
  ·rw[if_pos (decide_eq_true hz)]
   symm;simp? only[ac];by_cases hl:0 < ls.length
   ·have hl':decide ((0:Int) < (ls.length:Int))=true:=decide_eq_true (by omega)
    simp? only[hl'];refine⟨i,3,a,b,rfl,hset,hb,by decide,by decide,λe a b e0 e1 hb=> ?_⟩
    ac_nf
    by_cases he:0 < e
    ·rw[if_pos (decide_eq_true he)]
     simp? only[ac];refine⟨i,_,a,b,rfl,hset,hb,by omega,by omega,λg a b g0 g1 hb=> ?_⟩;obtain⟨n,rfl⟩: ∃n:Nat,g=n:=⟨g.toNat,by omega⟩;have hn:n < ls.length:=by omega
     have ha:atI (ls.map lp) (n:Int)=some (lp ls[n]):=vM (by rw[cg,bu hn];rfl);simp? only[ha];refine zf_ (t:= .lf ls[n]) hlp ?_;rw[ztm];exact q (.lf ls[n]) a b (iq hn) d0 hb
    ·rw[if_neg (by simpa using he)]
     ac_nf
     refine⟨i,a,b,rfl,hset,hb,λk a b k0 k1 hb=> ?_⟩
     ac_nf
     exact q (.num k) a b ⟨k0,k1⟩ d0 hb
   ·have hl':decide ((0:Int) < (ls.length:Int))=false:=decide_eq_false (by omega)
    simp? only[hl'];refine⟨i,a,b,rfl,hset,hb,λk a b k0 k1 hb=> ?_⟩
    ac_nf
    exact q (.num k) a b ⟨k0,k1⟩ d0 hb
  rw[if_neg (by simpa using hz)];have hd0: ¬ deep=0:=λz=>hz (.inr (.inl z))
  ac_nf
  symm;refine ziu (b:=decide (f=4/\3 < room)) (λQ=> ?_) ?_
  ·ac_nf
   by_cases h1:f=4
   ·subst h1;simp
   ·simp[h1]
  by_cases hc:f=4/\3 < room
  ·rw[if_pos (decide_eq_true hc)]
   symm
   ac_nf
   symm
   ac_nf
   refine⟨i,ls,_,deep - 1,a,b,rfl,hset,hb,hlp,hll,by omega,by omega,λt1 a b k1 r1 hb=> ?_⟩;symm
   ac_nf
   refine⟨i,ls,_,deep - 1,a,b,rfl,hset,hb,hlp,hll,by omega,by omega,λt2 a b k2 r2 hb=> ?_⟩
   ac_nf
   refine⟨i,ls,_,deep - 1,a,b,rfl,hset,hb,hlp,hll,by omega,by omega,λt3 a b k3 r3 hb=> ?_⟩;simp? only[zcX hlp];exact q (.ite t1 t2 t3) a b ⟨k1,k2,k3⟩ (by show((max t1.rank (max t2.rank t3.rank)+1:Nat):Int)<=deep;omega) hb
  rw[if_neg (by simpa using hc)]
  ac_nf
  symm
  ac_nf
  symm
  ac_nf
  refine⟨i,ls,_,deep - 1,a,b,rfl,hset,hb,hlp,hll,by omega,by omega,λt1 a b k1 r1 hb=> ?_⟩
  ac_nf
  refine⟨i,5,a,b,rfl,hset,hb,by decide,by decide,λg a b g0 g1 hb=> ?_⟩;obtain⟨c,hc,hs⟩:=zsl g g0 g1;simp? only[hc];refine⟨bf (m:=1000) (by decide+kernel) (by decide),i,ls,_,deep - 1,a,b,rfl,hset,hb,hlp,hll,by omega,by omega,λt2 a b k2 r2 hb=> ?_⟩;simp? only[zcX hlp];exact q (.op ⟨#[c]⟩ t1 t2) a b ⟨hs,k1,k2⟩ (by show((max t1.rank t2.rank+1:Nat):Int)<=deep;omega) hb
theorem zjl {L:Type}{lp:L->PV}{f:Addr}{fd:FuncData}(M:Mo w K mg)(F:yD K "_law_any_term" "_law_any_term" iV f fd):zU P w K mg base y3 10 f fd ["_law_box_here","_law_leaves_here"] (y2 K (zd9 lp)):=by
 obtain⟨_,_,zP,zX,zY⟩:=M._law_take;have zW:= @uQ P w K mg base _ _ M zP;obtain⟨zcn,zcp,uU,uN,uO⟩:=M._law_term;have kE:zU P w K mg base y3 9 zcn zcp ["_law_box_here","_law_leaves_here","_law_room","_law_deep"] (y2 K (lR lp 7)):=zcL M uU uN uO 7;refine yW 0 F zkf (λxs st Q h=>by obtain⟨i,ls,a,b,rfl,_⟩:=h;rfl) ⟨_,λcdv A outer s H E hr=>have hr1:zL 1 _:=hr.mono (by decide);have hr9:zL 9 _:=hr.mono (by decide);(zA (qz 2 zkf.nd (qx hr (vU (z4 z9 (z4 z9 (z4 z9 (z4 z9 z8))))) (qk zW hr1 zY zP zX (z4 (qv 0) (z4 z9 z8)))))
   (zF (yB (qk kE hr9 uO uU uN (z4 (qv 0) (z4 (qv 1) (z4 (qv 2) (z4 (qx hr (vU (z4 z9 (z4 z9 z8))) (wP oY (by rfl) M.int o8 (z4 (qM (yV hr) (qk zW hr1 zY zP zX (z4 (qv 0) (z4 z9 z8))) z9 (rP _)) z8))) z8)))))))),λxs st Q h=> ?_⟩
 obtain⟨i,ls,a,b,rfl,hi,hb,hlp,hll,q⟩:=h;have hset: ∀{a b:Int},(st.set i (zC a b))[i]?=some (zC a b):=λ{a b} =>tS hi;symm
 ac_nf
 refine⟨i,4,a,b,rfl,hi,hb,by decide,by decide,λf a b f0 f1 hb=> ?_⟩;obtain⟨r,er⟩: ∃r:Int,atI [PV.int 1,.int 3,.int 7,.int 30] f=some (.int r):=by
  have:f=0∨f=1∨f=2∨f=3:=by omega
  rcases this with rfl | rfl | rfl | rfl
  ·exact⟨1,rfl⟩
  ·exact⟨3,rfl⟩
  ·exact⟨7,rfl⟩
  ·exact⟨30,rfl⟩
 simp? only[er];refine⟨i,4,a,b,rfl,hset,hb,by decide,by decide,λg a b g0 g1 hb=> ?_⟩;obtain⟨dp,ed,p0,p6⟩: ∃dp:Int,atI [PV.int 2,.int 6] (if(g==1)=true then(1:Int)else 0)=some (.int dp)/\0<=dp/\dp<=6:=by
  split
  ·exact⟨6,rfl,by decide,by decide⟩
  ·exact⟨2,rfl,by decide,by decide⟩
 simp? only[ed];refine⟨i,ls,r,dp,a,b,rfl,hset,hb,hlp,hll,p0,by omega,λt a b tk tr hb=> ?_⟩;refine zf_ hlp ?_
 ac_nf
 exact q t a b tk (by omega) hb
theorem zp8 {f:Addr}{fd:FuncData}(M:Mo w K mg)(F:yD K "_law_manner" "_law_manner" hJ f fd):zU P w K mg base y3 10 f fd ["_law_box_here","_law_kinds","_law_calm"] (y2 K zs5):=by
 obtain⟨_,_,zP,zX,zY⟩:=M._law_take;have zW:= @uQ P w K mg base _ _ M zP;obtain⟨zcn,zcp,uU,uN,uO⟩:=M._law_term;have kE:zU P w K mg base y3 9 zcn zcp ["_law_box_here","_law_leaves_here","_law_room","_law_deep"] (y2 K (lR uK.pv 7)):=zcL M uU uN uO 7;refine yW 0 F lH (λxs st Q h=>by obtain⟨i,a,b,rfl,_⟩:=h;rfl) ⟨_,λcdv A outer s H E hr=>have hr1:zL 1 _:=hr.mono (by decide);have hr9:zL 9 _:=hr.mono (by decide);(zA (qz 3 lH.nd (qx hr (qv 1) (qk zW hr1 zY zP zX (z4 (qv 0) (z4 (wH wN (by rfl) M.len df (z4 (qv 1) z8)) z8)))))
   (zA (y9 (qc (zjh hr) (qv 3) zH) (zF (yB (y4 (z4 (qv 3) z8)))) yC)
   (zA (qz 4 lH.nd (vU (z4 (y4 (z4 zH z8)) (z4 (y4 (z4 zH z8)) (z4 (y4 (z4 zH z8)) z8)))))
   (zA (qz 5 lH.nd (qk kE hr9 uO uU uN (z4 (qv 0) (z4 (qv 4) (z4 (qx hr (vU (z4 z9 (z4 z9 (z4 z9 (z4 z9 z8))))) (qk zW hr1 zY zP zX (z4 (qv 0) (z4 z9 z8)))) (z4 z9 z8))))))
   (zA (y9 (pF (qv 2)) (zF (qz 5 lH.nd (y4 (z4 zH (z4 (y4 (z4 zH (z4 zH (z4 (qx hr (qv 4) z9) (z4 (qx hr (qv 4) z9) z8))))) (z4 (qx hr (qv 4) z9) (z4 (qk kE hr9 uO uU uN (z4 (qv 0) (z4 (qv 4) (z4 z9 (z4 z9 z8))))) z8))))))) yC)
   (zF (yB (y4 (z4 zH (z4 (zS yY z9 (qk zW hr1 zY zP zX (z4 (qv 0) (z4 z9 z8)))) (z4 (qv 5) z8))))))))))),λxs st Q h=> ?_⟩
 obtain⟨i,a,b,rfl,hi,hb,q⟩:=h;have hset: ∀{a b:Int},(st.set i (zC a b))[i]?=some (zC a b):=λ{a b} =>tS hi;unfold pA;symm
 ac_nf
 refine⟨i,_,a,b,rfl,hi,hb,by decide,by decide,λd a b d0 d1 hb=> ?_⟩;obtain⟨kd,hkd,ek⟩: ∃kd:Str,(kd= "last" ∨kd= "sum" ∨kd= "bag" ∨kd= "row" ∨kd= "told")/\atI [PV.str "last",.str "sum",.str "bag",.str "row",.str "told"] d=some (.str kd):=by
  have:d=0∨d=1∨d=2∨d=3∨d=4:=by omega
  rcases this with rfl | rfl | rfl | rfl | rfl
  ·exact⟨_,.inl rfl,rfl⟩
  ·exact⟨_,.inr (.inl rfl),rfl⟩
  ·exact⟨_,.inr (.inr (.inl rfl)),rfl⟩
  ·exact⟨_,.inr (.inr (.inr (.inl rfl))),rfl⟩
  ·exact⟨_,.inr (.inr (.inr (.inr rfl))),rfl⟩
 simp? only[ek];symm
 ac_nf
 by_cases ht:kd= "told"
 ·subst ht
  simp? only[beq_self_eq_true];symm
  ac_nf
  symm
  ac_nf
  refine⟨i,4,a,b,rfl,hset,hb,by decide,by decide,λe a b e0 e1 hb=> ?_⟩;obtain⟨rm,er⟩: ∃rm:Int,atI [PV.int 1,.int 3,.int 7,.int 15] e=some (.int rm):=by
   have:e=0∨e=1∨e=2∨e=3:=by omega
   rcases this with rfl | rfl | rfl | rfl
   ·exact⟨1,rfl⟩
   ·exact⟨3,rfl⟩
   ·exact⟨7,rfl⟩
   ·exact⟨15,rfl⟩
  simp? only[er];refine⟨i,[.was,.mine,.yours],rm,6,a,b,rfl,hset,hb,ziD,by decide,by decide,by decide,λt a b tk tr hb=> ?_⟩
  ac_nf
  symm
  ac_nf
  refine⟨i,4,a,b,rfl,hset,hb,by decide,by decide,λn a b n0 n1 hb=> ?_⟩;simp? only[zcX ziD];exact q "told" [.int (2+n),t.pv uK.pv] a b (.inr ⟨rfl,2+n,t,rfl,by omega,by omega,by omega⟩) hb
 ·have nt:(kd==("told" :Str))=false:=by simpa using ht
  simp? only[nt];exact q kd [] a b (.inl ⟨by rcases hkd with h | h | h | h | h <;> simp_all,rfl⟩) hb
theorem nd7:(["_law_box_here","_law_manner_here","_law_things","_law_found","_law_word","_law_many","_law_k"]:List Str).Nodup:=by decide+kernel
theorem zp4 {f:Addr}{fd:FuncData}(M:Mo w K mg)(F:yD K "_law_begin" "_law_begin" lB f fd):zU P w K mg base y3 3 f fd ["_law_box_here","_law_manner_here","_law_things"] (y2 K zsv):=by
 obtain⟨_,_,zP,zX,zY⟩:=M._law_take;have zW:= @uQ P w K mg base _ _ M zP;obtain⟨_,_,m3,eS,zcB⟩:=M._law_number;have fQ:= @zjo P w K mg base _ _ M m3;refine yW 0 F lE (λxs st Q h=>by obtain⟨i,kd,r,ws,a,b,rfl,_⟩:=h;rfl) ⟨_,λcdv A outer s H E hr=>have hr1:zL 1 _:=hr.mono (by decide);have hr2:zL 2 _:=hr.mono (by decide);(zA (y9 (qc (yV hr) (qx hr (qv 1) z9) zH) (zF (yB (qk zW hr1 zY zP zX (z4 (qv 0) (z4 (qx hr (qv 1) z9) z8))))) yC)
   (zA (y9 (qc (yV hr) (qx hr (qv 1) z9) zH) (zA (qz 3 lE.nd (rS z8))
   (zA (vV dh rfl (wQ (wH zp0 (by rfl) M.sorted PyProof.Rows.boot_sorted (z4 (qv 2) z8))) (qn 4 lE.nd) (zA (qz 5 lE.nd (zS rQ (qk zW hr1 zY zP zX (z4 (qv 0) (z4 z9 z8))) z9))
   (zF (y9 (qc (yV hr) (qk zW hr1 zY zP zX (z4 (qv 0) (z4 z9 z8))) z9) (zF (xC (wO cb cu cw (by decide) tG (qv 3) (z4 (y4 (z4 (qv 4) (z4 (zS yY (qv 5) (wP oY (by rfl) M.int o8 (z4 (qM zjg (qv 5) z9 (rP _)) z8))) z8))) z8)))) yC))))
   (zF (yB (wP (rR rfl) (by rfl) M.tuple rE (z4 (qv 3) z8)))))) yC)
   (zA (y9 (qc (yV hr) (qx hr (qv 1) z9) zH) (zA (qz 5 lE.nd (qk zW hr1 zY zP zX (z4 (qv 0) (z4 (qx hr (vU (z4 z9 (z4 z9 z8))) (wP oY (by rfl) M.int o8 (z4 (qM (yV hr) (qk zW hr1 zY zP zX (z4 (qv 0) (z4 z9 z8))) z9 (rP _)) z8))) z8))))
   (zF (yB (wP (rR rfl) (by rfl) M.tuple rE (z4 (qN (own:= ["_law_k"]) (tP (fsc:=zV lB) (N:= ["_law_box_here","_law_manner_here","_law_things","_law_found","_law_word","_law_many"]) (N':= ["_law_box_here","_law_manner_here","_law_things","_law_found","_law_word","_law_many"]) rfl rfl (by decide+kernel)) rfl (nG (by rfl) M.range (z4 (qv 5) z8)) (λC s H fp pins=>(qn 6 nd7)) (λC s H fp pins=>pD) (λC s H fp pins=>(qx hr (qv 2) (qk zW hr1 zY zP zX (z4 (qv 0) (z4 (wH wN (by rfl) M.len df (z4 (qv 2) z8)) z8)))))) z8))))) yC)
   (zF (yB (qk fQ hr2 zcB m3 eS (z4 (qv 0) z8))))))),λxs st Q h=> ?_⟩
 obtain⟨i,kd,r,ws,a,b,rfl,hi,hb,hmn,hne,hwl,hnd,q⟩:=h;have hil:=(ad.mp hi).1;have hset: ∀{a b:Int},(st.set i (zC a b))[i]?=some (zC a b):=λ{a b} =>tS hi;have hset2: ∀{a b:Int} {o:PO},(st.set i (zC a b)++ [o])[i]?=some (zC a b):=λ{a b o} =>jJ hset;have hput: ∀{a b c d:Int} {o:PO},(st.set i (zC a b)++ [o]).set i (zC c d)=st.set i (zC c d)++ [o]:=λ{a b c d o} =>by rw[zd7 (by rw[dw];exact hil),set_set]
 have hsl: ∀{o:PO},(st.set i o).length=st.length:=dw;have hat: ∀{a b:Int} {o:PO},(st.set i (zC a b)++ [o])[st.length]?=some o:=λ{a b o} =>by rw[<- hsl (o:=zC a b)];exact tV
 have hst2: ∀{a b:Int} {o o':PO},(st.set i (zC a b)++ [o]).set st.length o'=st.set i (zC a b)++ [o']:=λ{a b o o'} =>by rw[<- hsl (o:=zC a b)];exact pM
 have htk: ∀{a b:Int} {o:PO},(st.set i (zC a b)++ [o]).take st.length=st.set i (zC a b):=λ{a b o} =>by rw[<- hsl (o:=zC a b)];exact zdM
 have hst:st=st.set i (zC a b):=by
  obtain⟨h1,h2⟩:=ad.mp hi;rw[<- h2,ut]
 have hpos:0 < ws.length:=gx.mpr hne;have n_last_told:(("last" :Str)==("told" :Str))=false:=by decide+kernel
 have n_last_bag:(("last" :Str)==("bag" :Str))=false:=by decide+kernel
 have n_last_row:(("last" :Str)==("row" :Str))=false:=by decide+kernel
 have n_sum_told:(("sum" :Str)==("told" :Str))=false:=by decide+kernel
 have n_sum_bag:(("sum" :Str)==("bag" :Str))=false:=by decide+kernel
 have n_sum_row:(("sum" :Str)==("row" :Str))=false:=by decide+kernel
 have n_bag_told:(("bag" :Str)==("told" :Str))=false:=by decide+kernel
 have n_row_told:(("row" :Str)==("told" :Str))=false:=by decide+kernel
 have n_row_bag:(("row" :Str)==("bag" :Str))=false:=by decide+kernel
 rcases hmn with⟨hk,rfl⟩ | ⟨rfl,n,t,rfl,n2,n6⟩
 ·rcases hk with rfl | rfl | rfl | rfl
  ·symm
   simp? only[n_last_told];symm;simp? only[n_last_bag];symm;simp? only[n_last_row];refine⟨i,a,b,rfl,hi,hb,λd a b d0 d1 hb=> ?_⟩
   ac_nf
   exact q (.int d) a b ⟨by decide+kernel,by decide+kernel,d0,d1⟩ hb
  ·symm
   simp? only[n_sum_told];symm;simp? only[n_sum_bag];symm;simp? only[n_sum_row];refine⟨i,a,b,rfl,hi,hb,λd a b d0 d1 hb=> ?_⟩
   ac_nf
   exact q (.int d) a b ⟨by decide+kernel,by decide+kernel,d0,d1⟩ hb
  ·symm
   simp? only[n_bag_told];symm;simp? only[beq_self_eq_true];symm
   ac_nf
   symm;simp? only[zdp,oS];refine⟨ws,rfl,by omega,λss hp hs=> ?_⟩;have hss:ss.Nodup:=hp.nodup_iff.mpr hnd;have hsln:=hp.length_eq
   ac_nf
   refine vQ (λk env s=> ∃(l:List (Str×Int)) (v w:Option PV) (a b:Int),env= [some (PV.obj i),some (.tup [.str "bag"]),some (.lst (ws.map PV.str)),some (.obj st.length),v,w]/\(l.map (·.1)).Sublist (ss.take k)/\y7 a b/\s=st.set i (zC a b)++ [.lst (l.map λq=>PV.tup [.str q.1,.int q.2])])
    ⟨[],none,none,a,b,rfl,by simp,hb,by rw[<- hst];rfl⟩ ?_ ?_
   ·rintro k x env s hx ⟨l,v,w,a,b,rfl,hl,hb,rfl⟩
    obtain⟨wd,hwd,rfl⟩:=wV hx;have hll:l.length<=40:=by
     have:=hl.length_le;rw[ac,cj]at this;omega
    ac_nf
    symm
    ac_nf
    refine⟨i,198,a,b,rfl,hset2,hb,by decide,by decide,λd a b d0 d1 hb=> ?_⟩;simp? only[hput];refine⟨i,2,a,b,rfl,hset2,hb,by decide,by decide,λe a b e0 e1 hb=> ?_⟩;simp? only[hput];by_cases h1:e=1
    ·subst h1
     simp? only[beq_self_eq_true,hat,hst2,ac];refine⟨bj (m:=1000) (by omega) (by decide),l++ [(wd,_)],_,_,a,b,rfl,?_,hb,by simp;rfl⟩;rw[nS hwd,av];exact hl.append (List.Sublist.refl _)
    ·have n1:(e==1)=false:=by simpa using h1
     simp? only[n1];exact⟨l,_,_,a,b,rfl,by rw[nS hwd];exact hl.trans (List.sublist_append_left _ _),hb,rfl⟩
   ·rintro env s ⟨l,v,w,a,b,rfl,hl,hb,rfl⟩
    have hsub:=hl.trans (iz _ _);have hll:l.length<=40:=by
     have:=hsub.length_le;rw[ac]at this;omega
    simp? only[hat,htk];exact q (.bag l) a b ⟨rfl,hss.sublist hsub,hll⟩ hb
  ·symm
   simp? only[n_row_told];symm;simp? only[n_row_bag];symm;simp? only[beq_self_eq_true];symm
   ac_nf
   refine⟨i,4,a,b,rfl,hi,hb,by decide,by decide,λe a b e0 e1 hb=> ?_⟩;obtain⟨z,ez,z0,z1⟩: ∃z:Int,atI [PV.int 5,.int 21] (if(e==1)=true then(1:Int)else 0)=some (.int z)/\0 < z/\z<=21:=by
    split
    ·exact⟨21,rfl,by decide,by decide⟩
    ·exact⟨5,rfl,by decide,by decide⟩
   simp? only[ez];refine⟨i,z,a,b,rfl,hset,hb,z0,by omega,λm a b m0 m1 hb=> ?_⟩
   ac_nf
   refine⟨⟨by omega,by omega⟩,λk ys env s=> ∃(us:List Str) (v:Option PV) (a b:Int),ys=us.map PV.str/\us.length=k/\env= [some (PV.obj i),some (.tup [.str "row"]),some (.lst (ws.map PV.str)),none,none,some (.int m),v]/\y7 a b/\s=st.set i (zC a b),⟨[],none,a,b,rfl,rfl,rfl,hb,rfl⟩,?_,?_⟩
   ·rintro k x ys env s hx ⟨us,v,a,b,rfl,hk,rfl,hb,rfl⟩
    obtain⟨_,rfl⟩:=pI hx;simp? only[ac];refine⟨i,_,a,b,rfl,hset,hb,by omega,by omega,λe a b e0 e1 hb=> ?_⟩;obtain⟨t,_,et⟩:=o6 PV.str (ns:=ws) e0 e1;simp? only[et];exact⟨us++ [t],_,a,b,by simp,by simp[hk],rfl,hb,rfl⟩
   ·rintro ys env s ⟨us,v,a,b,rfl,hk,rfl,hb,rfl⟩
    rw[rV]at hk
    ac_nf
    exact q (.row us) a b ⟨rfl,by omega⟩ hb
 ·symm
  simp? only[beq_self_eq_true];refine⟨i,n,a,b,rfl,hi,hb,by omega,by omega,λd a b d0 d1 hb=> ?_⟩
  ac_nf
  exact q (.int d) a b ⟨by decide+kernel,by decide+kernel,d0,by omega⟩ hb
theorem zp7 {f:Addr}{fd:FuncData}(M:Mo w K mg)(F:yD K "_law_leaves" "_law_leaves" h9 f fd):zU P w K mg base y3 2 f fd ["_law_box_here","_law_shelves","_law_things"] (y2 K zs4):=by
 obtain⟨_,_,zP,zX,zY⟩:=M._law_take;have zW:= @uQ P w K mg base _ _ M zP;refine yW 0 F lG (λxs st Q h=>by obtain⟨i,sh,ws,a,b,rfl,_⟩:=h;rfl) ⟨_,λcdv A outer s H E hr=>have hr1:zL 1 _:=hr.mono (by decide);(zA (qz 3 lG.nd (rS z8))
   (zA (vV dh rfl (wQ (qv 1)) (nF (n:=3) rfl (wW (qn 4 lG.nd) (wW (qn 5 lG.nd) (wW (qn 6 lG.nd) pE)))) (zF (y9 (qc (yV hr) (qx hr (qv 5) z9) zH) (zF (xC (wO cb cu cw (by decide) tG (qv 3) (z4 (y4 (z4 zH (z4 (qv 4) (z4 (qx hr (qv 2) (qk zW hr1 zY zP zX (z4 (qv 0) (z4 (wH wN (by rfl) M.len df (z4 (qv 2) z8)) z8)))) z8)))) z8)))) (zF (xC (wO cb cu cw (by decide) tG (qv 3) (z4 (qx hr (vU (z4 (y4 (z4 zH (z4 (qv 4) z8))) (z4 (y4 (z4 zH (z4 (qv 4) z8))) z8))) (wP oY (by rfl) M.int o8 (z4 (qM (yV hr) (qx hr (qv 5) z9) zH (rP _)) z8))) z8)))))))
   (zF (yB (qv 3))))),λxs st Q h=> ?_⟩
 obtain⟨i,sh,ws,a,b,rfl,hi,hb,hk,hsl,hne,hwl,q⟩:=h;have hil:=(ad.mp hi).1;have hset: ∀{a b:Int},(st.set i (zC a b))[i]?=some (zC a b):=λ{a b} =>tS hi;have hset2: ∀{a b:Int} {o:PO},(st.set i (zC a b)++ [o])[i]?=some (zC a b):=λ{a b o} =>jJ hset;have hput: ∀{a b c d:Int} {o:PO},(st.set i (zC a b)++ [o]).set i (zC c d)=st.set i (zC c d)++ [o]:=λ{a b c d o} =>by rw[zd7 (by rw[dw];exact hil),set_set]
 have hsl2: ∀{o:PO},(st.set i o).length=st.length:=dw;have hst:st=st.set i (zC a b):=by
  obtain⟨h1,h2⟩:=ad.mp hi;rw[<- h2,ut]
 have hpos:0 < ws.length:=gx.mpr hne;symm
 ac_nf
 symm
 ac_nf
 refine vQ (λk env s=> ∃(ls:List Lf) (v w x:Option PV) (a b:Int),env= [some (PV.obj i),some (.lst (sh.map zZ)),some (.lst (ws.map PV.str)),some (.obj st.length),v,w,x]/\ls.length=k/\(∀l∈ls,q9 sh l)/\y7 a b/\s=st.set i (zC a b)++ [.lst (ls.map Lf.pv)])
  ⟨[],none,none,none,a,b,rfl,rfl,by simp,hb,by rw[<- hst];rfl⟩ ?_ ?_
 ·rintro k y env s hy ⟨ls,v,w,x,a,b,rfl,hk',hl,hb,rfl⟩
  obtain⟨s0,hs0,rfl⟩:=wV hy;have ms:=ck hs0;have hkl:=(ad.mp hs0).1;obtain⟨kd,r,er⟩:=hk s0 ms;have hat: ∀{a b:Int} {o:PO},(st.set i (zC a b)++ [o])[st.length]?=some o:=λ{a b o} =>by rw[<- hsl2 (o:=zC a b)];exact tV
  have hst2: ∀{a b:Int} {o o':PO},(st.set i (zC a b)++ [o]).set st.length o'=st.set i (zC a b)++ [o']:=λ{a b o o'} =>by rw[<- hsl2 (o:=zC a b)];exact pM
  unfold zZ;rw[er];have more: ∀(l:Lf) (a b:Int),q9 sh l->y7 a b->∀v w x,∃(ls':List Lf) (v' w' x':Option PV) (a' b':Int),[some (PV.obj i),some (.lst (sh.map zZ)),some (.lst (ws.map PV.str)),some (.obj st.length),v,w,x]= [some (PV.obj i),some (.lst (sh.map zZ)),some (.lst (ws.map PV.str)),some (.obj st.length),v',w',x']/\ls'.length=k+1/\(∀l∈ls',q9 sh l)/\y7 a' b'/\st.set i (zC a b)++ [PO.lst (ls.map Lf.pv++ [l.pv])]=st.set i (zC a' b')++ [.lst (ls'.map Lf.pv)]:=λl a b h1 h2 v w x=>
   ⟨ls++ [l],v,w,x,a,b,rfl,by simp[hk'],λl' hl'=>by
    rcases au.mp hl' with h | h
    ·exact hl l' h
    ·rw[aj.mp h];exact h1,h2,by simp⟩
  have small:(ls.map Lf.pv).length < sizeLine:=bj (m:=1000) (by rw[ac];omega) (by decide)
  ac_nf
  by_cases hbag:kd= "bag"
  ·subst hbag
   simp? only[beq_self_eq_true,ac,hat];refine⟨i,_,a,b,rfl,hset2,hb,by omega,by omega,λe a b e0 e1 hb=> ?_⟩;obtain⟨t,_,et⟩:=o6 PV.str (ns:=ws) e0 e1;simp? only[et,hput,hat,hst2];exact⟨small,more (.many s0.1 t) a b ⟨s0,ms,"bag",⟨r,er⟩,.inl ⟨rfl,t,rfl⟩⟩ hb _ _ _⟩
  ·have nb:(kd==("bag" :Str))=false:=by simpa using hbag
   simp? only[nb];by_cases hrow:kd= "row"
   ·subst hrow
    simp? only[beq_self_eq_true,hat,hst2];exact⟨small,more (.long s0.1) a b ⟨s0,ms,"row",⟨r,er⟩,.inr (.inl ⟨rfl,rfl⟩)⟩ hb _ _ _⟩
   ·have nr:(kd==("row" :Str))=false:=by simpa using hrow
    simp? only[nr,hat,hst2];exact⟨small,more (.shelf s0.1) a b ⟨s0,ms,kd,⟨r,er⟩,.inr (.inr ⟨hbag,hrow,rfl⟩)⟩ hb _ _ _⟩
 ·rintro env s ⟨ls,v,w,x,a,b,rfl,hk',hl,hb,rfl⟩
  rw[ac]at hk'
  ac_nf
  rw[show xE st.length Q=xE ((st.set i (zC a b)).length+0) Q by rw[hsl2];rfl,<- hsl2 (o:=zC a b),jB];exact q ls a b hk' hl hb
theorem zp5 {f:Addr}{fd:FuncData}(M:Mo w K mg)(F:yD K "_law_deed" "_law_deed" iX f fd):zU P w K mg base y3 11 f fd ["_law_box_here","_law_shelf","_law_leaves_here","_law_things"] (y2 K zsy):=by
 obtain⟨_,_,zP,zX,zY⟩:=M._law_take;have zW:= @uQ P w K mg base _ _ M zP;obtain⟨zcm,zco,pV,kU,jR⟩:=M._law_any_term;have kD:zU P w K mg base y3 10 zcm zco ["_law_box_here","_law_leaves_here"] (y2 K (zd9 Lf.pv)):=zjl M pV;refine yW 0 F pJ (λxs st Q h=>by obtain⟨i,nm,kd,r,bg,ls,ws,a,b,rfl,_⟩:=h;rfl) ⟨_,λcdv A outer s H E hr=>have hr1:zL 1 _:=hr.mono (by decide);have hr10:zL 10 _:=hr.mono (by decide);(zA (vI (qv 1) (nF (n:=3) rfl (wW (qn 4 pJ.nd) (wW (qn 5 pJ.nd) (wW (qn 6 pJ.nd) pE)))))
   (zA (qz 7 pJ.nd (qx hr (qv 3) (qk zW hr1 zY zP zX (z4 (qv 0) (z4 (wH wN (by rfl) M.len df (z4 (qv 3) z8)) z8)))))
   (zA (y9 (qc (yV hr) (qx hr (qv 5) z9) zH) (zF (yB (y4 (z4 (qx hr (vU (z4 zH (z4 zH z8))) (qk zW hr1 zY zP zX (z4 (qv 0) (z4 z9 z8)))) (z4 (qv 4) (z4 (qv 7) z8)))))) yC)
   (zA (qz 8 pJ.nd (qk kD hr10 jR pV kU (z4 (qv 0) (z4 (qv 2) z8))))
   (zA (y9 (qc (yV hr) (qx hr (qv 5) z9) zH) (zF (yB (y4 (z4 zH (z4 (qv 4) (z4 (qv 8) z8)))))) yC)
   (zA (y9 (qc (zjh hr) (qx hr (qv 5) z9) zH) (zF (yB (y4 (z4 zH (z4 (qv 4) (z4 (qv 8) z8)))))) yC)
   (zA (y9 (qc (yV hr) (qk zW hr1 zY zP zX (z4 (qv 0) (z4 z9 z8))) z9) (zF (qz 8 pJ.nd (y4 (z4 zH (z4 (qk zW hr1 zY zP zX (z4 (qv 0) (z4 z9 z8))) z8))))) yC)
   (zA (y9 (qc tH (qk zW hr1 zY zP zX (z4 (qv 0) (z4 z9 z8))) z9) (zF (yB (y4 (z4 zH (z4 (qv 4) (z4 (qv 8) (z4 (qv 7) z8))))))) yC)
   (zF (yB (y4 (z4 zH (z4 (qv 4) (z4 (qv 8) z8)))))))))))))),λxs st Q h=> ?_⟩
 obtain⟨i,nm,kd,r,bg,ls,ws,a,b,rfl,hbg,hi,hb,hwe,hwl,hll,q⟩:=h;have hset: ∀{a b:Int},(st.set i (zC a b))[i]?=some (zC a b):=λ{a b} =>tS hi;have hw0:0 < ws.length:=gx.mpr hwe;symm;simp? only[hbg];symm;simp? only[ac];refine⟨i,(ws.length:Int),a,b,rfl,hi,hb,by omega,by omega,λd a b d0 d1 hb=> ?_⟩;obtain⟨wd,_,ew⟩:=o6 PV.str (ns:=ws) d0 d1;simp? only[ew];symm;by_cases k1:kd= "bag"
 ·subst k1
  simp? only[beq_self_eq_true];refine⟨i,2,a,b,rfl,hset,hb,by decide,by decide,λg a b g0 g1 hb=> ?_⟩;have hg:g=0∨g=1:=by omega
  rcases hg with rfl | rfl
  ·simp? only[set_set]
   exact q (.bag true nm wd) a b ⟨rfl,λx hx=>(by cases hx),rfl⟩ hb
  ·simp? only[set_set]
   exact q (.bag false nm wd) a b ⟨rfl,λx hx=>(by cases hx),rfl⟩ hb
 have n1:(kd==("bag" :Str))=false:=by simpa using k1
 simp? only[n1];symm
 ac_nf
 refine⟨i,ls,a,b,rfl,hset,hb,jO,hll,λt a b tok vX hb=> ?_⟩;simp? only[set_set];symm;by_cases k2:kd= "sum"
 ·subst k2
  simp? only[beq_self_eq_true];exact⟨sC t,q (.more nm t) a b ⟨rfl,λx hx=>(by cases hx;exact⟨tok,vX⟩),rfl⟩ hb⟩
 have n2:(kd==("sum" :Str))=false:=by simpa using k2
 simp? only[n2];symm;by_cases k3:kd= "row"
 rotate_left
 ·have n3:(kd==("row" :Str))=false:=by simpa using k3
  simp? only[n3];exact⟨sC t,q (.set nm t) a b ⟨rfl,λx hx=>(by cases hx;exact⟨tok,vX⟩),k1,k3,k2⟩ hb⟩
 subst k3;simp? only[beq_self_eq_true];refine tZ (λenv s=> ∃(t:Tm Lf) (a b:Int),env= [some (PV.obj i),some (.tup [.str nm,.tup (.str "row" ::r),bg]),some (.lst (ls.map Lf.pv)),some (.lst (ws.map PV.str)),some (.str nm),some (.tup (.str "row" ::r)),some bg,some (.str wd),some (t.pv Lf.pv)]/\s=st.set i (zC a b)/\y7 a b/\t.ok (λl=>l∈ls)/\t.rank < 7) (λN hN=> ?_) ?_
 ·ac_nf
  refine⟨i,2,a,b,rfl,hset,hb,by decide,by decide,λg a b g0 g1 hb=> ?_⟩;simp? only[set_set];by_cases h0:g=0
  ·subst h0
   simp? only[beq_self_eq_true];refine⟨i,6,a,b,rfl,hset,hb,by decide,by decide,λe a b e0 e1 hb=> ?_⟩;simp? only[set_set];exact hN _ _ ⟨.num e,a,b,rfl,rfl,hb,⟨e0,by omega⟩,by show 0 < 7;decide⟩
  ·have nf:(g==0)=false:=by simpa using h0
   simp? only[nf];exact hN _ _ ⟨t,a,b,rfl,rfl,hb,tok,vX⟩
 ·rintro env s0 ⟨t,a,b,rfl,rfl,hb,tok,vX⟩
  symm
  ac_nf
  refine⟨i,5,a,b,rfl,hset,hb,by decide,by decide,λg a b g0 g1 hb=> ?_⟩;simp? only[set_set];by_cases h1:1 < g
  ·have hd:decide (1 < g)=true:=decide_eq_true h1
   simp? only[hd];exact⟨sC t,q (.lay nm t wd) a b ⟨rfl,λx hx=>(by cases hx;exact⟨tok,vX⟩),rfl⟩ hb⟩
  ·have hd:decide (1 < g)=false:=decide_eq_false h1
   simp? only[hd];exact⟨sC t,q (.drop nm t) a b ⟨rfl,λx hx=>(by cases hx;exact⟨tok,vX⟩),rfl⟩ hb⟩
theorem zpA {f:Addr}{fd:FuncData}(M:Mo w K mg)(F:yD K "_law_row" "_law_row" hZ f fd):zU P w K mg base y3 12 f fd ["_law_box_here","_law_uses","_law_things"] (y2 K gU):=by
 obtain⟨_,_,zP,zX,zY⟩:=M._law_take;have zW:= @uQ P w K mg base _ _ M zP;obtain⟨zcm,zco,pV,kU,jR⟩:=M._law_any_term;have kD:zU P w K mg base y3 10 zcm zco ["_law_box_here","_law_leaves_here"] (y2 K (zd9 Lf.pv)):=zjl M pV;obtain⟨_,_,zel,zmr,zo9⟩:=M._law_leaves;have zl5:= @zp7 P w K mg base _ _ M zel;obtain⟨_,_,zek,zmq,zo8⟩:=M._law_deed;have zl3:= @zp5 P w K mg base _ _ M zek;refine yW 0 F nL (λxs st Q h=>by obtain⟨i,sh,ws,a,b,rfl,_⟩:=h;rfl) ⟨_,λcdv A outer s H E hr=>have hr1:zL 1 _:=hr.mono (by decide);have hr2:zL 2 _:=hr.mono (by decide);have hr10:zL 10 _:=hr.mono (by decide);have hr11:zL 11 _:=hr.mono (by decide);(zA (vI (qv 1) (nF (n:=2) rfl (wW (qn 3 nL.nd) (wW (qn 4 nL.nd) pE))))
   (zA (qz 5 nL.nd (qk zl5 hr2 zo9 zel zmr (z4 (qv 0) (z4 (qv 4) (z4 (qv 2) z8)))))
   (zA (qz 6 nL.nd (y4 (z4 zH (z4 (qk kD hr10 jR pV kU (z4 (qv 0) (z4 (qv 5) z8))) z8))))
   (zA (y9 (PW.pt (qO (qc tH (wH wN (by rfl) M.len df (z4 (qv 3) z8)) z9) (qP (qc tH (qk zW hr1 zY zP zX (z4 (qv 0) (z4 z9 z8))) z9)))) (zF (qz 6 nL.nd (qk zl3 hr11 zo8 zek zmq (z4 (qv 0) (z4 (qx hr (qv 3) (qk zW hr1 zY zP zX (z4 (qv 0) (z4 (wH wN (by rfl) M.len df (z4 (qv 3) z8)) z8)))) (z4 (qv 5) (z4 (qv 2) z8))))))) yC)
   (zA (y9 (qc (yV hr) (qk zW hr1 zY zP zX (z4 (qv 0) (z4 z9 z8))) z9) (zF (yB (y4 (z4 zH (z4 (qk kD hr10 jR pV kU (z4 (qv 0) (z4 (qv 5) z8))) (z4 (qv 6) z8)))))) yC)
   (zF (yB (qv 6)))))))),λxs st Q h=> ?_⟩
 obtain⟨i,sh,ws,a,b,rfl,hi,hb,hsh,hse,hsl,hwe,hwl,q⟩:=h;have hset: ∀{a b:Int},(st.set i (zC a b))[i]?=some (zC a b):=λ{a b} =>tS hi;have hs0:0 < sh.length:=gx.mpr hse;have hk: ∀s∈sh,∃kd,fW s kd:=λs hs=>let⟨kd,r,h,e,_⟩:=hsh s hs;⟨kd,r,e⟩;symm
 ac_nf
 symm
 ac_nf
 refine⟨i,sh,ws,a,b,rfl,hi,hb,hk,by omega,hwe,hwl,λls a b lll hls hb=> ?_⟩;have tf: ∀{t:Tm Lf},t.ok (λl=>l∈ls)->t.rank < 7->o4 sh t:=λh1 h2=>⟨Tm.ok_mono (λl hl=>hls l hl) h1,h2⟩
 ac_nf
 symm
 ac_nf
 refine⟨i,ls,a,b,rfl,hset,hb,jO,by omega,λt a b tok vX hb=> ?_⟩;simp? only[set_set,sC];refine tZ (λenv s=> ∃(d:Dd) (a b:Int),env= [some (PV.obj i),some (.tup [.lst (sh.map zZ),.lst (sh.map zZ)]),some (.lst (ws.map PV.str)),some (.lst (sh.map zZ)),some (.lst (sh.map zZ)),some (.lst (ls.map Lf.pv)),some d.pv]/\s=st.set i (zC a b)/\y7 a b/\zei sh d) (λN hN=> ?_) ?_
 ·have hd0:decide ((0:Int) < (sh.length:Int))=true:=decide_eq_true (by omega)
  simp? only[ac,hd0];refine⟨i,6,a,b,rfl,hset,hb,by decide,by decide,λg a b g0 g1 hb=> ?_⟩;simp? only[set_set];by_cases hg:0 < g
  ·have hd:decide (0 < g)=true:=decide_eq_true hg
   simp? only[hd,ac];refine⟨i,(sh.length:Int),a,b,rfl,hset,hb,by omega,by omega,λe a b e0 e1 hb=> ?_⟩;obtain⟨n,rfl⟩: ∃n:Nat,e=n:=⟨e.toNat,by omega⟩;have hn:sh[n]?=some sh[n]:=bu (by omega);obtain⟨kd,r,h,es,hm,eb,hv⟩:=hsh _ (bi.mpr ⟨n,hn⟩);have er:atI (sh.map zZ) (n:Int)=some (.tup [.str sh[n].1,.tup (.str kd::r),h.pv]):=by
    rw[zsn hn];unfold zZ;rw[es,eb]
   simp? only[set_set,er];refine⟨i,sh[n].1,kd,r,h.pv,ls,ws,a,b,rfl,zio h,hset,hb,hwe,hwl,by omega,λd a b hd hb=> ?_⟩;simp? only[set_set];obtain⟨d1,d2,d3⟩:=hd;exact hN _ _ ⟨d,a,b,rfl,rfl,hb,λx hx=>tf (d2 x hx).1 (d2 x hx).2,λs hs=>⟨sh[n],bi.mpr ⟨n,hn⟩,by rw[d1]at hs;exact ce hs,kd,r,es,d3⟩⟩
  ·have hd:decide (0 < g)=false:=decide_eq_false hg
   simp? only[hd];exact hN _ _ ⟨.tell t,a,b,rfl,rfl,hb,λx hx=>(by cases hx;exact tf tok vX),λs hs=>by cases hs⟩
 ·rintro env s0 ⟨d,a,b,rfl,rfl,hb,hD⟩
  symm
  ac_nf
  refine⟨i,4,a,b,rfl,hset,hb,by decide,by decide,λg a b g0 g1 hb=> ?_⟩;simp? only[set_set];by_cases h0:g=0
  ·subst h0
   simp? only[beq_self_eq_true];refine⟨i,ls,a,b,rfl,hset,hb,jO,by omega,λt a b tok vX hb=> ?_⟩;simp? only[set_set,sC];exact⟨dI d,q (some t,d) a b ⟨λx hx=>(by cases hx;exact tf tok vX),hD⟩ hb⟩
  ·have nf:(g==0)=false:=by simpa using h0
   simp? only[nf];exact znu (dI d) (q (none,d) a b ⟨λx hx=>(by cases hx),hD⟩ hb)
theorem zp6 {f:Addr}{fd:FuncData}(M:Mo w K mg)(F:yD K "_law_join" "_law_join" iZ f fd):zU P w K mg base y3 2 f fd ["_law_box_here","_law_plan","_law_rows","_law_held"] (y2 K zdA):=by
 obtain⟨_,_,zP,zX,zY⟩:=M._law_take;have zW:= @uQ P w K mg base _ _ M zP;refine yW 0 F zkg (λxs st Q h=>by obtain⟨S,i,p,r,h,e,kv,names,E,a,b,w0,hd,rfl,_⟩:=h;rfl) ⟨_,λcdv A outer s H E hr=>have hr1:zL 1 _:=hr.mono (by decide);(zA (qz 4 zkg.nd (wO cb np nq (by decide) zjj (qv 3) (z4 (qk zW hr1 zY zP zX (z4 (qv 0) (z4 (wH wN (by rfl) M.len df (z4 (qv 3) z8)) z8))) z8)))
   (zA (xC (wO cb cu cw (by decide) tG (qv 2) (z4 (y4 (z4 zH (z4 (qx hr (vF (vT hr) (qv 1) zH (λ_ _=>rfl)) (qv 4)) z8))) z8)))
   (zF (xC (wO cb rg rh (by decide) zjf (qv 3) (z4 (qx hr (vF (vT hr) (qv 1) zH (λ_ _=>rfl)) (qv 4)) z8)))))),λxs st Q h=> ?_⟩
 obtain⟨S,i,p,r,h,e,kv,names,E,a,b,w0,hd,rfl,rfl,L,hb,hne,hl1,hl2,hx,q⟩:=h;have hlen: ∀{a b a' b':Int} {w w' d d':List PV},(S a' b' w' d').take (S a b w d).length=S a' b' w' d':=λ{a b a' b' w w' d d'} =>by
  rw[L.len (a':=a') (b':=b') (w':=w') (d':=d')];exact ig
 obtain⟨gi,si,gr,sr,gh,sh',gp,ge⟩:=L;have hpos:0 < hd.length:=gx.mpr hne;have nm:zI kv (.inr "names")=some (.lst (names.map PV.str)):=hx.1;have en:zI kv (.inr "ends")=some (.obj e):=hx.2.1;symm;simp? only[gh,ac];refine⟨i,hd.length,a,b,rfl,gi,hb,by omega,by omega,λk a b k0 k1 hb=> ?_⟩;obtain⟨k,rfl⟩: ∃n:Nat,k=n:=⟨k.toNat,by omega⟩;have hk:k < hd.length:=by omega
 obtain⟨x,hxk⟩: ∃x,hd[k]?=some x:=⟨_,bu hk⟩;obtain⟨hxn,l,hll,hlv⟩:=hx.2.2 x (bi.mpr ⟨k,hxk⟩);obtain⟨nmx,hnx⟩: ∃z,names[x]?=some z:=⟨_,bu hxn⟩;have hix:atI (names.map PV.str) (x:Int)=some (.str nmx):=vM (by rw[cg,hnx];rfl);have hel:(hd.eraseIdx k).length<=1000:=bf (kg ..) hl1;have he:(hd.map yL).eraseIdx k=(hd.eraseIdx k).map yL:=dO;simp? only[si,zdm];refine⟨h,k,yL x,_,rfl,rfl,gh,by rw[cg,hxk];rfl,?_⟩;rw[he];simp? only[sh'];symm;simp? only[gp,nm,hix,gr,sr,wG];refine⟨ky hl2 (by decide),?_⟩;rw[gh,en];refine⟨rfl,?_⟩;have ge':= @ge;simp? only[ge,hlv,gh,sh',ac];refine⟨by rw[cx];omega,?_⟩;rw[<- av,hlen];exact q k x l nmx a b hxk hnx hlv hb
theorem zjn {f:Addr}{fd:FuncData}(M:Mo w K mg)(F:yD K "_law_hand" "_law_hand" iY f fd)(mI:wT K fd ["_law_script","_law_at","_law_plan","_law_number_here"] [])(mR:mg "_law_hand" =some (.ref f)): ∀d,zU P w K mg base y3 (d+13) f fd ["_law_script","_law_at","_law_plan","_law_number_here"] (y2 K (gQ d))
 | 0=>⟨λvs H Q E h=>(zkv h).elim,λA outer s H args us vs Q E _ _ _ _ h=>(zkv h).elim⟩
 | d+1=>by
  have IH:zU P w K mg base y3 (d+13) f fd ["_law_script","_law_at","_law_plan","_law_number_here"] (y2 K (gQ d)):=zjn M F mI mR d;obtain⟨_,_,nZ,eR,zcA⟩:=M._law_box;have fP:= @zjm P w K mg base _ _ M nZ;obtain⟨_,_,zP,zX,zY⟩:=M._law_take;have zW:= @uQ P w K mg base _ _ M zP;obtain⟨_,_,fJ,zeP,ziN⟩:=M._law_row;have ze3:= @zpA P w K mg base _ _ M fJ;obtain⟨_,_,fI,zeO,ziM⟩:=M._law_join;have ze2:= @zp6 P w K mg base _ _ M fI;have k9:=F;refine yW 0 F pK (λxs st Q h=>by obtain⟨ns,at',n,a0,kv,names,things,shl,many,sp,E,R,m0,rfl,_⟩:=h;rfl) ⟨_,λcdv A outer s H E hr=>have hr1:zL 1 _:=hr.mono (by omega);have hr2:zL 2 _:=hr.mono (by omega);have hr12:zL 12 _:=hr.mono (by omega);(zA (qz 4 pK.nd (qk fP hr1 zcA nZ eR (z4 (qv 0) (z4 (zS yY (qv 1) (qv 3)) z8))))
   (zA (qz 5 pK.nd (qx hr (vF (vT hr) (qv 2) zH (λ_ _=>rfl)) (qv 3)))
   (zA (zrx (i:=6) (j:=7) rfl pK.nd rfl rfl (by decide) rfl rfl (z4 (rS z8) (z4 (rS z8) z8)) (by rfl))
   (zA (vV dh rfl (nG (by rfl) M.range (z4 (qk zW hr1 zY zP zX (z4 (qv 4) (z4 z9 z8))) z8)) (qn 8 pK.nd) (zA (qz 9 pK.nd (qk zW hr1 zY zP zX (z4 (qv 4) (z4 z9 z8))))
   (zF (y9 (PW.pt (qO (qc oZ (qv 9) z9) (qP (qc tH (wH wN (by rfl) M.len df (z4 (vF (vT hr) (qv 2) zH (λ_ _=>rfl)) z8)) z9)))) (zA (qz 10 pK.nd (wO cb np nq (by decide) zjj (vF (vT hr) (qv 2) zH (λ_ _=>rfl)) (z4 (qk zW hr1 zY zP zX (z4 (qv 4) (z4 (wH wN (by rfl) M.len df (z4 (vF (vT hr) (qv 2) zH (λ_ _=>rfl)) z8)) z8))) z8)))
   (zA (vI (qk IH hr mR k9 mI (z4 (qv 0) (z4 (qv 1) (z4 (qv 2) (z4 (qv 10) z8))))) (tY hr (vF (vT hr) (qv 2) zH (λ_ _=>rfl)) (qv 10)))
   (zA (xC (wO cb cu cw (by decide) tG (qv 6) (z4 (y4 (z4 zH (z4 (qx hr (vF (vT hr) (qv 2) zH (λ_ _=>rfl)) (qv 10)) z8))) z8)))
   (zF (xC (wO cb cu cw (by decide) tG (qv 7) (z4 (qv 10) z8))))))) (zF (y9 (PW.pt (qO (qc (yV hr) (qv 9) z9) (qP (qc tH (wH wN (by rfl) M.len df (z4 (qv 7) z8)) z9)))) (zF (xC (qk ze2 hr2 ziM fI zeO (z4 (qv 4) (z4 (qv 2) (z4 (qv 6) (z4 (qv 7) z8))))))) (zF (xC (wO cb cu cw (by decide) tG (qv 6) (z4 (qk ze3 hr12 ziN fJ zeP (z4 (qv 4) (z4 (qv 5) (z4 (vF (vT hr) (qv 2) zH (λ_ _=>rfl)) z8)))) z8))))))))))
   (zA (zjP dh (PW.pt (qO (qc tH (wH wN (by rfl) M.len df (z4 (qv 7) z8)) z9) (qP (PW.pt (mZ (qc (yV hr) (qv 3) z9) (iL (qc tH (qk zW hr1 zY zP zX (z4 (qv 4) (z4 z9 z8))) z9))))))) (zA (y9 (PW.pt (qO (qc oZ (wH wN (by rfl) M.len df (z4 (qv 6) z8)) z9) (qP (qc (yV hr) (qk zW hr1 zY zP zX (z4 (qv 4) (z4 z9 z8))) z9)))) (zF (xC (wO cb cu cw (by decide) tG (qv 6) (z4 (qk ze3 hr12 ziN fJ zeP (z4 (qv 4) (z4 (qv 5) (z4 (vF (vT hr) (qv 2) zH (λ_ _=>rfl)) z8)))) z8)))) yC)
   (zF (xC (qk ze2 hr2 ziM fI zeO (z4 (qv 4) (z4 (qv 2) (z4 (qv 6) (z4 (qv 7) z8)))))))))
   (zA (vI (y4 (z4 (qx hr (vF (vT hr) (qv 2) zH (λ_ _=>rfl)) (qv 3)) (z4 (wP (rR rfl) (by rfl) M.tuple rE (z4 (qv 6) z8)) z8))) (tY hr (vF (vT hr) (qv 2) zH (λ_ _=>rfl)) (qv 3)))
   (zF (yB (qv 7))))))))),λxs st Q h=> ?_⟩
  obtain⟨ns,at',n,a0,kv,names,things,shl,many,sp,E,R,m0,rfl,rfl,H,hd8,q⟩:=h;have hu:atI (List.replicate many (PV.tup [.lst (shl.map zZ),.lst (shl.map zZ)])) (n:Int)=some (.tup [.lst (shl.map zZ),.lst (shl.map zZ)]):=vM (by rw[im,if_pos H.nlt]);have kn:=H.K.nms;have kt:=H.K.tgs;have ku:=H.K.uses;have ks:=H.K.spare;have ke:=H.K.ends;have kr:=H.K.rows;symm
  ac_nf
  refine⟨ns,_,rfl,H.nl,by have:=H.a0;omega,λa b hb=> ?_⟩;simp? only[ze4,ze5];symm;simp? only[wD,ku,hu,wG];symm;simp? only[ze4,ze5];have e3: ∀{x y z:PO},m0++ [x]++ [y]++ [z]=m0++ [x,y,z]:=λ{x y z} =>by simp
  have l1: ∀{x:PO},(m0++ [x]).length+5=m0.length+6:=λ{x} =>by simp
  have l2: ∀{x y:PO},(m0++ [x]++ [y]).length+5=m0.length+7:=λ{x y} =>by simp
  rw[e3,l1,l2];have enm: ∀{x:Nat},x < names.length->atI (names.map PV.str) (x:Int)=some (.str (zD names x)):=λ{x} hx=>vM (by rw[cg,jV hx];rfl);have insp: ∀x∈sp,x < names.length:=λx hx=>bj (H.sm x hx) H.nml;have inj: ∀a∈sp,∀b∈sp,zD names a=zD names b->a=b:=λa ha b hb e=>mU H.nn (insp a ha) (insp b hb) e;have env0: ∃ev:Option PV->Option PV->Option PV->zG,ev=λv8 v9 v10=> [some (PV.lst (ns.map PV.int)),some (.int at'),some (.obj 4),some (.int (n:Int)),some (.obj (m0.length+5)),some (.tup [.lst (shl.map zZ),.lst (shl.map zZ)]),some (.obj (m0.length+6)),some (.obj (m0.length+7)),v8,v9,v10]:=⟨_,rfl⟩;obtain⟨ev,hev⟩:=env0;have big:(2000:Nat) < sizeLine:=by rw[cx];decide
  refine tZ (λenv s=> ∃(sp' ks:List Nat) (X:List Re) (E1:List Ee) (rs:List Rh) (hd:List Nat) (a b:Int) (v8 v9 v10:Option PV),env=ev v8 v9 v10/\s=G a0 kv (zD names) sp' (E++E1) (R++X) (m0++ [zC a b,.lst (rs.map Rh.pv),.lst (hd.map yL)])/\LK shl (zD names) sp E sp' ks X E1 rs hd/\rs.length<=8/\y7 a b) (λN hN=> ?_) ?_
  ·ac_nf
   refine⟨m0.length+5,9,a,b,rfl,xU,hb,by decide,by decide,λt a b t0 t1 hb=> ?_⟩;simp? only[xY];refine⟨⟨by omega,by omega⟩,vQ (λk env s=> ∃(sp' ks:List Nat) (X:List Re) (E1:List Ee) (rs:List Rh) (hd:List Nat) (a b:Int) (v8 v9 v10:Option PV),env=ev v8 v9 v10/\s=G a0 kv (zD names) sp' (E++E1) (R++X) (m0++ [zC a b,.lst (rs.map Rh.pv),.lst (hd.map yL)])/\LK shl (zD names) sp E sp' ks X E1 rs hd/\rs.length<=k/\y7 a b) ⟨sp,[],[],[],[],[],a,b,none,none,none,by rw[hev],by simp,LK.start H.sn,ao _,hb⟩ ?_ ?_⟩
   ·rintro k x env s hx ⟨sp',ks',X,E1,rs,hd,a,b,v8,v9,v10,rfl,rfl,I,hrl,hb⟩
    obtain⟨hk,rfl⟩:=pI hx;have hIl:=I.len;have hs7:=H.s7;subst hev
    ac_nf
    symm
    ac_nf
    refine⟨m0.length+5,8,a,b,rfl,xU,hb,by decide,by decide,λkind a b k0 k1 hb=> ?_⟩;simp? only[xY];have hrl':rs.length<=8:=by omega
    have done: ∀{y2 ks2:List Nat} {X2:List Re} {E2:List Ee} {rs2:List Rh} {hd2:List Nat} {a b:Int} {v8 v9 v10:Option PV},LK shl (zD names) sp E y2 ks2 X2 E2 rs2 hd2->rs2.length<=k+1->y7 a b->∃(sp' ks:List Nat) (X:List Re) (E1:List Ee) (rs:List Rh) (hd:List Nat) (a' b':Int) (v8' v9' v10':Option PV),[some (PV.lst (ns.map PV.int)),some (.int at'),some (.obj 4),some (.int (n:Int)),some (.obj (m0.length+5)),some (.tup [.lst (shl.map zZ),.lst (shl.map zZ)]),some (.obj (m0.length+6)),some (.obj (m0.length+7)),v8,v9,v10]= [some (PV.lst (ns.map PV.int)),some (.int at'),some (.obj 4),some (.int (n:Int)),some (.obj (m0.length+5)),some (.tup [.lst (shl.map zZ),.lst (shl.map zZ)]),some (.obj (m0.length+6)),some (.obj (m0.length+7)),v8',v9',v10']/\G a0 kv (zD names) y2 (E++E2) (R++X2) (m0++ [zC a b,.lst (rs2.map Rh.pv),.lst (hd2.map yL)])=G a0 kv (zD names) sp' (E++E1) (R++X) (m0++ [zC a' b',.lst (rs.map Rh.pv),.lst (hd.map yL)])/\LK shl (zD names) sp E sp' ks X E1 rs hd/\rs.length<=k+1/\y7 a' b':=λ{y2 ks2 X2 E2 rs2 hd2 a b v8 v9 v10} I2 h2 hb=>⟨y2,ks2,X2,E2,rs2,hd2,a,b,v8,v9,v10,rfl,rfl,I2,h2,hb⟩;have plain: ∀{r:Rw} {a b:Int} {v8 v9 v10:Option PV},qC shl r->y7 a b->_:=λ{r a b v8 v9 v10} hr hb=>done (v8:=v8) (v9:=v9) (v10:=v10) (I.plain hr) (by rw[ai,bw];omega) hb;by_cases hk3:kind < 3
    ·have d3:decide (kind < 3)=true:=decide_eq_true hk3
     rw[d3];by_cases hsp:sp'= []
     ·subst hsp
      simp? only[wZ,v0,wK,wD,xU,v6,wU,xY,v7,vA,kn,kt,ks,ke,kr,wG,ac];have hk3':(kind==3)=false:=by simp;omega
      rw[hk3']
      ac_nf
      refine zdv H hb λr a b hr hb=> ?_;simp? only[wZ,v0,wK,wD,xU,v6,wU,xY,v7,vA,kn,kt,ks,ke,kr,wG,ac,iU];refine⟨by omega,?_⟩;have:=plain (v8:=some (.int (0+(k:Int)))) (v9:=some (.int kind)) (v10:=v10) hr hb;rw[av]at this;exact this
     ·have hpos:0 < sp'.length:=gx.mpr hsp
      have hdp:decide (0 < ((sp'.length:Nat):Int))=true:=decide_eq_true (by omega);simp? only[wZ,v0,wK,wD,xU,v6,wU,xY,v7,vA,kn,kt,ks,ke,kr,wG,ac,hdp];symm;simp? only[wZ,v0,wK,wD,xU,v6,wU,xY,v7,vA,kn,kt,ks,ke,kr,wG,ac];refine⟨m0.length+5,sp'.length,a,b,rfl,xU,hb,by omega,by omega,λi a b i0 i1 hb=> ?_⟩;obtain⟨i,rfl⟩: ∃n:Nat,i=n:=⟨i.toNat,by omega⟩;have hi:i < sp'.length:=by omega
      obtain⟨j,hj⟩: ∃j,sp'[i]?=some j:=⟨_,bu hi⟩;have hjs:j∈sp':=bi.mpr ⟨i,hj⟩;have hjsp:j∈sp:=I.sub j (af _ hjs);simp? only[wZ,v0,wK,wD,xU,v6,wU,xY,v7,vA,kn,kt,ks,ke,kr,wG,ac,zdm];refine⟨1,i,yL j,_,rfl,rfl,wZ,by rw[cg,hj];rfl,?_⟩;rw[dO,zl_]
      ac_nf
      symm
      ac_nf
      have hlt:=kg sp' i;have hlt2:(sp'.eraseIdx i).length < sp'.length:=by rw[List.length_eraseIdx,if_pos hi];omega
      refine⟨ns,at',j,a0,kv,names,things,shl,many,sp'.eraseIdx i,E++E1,R++X,_,rfl,rfl,H.kid I.toLI hj,by omega,λspc ksc Xc E1c rsc hdc C _ hcl=> ?_⟩;have hjn:j < names.length:=insp j hjsp;have ej:=enm hjn;have Cl:=C.len;have ee1:E1.length=ks'.length:=by rw[<- I.ek,ac]
      have ee2:E1c.length=ksc.length:=by rw[<- C.ek,ac]
      have helh:=H.el;have hjne:j∉(E++E1++E1c).map (·.1):=by
       have hk:=H.kid I.toLI hj;rw[av,au,not_or,C.ek];refine⟨?_,λz=>(zf9 (ba.mp I.nd).2.1 hj (C.sub j (ax _ z))).2 rfl⟩;rw[av,au,not_or,I.ek];exact⟨H.de j hjsp,λz=>(ba.mp I.nd).2.2 j z j hjs rfl⟩
      have hen:=zno (l:=hdc) hjne;have hel2:(wL (E++E1++E1c)).length<=200:=by unfold wL;rw[ac,ai,ai];omega
      have I2:=LK.split inj I hj C hcl;simp? only[wZ,v0,wK,wD,xU,v6,wU,xY,v7,vA,kn,kt,ks,ke,kr,wG,ac];refine⟨by omega,?_⟩;rw[hen,zlA];symm;simp? only[wZ,v0,wK,wD,xU,v6,wU,xY,v7,vA,kn,kt,ks,ke,kr,wG,ac,ej];have hhl:=I.hl;refine⟨by omega,by omega,?_⟩;have:=done (v8:=some (.int (0+(k:Int)))) (v9:=some (.int kind)) (v10:=some (yL j)) I2 (by rw[ai,bw];omega) hb;rw[<- bh E,<- bh (E++E1),<- bh R,<- bh (R++X),av,av]at this;exact this
    ·have d3:decide (kind < 3)=false:=decide_eq_false hk3
     rw[d3];simp? only[wZ,v0,wK,wD,xU,v6,wU,xY,v7,vA,kn,kt,ks,ke,kr,wG,ac];by_cases he3:kind=3/\hd≠ []
     ·obtain⟨rfl,hne⟩:=he3
      have hdp:decide (0 < ((hd.length:Nat):Int))=true:=decide_eq_true (by have:=gx.mpr hne;omega);simp? only[beq_self_eq_true,hdp];refine zi7 H I.toLI (by omega) hb hne λk' x l a b hx hl hb=> ?_;exact done (I.join inj hx hl).1 (by rw[ai,bw];omega) hb
     ·have rowc: ∀{Q:K3},(∀(r:Rw) a b,qC shl r->y7 a b->Q r.pv (G a0 kv (zD names) sp' (E++E1) (R++X) (m0++ [zC a b,.lst (rs.map Rh.pv),.lst (hd.map yL)])))->gU [.obj (m0.length+5),.tup [.lst (shl.map zZ),.lst (shl.map zZ)],.lst (things.map PV.str)] (G a0 kv (zD names) sp' (E++E1) (R++X) (m0++ [zC a b,.lst (rs.map Rh.pv),.lst (hd.map yL)])) Q:=λq=>zdv H hb q
      have rowd: ∀(r:Rw) a b,qC shl r->y7 a b->_:=λr a b hr hb=>plain (v8:=some (.int (0+(k:Int)))) (v9:=some (.int kind)) (v10:=v10) (a:=a) (b:=b) hr hb;by_cases hkk:kind=3
      ·have hnil:hd= []:=Classical.byContradiction λz=>he3 ⟨hkk,z⟩
       subst hkk hnil;simp? only[beq_self_eq_true];refine rowc λr a b hr hb=> ?_;simp? only[wZ,v0,wK,wD,xU,v6,wU,xY,v7,vA,kn,kt,ks,ke,kr,wG,ac,iU];refine⟨by omega,?_⟩;have:=rowd r a b hr hb;rw[av]at this;exact this
      ·have hk3':(kind==3)=false:=by simpa using hkk
       rw[hk3']
       ac_nf
       refine rowc λr a b hr hb=> ?_;simp? only[wZ,v0,wK,wD,xU,v6,wU,xY,v7,vA,kn,kt,ks,ke,kr,wG,ac,iU];refine⟨by omega,?_⟩;have:=rowd r a b hr hb;rw[av]at this;exact this
   ·rintro env s ⟨sp',ks',X,E1,rs,hd,a,b,v8,v9,v10,rfl,rfl,I,hrl,hb⟩
    rw[rV]at hrl
    ac_nf
    exact hN _ _ ⟨sp',ks',X,E1,rs,hd,a,b,v8,v9,v10,rfl,rfl,I,by omega,hb⟩
  ·rintro env s ⟨sp0,ks0,X0,E0,rs0,hd0,a,b,v8,v9,v10,rfl,rfl,I0,hrl0,hb0⟩
   have hs7:=H.s7;have hw0:=I0.wt;have hk0:=I0.len;refine tZ (λenv s=> ∃(sp' ks:List Nat) (X:List Re) (E1:List Ee) (rs:List Rh) (hd:List Nat) (a b:Int) (v8 v9 v10:Option PV),env=ev v8 v9 v10/\s=G a0 kv (zD names) sp' (E++E1) (R++X) (m0++ [zC a b,.lst (rs.map Rh.pv),.lst (hd.map yL)])/\LK shl (zD names) sp E sp' ks X E1 rs hd/\(n=0->hd= [])/\rs.length<=30) (λN hN=> ?_) ?_
   ·refine⟨λm env s=> ∃(sp' ks:List Nat) (X:List Re) (E1:List Ee) (rs:List Rh) (hd:List Nat) (a b:Int) (v8 v9 v10:Option PV),env=ev v8 v9 v10/\s=G a0 kv (zD names) sp' (E++E1) (R++X) (m0++ [zC a b,.lst (rs.map Rh.pv),.lst (hd.map yL)])/\LK shl (zD names) sp E sp' ks X E1 rs hd/\y7 a b/\m=(hd.map (wE (E++E1))).sum/\rs.length+2 * m<=22,⟨_,sp0,ks0,X0,E0,rs0,hd0,a,b,v8,v9,v10,rfl,rfl,I0,hb0,rfl,by omega⟩,?_⟩
    rintro m env s ⟨sp',ks',X,E1,rs,hd,a,b,v8,v9,v10,rfl,rfl,I,hb,rfl,hrl⟩;have hIl:=I.len;have hhl:=I.hl;subst hev;by_cases hne:hd= []
    ·subst hne
     simp? only[wZ,v0,wK,wD,xU,v6,wU,xY,v7,vA,kn,kt,ks,ke,kr,wG,ac];exact hN _ _ ⟨sp',ks',X,E1,rs,[],a,b,v8,v9,v10,rfl,rfl,I,λ_=>rfl,by omega⟩
    ·have hdp:decide (0 < ((hd.length:Nat):Int))=true:=decide_eq_true (by have:=gx.mpr hne;omega)
     have body: ∀{a b:Int} {D:xM},y7 a b->(∀(rs2:List Rh) (hd2:List Nat) (a b:Int),LK shl (zD names) sp E sp' ks' X E1 rs2 hd2->y7 a b->(hd2.map (wE (E++E1))).sum+1=(hd.map (wE (E++E1))).sum->rs2.length<=rs.length+2->D.nx [some (PV.lst (ns.map PV.int)),some (.int at'),some (.obj 4),some (.int (n:Int)),some (.obj (m0.length+5)),some (.tup [.lst (shl.map zZ),.lst (shl.map zZ)]),some (.obj (m0.length+6)),some (.obj (m0.length+7)),v8,v9,v10] (G a0 kv (zD names) sp' (E++E1) (R++X) (m0++ [zC a b,.lst (rs2.map Rh.pv),.lst (hd2.map yL)])))->
       vY (fE (fB (pR (sD (pG λi j=>decide (i < j)) (r6 iR (uT (vK 6) pQ)) (vC (PV.int 12)))) (pR (sD zde (r6 zk2 (uT (vK 4) (uT (vC (PV.int 3)) pQ))) (vC (PV.int 0))))) (fD (vBM "list" iM (vK 6) (uT (r6 gU (uT (vK 4) (uT (vK 5) (uT (sD iP (vK 2) (vC (PV.str (Str.ofString "things")))) pQ)))) pQ))) zdY) (fD (r6 zdA (uT (vK 4) (uT (vK 2) (uT (vK 6) (uT (vK 7) pQ)))))) D [some (PV.lst (ns.map PV.int)),some (.int at'),some (.obj 4),some (.int (n:Int)),some (.obj (m0.length+5)),some (.tup [.lst (shl.map zZ),.lst (shl.map zZ)]),some (.obj (m0.length+6)),some (.obj (m0.length+7)),v8,v9,v10] (G a0 kv (zD names) sp' (E++E1) (R++X) (m0++ [zC a b,.lst (rs.map Rh.pv),.lst (hd.map yL)])):=by
      intro a b D hb hD;refine tZ (λenv s=> ∃(rs2:List Rh) (a b:Int),env= [some (PV.lst (ns.map PV.int)),some (.int at'),some (.obj 4),some (.int (n:Int)),some (.obj (m0.length+5)),some (.tup [.lst (shl.map zZ),.lst (shl.map zZ)]),some (.obj (m0.length+6)),some (.obj (m0.length+7)),v8,v9,v10]/\s=G a0 kv (zD names) sp' (E++E1) (R++X) (m0++ [zC a b,.lst (rs2.map Rh.pv),.lst (hd.map yL)])/\LK shl (zD names) sp E sp' ks' X E1 rs2 hd/\y7 a b/\rs2.length<=rs.length+1) (λN hN=> ?_) ?_
      ·simp? only[wZ,v0,wK,wD,xU,v6,wU,xY,v7,vA,kn,kt,ks,ke,kr,wG,ac]
       by_cases h12:((rs.length:Nat):Int) < 12
       ·have d12:decide (((rs.length:Nat):Int) < 12)=true:=decide_eq_true h12
        simp? only[d12];refine⟨m0.length+5,3,a,b,rfl,xU,hb,by decide,by decide,λt a b t0 t1 hb=> ?_⟩;simp? only[xY];by_cases ht:t=0
        ·subst ht
         simp? only[beq_self_eq_true,wZ,v0,wK,wD,xU,v6,wU,xY,v7,vA,kn,kt,ks,ke,kr,wG,ac];refine zdv H hb λr a b hr hb=> ?_;simp? only[wZ,v0,wK,wD,xU,v6,wU,xY,v7,vA,kn,kt,ks,ke,kr,wG,ac,iU];refine⟨by omega,hN _ _ ⟨rs++ [.pl r],a,b,rfl,by rw[av];rfl,I.plain hr,hb,by rw[ai,bw];exact ao _⟩⟩
        ·have ht':(t==0)=false:=by simpa using ht
         simp? only[ht'];exact hN _ _ ⟨rs,a,b,rfl,rfl,I,hb,by omega⟩
       ·have d12:decide (((rs.length:Nat):Int) < 12)=false:=decide_eq_false h12
        simp? only[d12];exact hN _ _ ⟨rs,a,b,rfl,rfl,I,hb,by omega⟩
      ·rintro env s ⟨rs2,a,b,rfl,rfl,I2,hb,hr2⟩
       ac_nf
       refine zi7 H I2.toLI (by omega) hb hne λk' x l a b hx hl hb=> ?_;have:=I2.join inj hx hl;exact hD _ _ a b this.1 hb this.2 (by rw[ai,bw];omega)
     simp? only[wZ,v0,wK,wD,xU,v6,wU,xY,v7,vA,kn,kt,ks,ke,kr,wG,ac,hdp];by_cases hn0:n=0
     ·have hn0':(((n:Nat):Int)==0)=true:=by rw[hn0];rfl
      simp? only[hn0'];refine⟨λe s=> ∃(rs2:List Rh) (hd2:List Nat) (a b:Int),e= [some (PV.lst (ns.map PV.int)),some (.int at'),some (.obj 4),some (.int (n:Int)),some (.obj (m0.length+5)),some (.tup [.lst (shl.map zZ),.lst (shl.map zZ)]),some (.obj (m0.length+6)),some (.obj (m0.length+7)),v8,v9,v10]/\s=G a0 kv (zD names) sp' (E++E1) (R++X) (m0++ [zC a b,.lst (rs2.map Rh.pv),.lst (hd2.map yL)])/\LK shl (zD names) sp E sp' ks' X E1 rs2 hd2/\y7 a b/\(hd2.map (wE (E++E1))).sum+1=(hd.map (wE (E++E1))).sum/\rs2.length<=rs.length+2,?_,body hb λrs2 hd2 a b i1 i2 i3 i4=>⟨rs2,hd2,a,b,rfl,rfl,i1,i2,i3,i4⟩⟩;rintro e s ⟨rs2,hd2,a,b,rfl,rfl,h3,h4,h5,h6⟩;exact⟨(hd2.map (wE (E++E1))).sum,by omega,sp',ks',X,E1,rs2,hd2,a,b,v8,v9,v10,rfl,rfl,h3,h4,rfl,by omega⟩
     ·have hn0':(((n:Nat):Int)==0)=false:=by simp;omega
      simp? only[hn0'];refine⟨m0.length+5,3,a,b,rfl,xU,hb,by decide,by decide,λt a b t0 t1 hb=> ?_⟩;simp? only[xY];by_cases ht:0 < t
      ·have ht':decide (0 < t)=true:=decide_eq_true ht
       simp? only[ht'];refine⟨λe s=> ∃(rs2:List Rh) (hd2:List Nat) (a b:Int),e= [some (PV.lst (ns.map PV.int)),some (.int at'),some (.obj 4),some (.int (n:Int)),some (.obj (m0.length+5)),some (.tup [.lst (shl.map zZ),.lst (shl.map zZ)]),some (.obj (m0.length+6)),some (.obj (m0.length+7)),v8,v9,v10]/\s=G a0 kv (zD names) sp' (E++E1) (R++X) (m0++ [zC a b,.lst (rs2.map Rh.pv),.lst (hd2.map yL)])/\LK shl (zD names) sp E sp' ks' X E1 rs2 hd2/\y7 a b/\(hd2.map (wE (E++E1))).sum+1=(hd.map (wE (E++E1))).sum/\rs2.length<=rs.length+2,?_,body hb λrs2 hd2 a b i1 i2 i3 i4=>⟨rs2,hd2,a,b,rfl,rfl,i1,i2,i3,i4⟩⟩;rintro e s ⟨rs2,hd2,a,b,rfl,rfl,h3,h4,h5,h6⟩;exact⟨(hd2.map (wE (E++E1))).sum,by omega,sp',ks',X,E1,rs2,hd2,a,b,v8,v9,v10,rfl,rfl,h3,h4,rfl,by omega⟩
      ·have ht':decide (0 < t)=false:=decide_eq_false ht
       simp? only[ht'];exact hN _ _ ⟨sp',ks',X,E1,rs,hd,a,b,v8,v9,v10,rfl,rfl,I,λz=>absurd z hn0,by omega⟩
   ·rintro env s ⟨sp',ks',X,E1,rs,hd,a,b,v8,v9,v10,rfl,rfl,I,hz,hrl⟩
    subst hev;have en:=enm (bj H.nlt H.nml);have hnk:n∉(R++X).map (·.1):=by
     rw[av,au,not_or,I.xk];exact⟨H.nr,λz=>H.ns' (I.sub n (ax _ z))⟩
    have hrn:=zrS (nm:=zD names) (rs:=rs) hnk;have hxl:X.length=ks'.length:=by rw[<- I.xk,ac]
    have hIl:=I.len;have hrr:=H.rl;have hrl2:(vB (zD names) (R++X)).length<=200:=by unfold vB;rw[ac,ai];omega
    symm;simp? only[wZ,v0,wK,wD,xU,v6,wU,xY,v7,vA,kn,kt,ks,ke,kr,wG,ac,en];refine⟨by omega,?_⟩;rw[show PV.tup [PV.str (zD names n),PV.tup (rs.map Rh.pv)]=y8 (zD names n,rs)from rfl,hrn,zlB];unfold xE;dsimp only;rw[if_neg (by omega),wU];dsimp only;have htk: ∀{m1 m2:z7} {x y:List Nat} {z:List Ee} {u:List Re},(G a0 kv (zD names) x z u (m1++m2)).take (m1.length+5)=G a0 kv (zD names) x z u m1:=λ{m1 m2 x y z u} =>by
     show _::_::_::_::_::((m1++m2).take m1.length)=_;rw[kz (ao _),ig];rfl
    rw[htk (y:= [])];exact q sp' ks' X E1 rs hd I hz hrl
theorem zpB {f:Addr}{fd:FuncData}(M:Mo w K mg)(F:yD K "_law_three_words" "_law_three_words" gC f fd):zU P w K mg base y3 3 f fd ["_law_box_here"] (y2 K zsB):=by
 obtain⟨_,_,zP,zX,zY⟩:=M._law_take;have zW:= @uQ P w K mg base _ _ M zP;obtain⟨_,_,kA,eV,zcC⟩:=M._law_words;have fR:= @zpC P w K mg base _ _ M kA;refine yW 0 F rX (λxs st Q h=>by obtain⟨i,a,b,rfl,_⟩:=h;rfl) ⟨_,λcdv A outer s H E hr=>have hr1:zL 1 _:=hr.mono (by decide);have hr2:zL 2 _:=hr.mono (by decide);(zA (qz 1 rX.nd (qk zW hr1 zY zP zX (z4 (qv 0) (z4 z9 z8))))
   (zA (qz 2 rX.nd (qk fR hr2 zcC kA eV (z4 (qv 0) (z4 z9 z8))))
   (zA (y9 (qc (yV hr) (qv 1) z9) (zA (vI (vG (vG zH (wS (qk zW hr1 zY zP zX (z4 (qv 0) (z4 z9 z8)))) vH) vH (wS z9)) (zru (n:=3) rfl (wW (qn 3 rX.nd) (wW (qn 4 rX.nd) (wW (qn 5 rX.nd) pE)))))
   (zA (qz 2 rX.nd (vU (z4 (qv 3) (z4 (zS yY (qv 3) (qv 4)) (z4 (qv 4) (z4 (zS yY (qv 4) (qv 5)) (z4 (qv 5) z8)))))))
   (zF (qz 2 rX.nd (zS yY (qv 2) (vU (z4 (zS yY (qv 3) (qv 5)) (z4 (zS yY (zS yY (qv 3) (qv 4)) (qv 5)) (z4 (zS yY (qv 5) (qv 4)) z8))))))))) yC)
   (zA (qz 6 rX.nd (qk zW hr1 zY zP zX (z4 (qv 0) (z4 z9 z8))))
   (zA (y9 (PW.pt (mZ (qc (yV hr) (qv 1) z9) (iL (qc (yV hr) (qv 1) z9)))) (zF (yB (y4 (z4 (vG (qv 2) vH (wS z9)) (z4 (zS yY (vG (qv 2) (wS (qv 6)) vH) (vG (qv 2) vH (wS (qv 6)))) (z4 (vG (zrs (qv 2) (wS (zcY zcJ z9))) vH (wS z9)) z8)))))) yC)
   (zF (yB (y4 (z4 (vG (qv 2) vH (wS z9)) (z4 (qk fR hr2 zcC kA eV (z4 (qv 0) (z4 z9 z8))) (z4 (qk fR hr2 zcC kA eV (z4 (qv 0) (z4 z9 z8))) z8))))))))))),λxs st Q h=> ?_⟩
 obtain⟨i,a,b,rfl,hi,hb,q⟩:=h;have hset: ∀{a b:Int},(st.set i (zC a b))[i]?=some (zC a b):=λ{a b} =>tS hi;have small_l:(("abcdefghijklmnopqrstuvwxyz" :Str)).length<=sizeLine:=bf (m:=1000) (by decide+kernel) (by decide);symm
 ac_nf
 refine⟨i,4,a,b,rfl,hi,hb,by decide,by decide,λform a b f0 f1 hb=> ?_⟩
 ac_nf
 symm
 ac_nf
 refine⟨i,8,a,b,rfl,hset,hb,by decide,by decide,λws a b hwl hwn hb=> ?_⟩;have hwl':ws.length=8:=by omega
 ac_nf
 refine tZ (λenv s=> ∃(ws:List Str) (v1 v2 v3:Option PV) (a b:Int),env= [some (PV.obj i),some (.int form),some (.lst (ws.map PV.str)),v1,v2,v3,none]/\ws.length=8/\ws.Nodup/\y7 a b/\s=st.set i (zC a b)) (λN hN=> ?_) ?_
 ·by_cases hf:form=2
  ·subst hf
   simp? only[beq_self_eq_true];symm
   ac_nf
   refine⟨i,24,a,b,rfl,hset,hb,by decide,by decide,λk a b k0 k1 hb=> ?_⟩;obtain⟨n,rfl⟩: ∃n:Nat,k=n:=⟨k.toNat,by omega⟩;have hn:n < 24:=by omega
   have hc:=zmW n hn
   ac_nf
   refine⟨small_l,λl1=>⟨bf l1 small_l,λl2=> ?_⟩⟩;rw[hc];refine⟨rfl,?_⟩;have e3:(nM ⟨#[97+n,97+(n+1),97+(n+2)]⟩).map PV.str= [.str (sg n),.str (sg (n+1)),.str (sg (n+2))]:=rfl;rw[e3];have l1': ∀k,(sg k).length=1:=λk=>rfl;have thou: ∀{n:Nat},n<=1000->n<=sizeLine:=λh=>bf h (by decide)
   ac_nf
   symm;simp? only[l1',le];refine⟨thou (by decide),thou (by decide),?_⟩;simp? only[l1',le];exact⟨thou (by decide),thou (by decide),thou (by decide),thou (by decide),thou (by decide),hN _ _ ⟨zf6 n,_,_,_,a,b,rfl,rfl,znm n hn,hb,rfl⟩⟩
  ·have hf':(form==2)=false:=by simpa using hf
   simp? only[hf'];exact hN _ _ ⟨ws,_,_,_,a,b,rfl,hwl',hwn,hb,rfl⟩
 ·rintro env s ⟨ws,v1,v2,v3,a,b,rfl,hwl,hwn,hb,rfl⟩
  symm
  ac_nf
  refine⟨i,8,a,b,rfl,hset,hb,by decide,by decide,λk a b k0 k1 hb=> ?_⟩;obtain⟨n,rfl⟩: ∃n:Nat,k=n:=⟨k.toNat,by omega⟩
  ac_nf
  symm
  ac_nf
  have e6:w6 (ws.map PV.str) none (some 6)=(ws.take 6).map PV.str:=by rw[show((6:Int))=((6:Nat):Int)from rfl,oA,mz]
  have l6:(ws.take 6).length=6:=by rw[cj];omega
  have n6:(ws.take 6).Nodup:=hwn.sublist (iz _ _);have done:(w6 (ws.map PV.str) (some (n:Int)) none).length+(w6 (ws.map PV.str) none (some (n:Int))).length<=sizeLine/\Q (.tup [.lst (w6 (ws.map PV.str) none (some 6)),.lst (w6 (ws.map PV.str) (some (n:Int)) none++w6 (ws.map PV.str) none (some (n:Int))),.lst (w6 (ws.map PV.str).reverse none (some 6))]) (st.set i (zC a b)):=by
   rw[e6,dH,oA,<- List.map_drop,<- mz,<- av,<- jm,show((6:Int))=((6:Nat):Int)from rfl,oA,<- mz];have hp:(ws.drop n++ws.take n).Perm ws:=fc.trans (by rw[dy]);refine⟨?_,q _ _ _ a b l6 n6 (hp.length_eq.trans hwl) (hp.nodup_iff.mpr hwn) ?_ ?_ (((qf ws).nodup_iff.mpr hwn).sublist (iz _ _)) hb⟩
   ·rw[ac,ac,ll,cj,cx];omega
   ·intro z;have:=congrArg List.length z;rw[cj,cm,hwl]at this;exact absurd this (by decide)
   ·rw[cj];omega
  by_cases hf:form=1∨form=2
  ·rcases hf with rfl | rfl
   ·simp? only[beq_self_eq_true]
    exact done
   ·simp? only[beq_self_eq_true]
    exact done
  ·have hb1:(form==1)=false:=by simp at hf⊢;exact hf.1
   have hb2:(form==2)=false:=by simp at hf⊢;exact hf.2
   simp? only[hb1,hb2];refine⟨i,8,a,b,rfl,hset,hb,by decide,by decide,λns a b hnl hnn hb=> ?_⟩
   ac_nf
   refine⟨i,6,a,b,rfl,hset,hb,by decide,by decide,λts a b htl htn hb=> ?_⟩;rw[e6]
   ac_nf
   exact q _ ns ts a b l6 n6 (by omega) hnn (λz=>by rw[z]at htl;simp at htl) (by omega) htn hb
theorem nd8:(["_law_script","_law_at","_law_kinds","_law_calm","_law_hands","_law_box_here","_law_words_here","_law_names","_law_things","_law_shelves","_law_k","_law_manner_here","_law_many","_law_uses","_law_plan","_law_others","_law_turn","_law_number_here"]:List Str).Nodup:=by decide+kernel
theorem zp9 {f:Addr}{fd:FuncData}(M:Mo w K mg)(F:yD K "_law_program" "_law_program" nJ f fd):zU P w K mg base y3 22 f fd ["_law_script","_law_at","_law_kinds","_law_calm","_law_hands"] (y2 K zs8):=by
 obtain⟨_,_,nZ,eR,zcA⟩:=M._law_box;have fP:= @zjm P w K mg base _ _ M nZ;obtain⟨_,_,zP,zX,zY⟩:=M._law_take;have zW:= @uQ P w K mg base _ _ M zP;obtain⟨_,_,zem,zms,zo_⟩:=M._law_manner;have zl6:= @zp8 P w K mg base _ _ M zem;obtain⟨_,_,zej,zmp,zo7⟩:=M._law_begin;have zl2:= @zp4 P w K mg base _ _ M zej;obtain⟨zn1,zn2,k9,mI,mR⟩:=M._law_hand;have zl4:zU P w K mg base y3 21 zn1 zn2 ["_law_script","_law_at","_law_plan","_law_number_here"] (y2 K (gQ 8)):=zjn M k9 mI mR 8;obtain⟨_,_,zep,zmv,zoC⟩:=M._law_three_words;have zl9:= @zpB P w K mg base _ _ M zep;refine yW 0 F uR (λxs st Q h=>by obtain⟨ns,hands,rfl,_⟩:=h;rfl) ⟨_,λcdv A outer s H E hr=>have hr1:zL 1 _:=hr.mono (by decide);have hr3:zL 3 _:=hr.mono (by decide);have hr10:zL 10 _:=hr.mono (by decide);have hr21:zL 21 _:=hr.mono (by decide);(zA (qz 5 uR.nd (qk fP hr1 zcA nZ eR (z4 (qv 0) (z4 (qv 1) z8))))
   (zA (vI (qk zl9 hr3 zoC zep zmv (z4 (qv 5) z8)) (nF (n:=3) rfl (wW (qn 6 uR.nd) (wW (qn 7 uR.nd) (wW (qn 8 uR.nd) pE)))))
   (zr0 (zcZ (i:=9) uR.nd rfl (Or.inr rfl) (rS z8)) (vV dh rfl (nG (by rfl) M.range (z4 (zS yY z9 (qk zW hr1 zY zP zX (z4 (qv 5) (z4 z9 z8)))) z8)) (qn 10 uR.nd) (zA (qz 11 uR.nd (qk zl6 hr10 zo_ zem zms (z4 (qv 5) (z4 (qv 2) (z4 (qv 3) z8)))))
   (zF (xC (wO cb cu cw (by decide) tG (qv 9) (z4 (y4 (z4 (qx hr (qv 6) (qv 10)) (z4 (qv 11) (z4 (qk zl2 hr3 zo7 zej zmp (z4 (qv 5) (z4 (qv 11) (z4 (qv 8) z8)))) z8)))) z8))))))
   (zA (qz 12 uR.nd (zS yY z9 (qk zW hr1 zY zP zX (z4 (qv 5) (z4 (qv 4) z8)))))
   (zA (zjO (i0:=13) (own:= ["_law_number_here"]) (tP (fsc:=zV nJ) (N:= ["_law_script","_law_at","_law_kinds","_law_calm","_law_hands","_law_box_here","_law_words_here","_law_names","_law_things","_law_shelves","_law_k","_law_manner_here","_law_many","_law_uses","_law_plan","_law_others","_law_turn"]) (N':= ["_law_script","_law_at","_law_kinds","_law_calm","_law_hands","_law_box_here","_law_words_here","_law_names","_law_things","_law_shelves","_law_k","_law_manner_here","_law_many","_law_uses","_law_plan","_law_others","_law_turn"]) rfl rfl (by decide+kernel)) uR.nd rfl (Or.inl rfl) rfl (nG (by rfl) M.range (z4 (qv 12) z8)) (λC s H fp pins=>(qn 17 nd8)) (λC s H fp pins=>pD) (λC s H fp pins=>(y4 (z4 (qv 9) (z4 (qv 9) z8)))))
   (zr1 (i:=14) uR.nd rfl (Or.inr rfl) (iK zH (qv 7) (iK zH (qv 8) (iK zH (qv 13) (iK zH (zrq rfl (by rfl) M.list (by rfl) M.range (z4 z9 (z4 (qv 12) z8))) zrw)))) rfl rfl (by simp) (by decide) (zjE (zj9 (qJ zcP (qJ zcP mW))) (zj_ rfl (zcS (zcQ (iE (i:=14) rfl (by first | exact Or.inl rfl | exact Or.inr (Or.inl rfl) | exact Or.inr (Or.inr rfl))) iD (zkn hr)) (zcS (zcQ (iE (i:=14) rfl (by first | exact Or.inl rfl | exact Or.inr (Or.inl rfl) | exact Or.inr (Or.inr rfl))) iD (zkn hr)) zjA))))
   (zA (xC (qk zl4 hr21 mR k9 mI (z4 (qv 0) (z4 (zS yY (qv 1) z9) (z4 (qv 14) (z4 z9 z8))))))
   (zA (zjO (i0:=15) (own:= ["_law_number_here"]) (tP (fsc:=zV nJ) (N:= ["_law_script","_law_at","_law_kinds","_law_calm","_law_hands","_law_box_here","_law_words_here","_law_names","_law_things","_law_shelves","_law_k","_law_manner_here","_law_many","_law_uses","_law_plan","_law_others","_law_turn"]) (N':= ["_law_script","_law_at","_law_kinds","_law_calm","_law_hands","_law_box_here","_law_words_here","_law_names","_law_things","_law_shelves","_law_k","_law_manner_here","_law_many","_law_uses","_law_plan","_law_others","_law_turn"]) rfl rfl (by decide+kernel)) uR.nd rfl (Or.inl rfl) rfl (zrv (by rfl) M.range (z4 z9 (z4 (qv 12) z8))) (λC s H fp pins=>(qn 17 nd8)) (λC s H fp pins=>iJ (uH (pC hr) (qv 17) (vF (vT hr) (qv 14) zH (λ_ _=>rfl)) (by rfl))) (λC s H fp pins=>(qx hr (vF (vT hr) (qv 14) zH (λ_ _=>rfl)) (qv 17))))
   (zA (qz 16 uR.nd (qk zW hr1 zY zP zX (z4 (qv 5) (z4 (zS yY (wH wN (by rfl) M.len df (z4 (qv 15) z8)) z9) z8))))
   (zF (yB (y4 (z4 (wP (rR rfl) (by rfl) M.tuple rE (z4 (qv 9) z8)) (z4 (zS yY (y4 (z4 (qx hr (vF (vT hr) (qv 14) zH (λ_ _=>rfl)) z9) z8)) (wP (rR rfl) (by rfl) M.tuple rE (z4 (zS yY (vG (qv 15) (wS (qv 16)) vH) (vG (qv 15) vH (wS (qv 16)))) z8))) z8)))))))))))))),λxs st Q h=> ?_⟩
 obtain⟨ns,hands,rfl,rfl,hl,h1,h8,q⟩:=h;symm
 ac_nf
 refine⟨ns,0,rfl,hl,by decide,λa b hb=> ?_⟩
 ac_nf
 symm
 ac_nf
 refine⟨0,a,b,rfl,rfl,hb,λus nms ts a b hul hun hnl hnn hte htl htn hb=> ?_⟩
 ac_nf
 have hkp:pA= .lst [.str "last",.str "sum",.str "bag",.str "row",.str "told"]:=rfl;symm;unfold zkW;symm
 ac_nf
 refine⟨0,6,a,b,rfl,rfl,hb,by decide,by decide,λn a b n0 n1 hb=> ?_⟩
 ac_nf
 refine⟨⟨by omega,by omega⟩,vQ (λk env s=> ∃(sh:List Sh) (v w:Option PV) (a b:Int),env= [some (.lst (ns.map PV.int)),some (.int 0),some pA,some (.bl false),some (.int hands),some (.obj 0),some (.lst (us.map PV.str)),some (.lst (nms.map PV.str)),some (.lst (ts.map PV.str)),some (.obj 1),v,w,none,none,none,none,none]/\sh.length=k/\(∀s∈sh,uZ s)/\sh.map (·.1)=us.take k/\y7 a b/\s= [zC a b,.lst (sh.map zZ)])
  ⟨[],none,none,a,b,rfl,rfl,by simp,rfl,hb,rfl⟩ ?_ ?_⟩
 ·rintro k x env s hx ⟨sh,v,w,a,b,rfl,hk,hsh,hnm,hb,rfl⟩
  obtain⟨hk2,rfl⟩:=pI hx;have hku:k < us.length:=by omega
  have eu:atI (us.map PV.str) (0+(k:Int))=some (.str us[k]):=by rw[Int.zero_add];exact vM (by rw[cg,bu hku];rfl)
  ac_nf
  symm
  ac_nf
  refine⟨0,a,b,rfl,rfl,hb,λkd r a b hmn hb=> ?_⟩;simp? only[eu];refine⟨0,kd,r,ts,a,b,rfl,rfl,hb,hmn,hte,by omega,htn,λh a b hh hb=> ?_⟩;simp? only[zio,ac];refine⟨bj (m:=1000) (by omega) (by decide),sh++ [(us[k],.tup (.str kd::r),h.pv)],_,_,a,b,rfl,by simp[hk],λs hs=> ?_,?_,hb,by simp[zZ]⟩
  ·rcases au.mp hs with hs | hs
   ·exact hsh s hs
   ·rw[aj.mp hs];exact⟨kd,r,h,rfl,hmn,rfl,hh⟩
  ·rw[qS (bu hku),av,hnm];rfl
 rintro env s ⟨sh,v,w,a,b,rfl,hk,hsh,hnm,hb,rfl⟩;rw[rV]at hk;have hshn:(sh.map (·.1)).Nodup:=by rw[hnm];exact hun.sublist (iz _ _)
 have hsl:1<=sh.length/\sh.length<=6:=by omega
 refine⟨[zC a b],sh.map zZ,rfl,by simp,?_⟩;change vY _ _ _ [some (.lst (ns.map PV.int)),some (.int 0),some pA,some (.bl false),some (.int hands),some (.obj 0),some (.lst (us.map PV.str)),some (.lst (nms.map PV.str)),some (.lst (ts.map PV.str)),some (.lst (sh.map zZ)),p8 1 (.lst (sh.map zZ)) v,p8 1 (.lst (sh.map zZ)) w,none,none,none,none,none] [zC a b];generalize p8 1 (.lst (sh.map zZ)) v=v;generalize p8 1 (.lst (sh.map zZ)) w=w;symm
 ac_nf
 refine⟨0,hands,a,b,rfl,rfl,hb,by omega,by omega,λm a b m0 m1 hb=> ?_⟩;obtain⟨m,rfl⟩: ∃n:Nat,m=n:=⟨m.toNat,by omega⟩
 ac_nf
 symm
 ac_nf
 refine⟨⟨by omega,by omega⟩,?_⟩;refine rJ (λ_=>some (.tup [.lst (sh.map zZ),.lst (sh.map zZ)])) (λj x e hx he=> ?_) ?_
 ·obtain⟨y,rfl⟩:=rO he
  ac_nf
  exact CP.yes (e':= [_]) hx rfl rfl
 have huse:(vW 0 (1+(m:Int)).toNat).filterMap (λ_=>some (PV.tup [.lst (sh.map zZ),.lst (sh.map zZ)]))=List.replicate (m+1) (PV.tup [.lst (sh.map zZ),.lst (sh.map zZ)]):=by
  rw[show(1+(m:Int)).toNat=m+1 by omega];unfold vW;generalize m+1=q;rw[ko]
  induction q with
  | zero=>rfl
  | succ q ih=>rw[List.range_succ,ia,ih,List.replicate_succ'];rfl
 simp? only[huse];symm;simp? only[zea,fF];have esp:(List.range (1+(m:Int) - 1).toNat).map (λ(i:Nat)=>PV.int (1+(i:Int)))=(wI m).map yL:=by
  rw[show(1+(m:Int) - 1).toNat=m by omega];unfold wI yL;rw[bt];refine jg λi _=> ?_;show PV.int (1+(i:Int))=PV.int (((i+1:Nat)):Int)
  congr 1;omega
 rw[esp];obtain⟨U,eU⟩: ∃U,List.replicate (m+1) (PV.tup [.lst (sh.map zZ),.lst (sh.map zZ)])=U:=⟨_,rfl⟩;rw[vt]at eU;rw[eU];refine⟨⟨by omega,by omega⟩,[(.inr "names",.lst (nms.map PV.str)),(.inr "things",.lst (ts.map PV.str)),(.inr "uses",.lst U),(.inr "spare",.obj 2)],[.lst ((wI m).map yL)],rfl,by simp,rfl,?_,?_,?_,?_⟩
 ·intro x hx kvs z;subst z;simp at hx
 ·intro q hq z;simp at hq;rcases hq with rfl | rfl | rfl | rfl <;> cases z
 ·show([.inr "names",.inr "things",.inr "uses",.inr "spare",.inr "ends",.inr "rows"]:List z6).Nodup
  decide+kernel
 obtain⟨kv,ekv⟩: ∃kv,nA 1 "ends" "rows" [(.inr "names",.lst (nms.map PV.str)),(.inr "things",.lst (ts.map PV.str)),(.inr "uses",.lst U),(.inr "spare",.obj 2)] 2=kv:=⟨_,rfl⟩;have ekv':kv= [(.inr "names",.lst (nms.map PV.str)),(.inr "things",.lst (ts.map PV.str)),(.inr "uses",.lst U),(.inr "spare",.obj 1),(.inr "ends",.obj 2),(.inr "rows",.obj 3)]:=ekv.symm;have KV:zeA kv nms ts sh (m+1):=by
  rw[ekv'];refine⟨?_,?_,?_,?_,?_,?_⟩
  ·exact vZ
  ·rw[xT (by decide+kernel)];exact vZ
  ·rw[xT (by decide+kernel),xT (by decide+kernel),vt,eU];exact vZ
  ·rw[xT (by decide+kernel),xT (by decide+kernel),xT (by decide+kernel)];exact vZ
  ·rw[xT (by decide+kernel),xT (by decide+kernel),xT (by decide+kernel),xT (by decide+kernel)];exact vZ
  ·rw[xT (by decide+kernel),xT (by decide+kernel),xT (by decide+kernel),xT (by decide+kernel),xT (by decide+kernel)];exact vZ
 show vY _ _ _ _ [zC a b,.lst ((wI m).map yL),.dct [],.dct [],.rcd (nA 1 "ends" "rows" _ 2)];rw[ekv];have eG: [zC a b,.lst ((wI m).map yL),.dct [],.dct [],.rcd kv]=G (zC a b) kv (zD nms) (wI m) [] [] []:=rfl;rw[eG];symm
 ac_nf
 refine⟨ns,_,0,zC a b,kv,nms,ts,sh,m+1,wI m,[],[],[],rfl,rfl,⟨hl,by decide,by rw[nP];omega,KV,hnn,by omega,hnl,by omega,hsh,λz=>by rw[z]at hsl;simp at hsl,by omega,hte,by omega,zk0 m,λx hx=>by have:=nQ.mp hx;omega,λz=>by have:=nQ.mp z;omega,by simp,by simp,by simp,by rw[nP];simp;omega,by rw[nP];simp;omega⟩,by rw[nP];omega,λsp' ks X E1 rs hd I hz hrl=> ?_⟩;obtain rfl:=hz rfl;obtain⟨Y,eY⟩: ∃Y,X++ [((0:Nat),rs)]=Y:=⟨_,rfl⟩;rw[iy,iy,eY];have kr:=KV.rows
 ac_nf
 symm
 ac_nf
 refine⟨⟨by omega,by omega⟩,?_⟩;refine rJ (λx=>match x with | .int k=>zI (vB (zD nms) Y) (.inl k) | _=>none) (λj x e hx he=> ?_) ?_
 ·obtain⟨hj,rfl⟩:=pI hx
  obtain⟨y,rfl⟩:=rO he;have hin: ∀{Q:K3},xJ false (.int (1+(j:Int))) (.obj 3) (G (zC a b) kv (zD nms) sp' E1 Y []) Q=Q (.bl (zI (vB (zD nms) Y) (.inl (1+(j:Int)))).isSome) (G (zC a b) kv (zD nms) sp' E1 Y []):=λ{Q} =>by
   unfold xJ wX sK;dsimp only;rw[wK]
   rfl
  simp? only[wD,kr,wK,wG,hin];have ej:(1+(j:Int))=((1+j:Nat):Int):=by omega
  have hval:zI (vB (zD nms) Y) (.inl (1+(j:Int)))=(wB (zD nms) Y (1+j)).map y8:=by rw[ej,jP]
  cases hlk:wB (zD nms) Y (1+j)with
  | none=>
   rw[hlk]at hval;rw[hval]
   ac_nf
   exact CP.no (e':= [_]) hx hval rfl
  | some h=>
   rw[hlk]at hval;rw[hval];show if true=true then _ else _
   rw[if_pos rfl];exact⟨rfl,CP.yes (e':= [_]) hx hval rfl⟩
 have eoth:(vW 1 (1+(m:Int) - 1).toNat).filterMap (λx=>match x with | .int k=>zI (vB (zD nms) Y) (.inl k) | _=>none)=((wI m).filterMap (wB (zD nms) Y)).map y8:=by
  rw[show(1+(m:Int) - 1).toNat=m by omega];unfold vW wI;rw[ko,ko,List.map_filterMap];refine jF λi _=> ?_;show zI (vB (zD nms) Y) (.inl (1+(i:Int)))=(wB (zD nms) Y (i+1)).map y8;rw[show(1+(i:Int))=((i+1:Nat):Int) by omega,jP]
 rw[eoth];obtain⟨oth,eo⟩: ∃oth,(wI m).filterMap (wB (zD nms) Y)=oth:=⟨_,rfl⟩;rw[eo];have ks0: ∀k∈X.map (·.1),k∈wI m:=λk hk=>I.sub k (ax _ (by rw[<- I.xk];exact hk));have eo2:oth=(wI m).filterMap (wB (zD nms) X):=by
  rw[<- eo,<- eY];exact jF λk hk=>zo6 (by have:=nQ.mp hk;omega)
 have hperm:oth.Perm (X.map (sZ (zD nms))):=by
  rw[eo2];exact ziJ (by rw[I.xk];exact(ba.mp I.nd).1) (zk0 m) ks0
 have hXl:X.length<=7:=by
  have:=I.len;rw[nP]at this;have h2:X.length=ks.length:=by rw[<- I.xk,ac]
  omega
 have hol:oth.length<=7:=by rw[hperm.length_eq,ac];exact hXl
 have h0v:zI (vB (zD nms) Y) (.inl 0)=some (y8 (zD nms 0,rs)):=by
  rw[show(0:Int)=((0:Nat):Int)from rfl,jP,<- eY];unfold wB;rw[wx];have hno:(X.find? λp=>p.1==0)=none:=by
   rw[ph];intro p hp hz;have:=nQ.mp (ks0 p.1 (cf hp));have:p.1=0:=by simpa using hz
   omega
  rw[hno];rfl
 symm;simp? only[ac];refine⟨0,_,a,b,rfl,rfl,hb,by omega,by omega,λt a b t0 t1 hb=> ?_⟩;obtain⟨t,rfl⟩: ∃n:Nat,t=n:=⟨t.toNat,by omega⟩;have eG2: ∀{a' b':Int} {z:List Ee},(G (zC a' b') kv (zD nms) sp' z Y []).set 0 (zC a b)=G (zC a b) kv (zD nms) sp' z Y []:=λ{a' b' z} =>rfl;rw[eG2];simp? only[wD,kr,wK,wG,h0v];rw[dH,oA,<- List.map_drop,<- mz,<- av];have hp2:(oth.drop t++oth.take t).Perm oth:=fc.trans (by rw[dy]);have hrot:(oth.drop t++oth.take t).length<=7:=by rw[hp2.length_eq];exact hol
 refine⟨rfl,by rw[ac,ac,ll,cj,cx];omega,by rw[ac,cx];omega,?_⟩;have hsh2:sh.map zZ=(sh.map pN).map yH:=by rw[bt];rfl
 rw[hsh2];have hh7:=nP m;refine q (sh.map pN) (zD nms 0,rs) (oth.drop t++oth.take t) (zqG (X:=X) hnn (sp:=wI m) (λx hx=>by have:=nQ.mp hx;omega) (by omega) (by omega) I.toLI hrl (by rw[bt];exact hshn) (by rw[ac];omega) (λs hs=> ?_) (λs hs=>by obtain⟨s0,hs0,rfl⟩:=bv.mp hs;exact⟨_,_,rfl⟩) ?_) (zqI (X:=X) hnn (sp:=wI m) (λx hx=>by have:=nQ.mp hx;omega) (by omega) (by omega) I (hp2.trans hperm)) ⟨sh,rfl,hshn,by omega,hsh,λh hh r hr=> ?_⟩
 ·obtain⟨s0,hs0,rfl⟩:=bv.mp hs
  exact zsm (hsh s0 hs0)
 ·rw[av]
  refine(List.Perm.cons _ (hp2.trans hperm)).trans ?_;exact(jy _ _).symm
 ·rcases az.mp hh with rfl | hh
  ·exact I.ro r hr
  ·obtain⟨p,hp,rfl⟩:=bv.mp ((hp2.trans hperm).mem_iff.mp hh)
   exact(I.rx p hp).1 r hr
theorem zpP {HE C J:Addr}{fj:FuncData}(N:NH K mg HE C J fj):zU P w K mg base y3 1 J fj ["self"] (zdD C):=by
 refine N.fn.ok zsb (λvs H Q E h=>by obtain⟨e,rfl,_⟩:=h;rfl) (λcdv A outer s H vs Q E hr h=> ?_);obtain⟨e,rfl,he,q⟩:=h;refine⟨_,iF (zjF (zq0 N.top (by rfl) N.gh (qJ (pv 0) (qJ iD mW)))),?_⟩;exact⟨_,rfl,e,C,none,_,rfl,he,N.cls,q⟩
theorem zpT {f HE C J:Addr}{fd fj:FuncData}(M:Mo w K mg)(N:NH K mg HE C J fj)(F:yD K "look" "look" lN f fd):zU P w K mg base (tM P w) 12 f fd ["program"] (spR K C eJ):=by
 obtain⟨_,_,pX,kZ,jU⟩:=M.look_for_twice;have kF:= @zjs P w K mg base _ _ M pX;have GI:zU P w K mg base y3 1 J fj ["self"] (zdD C):=zpP N;refine zp3 F zkj ⟨_,λcdv A outer s H E hr hE=>have hr1:zL 1 _:=hr.mono (by decide);have hr2:zL 2 _:=hr.mono (by decide);(zA (xC (qk kF hr1 jU pX kZ (z4 (qx hr (qv 0) z9) z8)))
   (zA (y9 (zda (pF (qx hr (qv 0) z9))) (zF (zry N.top N.cls N.ini GI hr2 (by rfl) N.gc N.bd ztn hE rfl)) yC)
   (zA uG
   (zA uG
   (zA uG
   (zA uG
   (zF uG))))))),λx hx=> ?_⟩
 obtain⟨sh,rfl,hn,hl⟩:=hx;unfold yZ;symm
 ac_nf
 refine⟨sh,rfl,hn,hl,?_⟩;symm
 ac_nf
 exact trivial
theorem zp_ {f:Addr}{fd:FuncData}(M:Mo w K mg)(F:yD K "_law_refused" "_law_refused" hV f fd):zU P w K mg base y3 13 f fd ["_law_program_here"] (y2 K zk1):=by
 obtain⟨zn5,zn3,pW,kY,jT⟩:=M.look;obtain⟨HE,C,J,fj,N⟩:=M.NHs;have G:zU P w K mg base (tM P w) 12 zn5 zn3 ["program"] (spR K C eJ):=zpT M N pW;refine F.ok zki (λvs H Q E h=> ?_) (λcdv A outer s H vs Q E hr h=> ?_)
 ·obtain⟨A,st,xs,Q3,rs,ex,⟨x,rfl,_⟩,_⟩:=h
  exact(ii ex).symm
 obtain⟨A0,st,xs,Q3,rs,ex,⟨x,rfl,ht,hS,q⟩,k⟩:=h;obtain⟨v,rfl,ex1⟩:=yP.one ex;refine⟨_,nB (zrb (E:=λc od _=>c= .ref C/\od=none) (C:=C) (HE:=HE) (i:=1) G hr (by rfl) jT pW.kp kY (λEE=>qJ (pv 0) mW) (λc od H h=>h) N.cls N.head (by rfl) N.gh rfl rfl rfl zki.nd rfl rfl
  (λe ws sl EE=>iF (zcV (zj5 (show w4 _ _ (λxs H Q=> ∃c cv b,xs= [V.ref e,c]/\dE c=some cv/\kitOne K (.ref C) cv=some b/\Q (V.bl b) H)from zmC N.top N.cls (af _ (aj.mpr rfl))) (by rfl) M.isinstance PyProof.Rows.boot_isinstance (qJ (pv 1) (qJ (zqs (v:= .ty "ValueError") (by rfl) M.ValueError zm7 rfl) mW)))))) (iF (zcV zj4)),?_⟩
 refine⟨v,rfl,⟨λ_=>⟨rfl,rfl⟩,x,v,rfl,(ex1.rvT ht).tups ht,hS⟩,λe=> ?_⟩;exact⟨_,rfl,.ty "ValueError",.type "ValueError",true,rfl,rfl,N.cls.kit_ve,k.now rs (.val (.bl true)) q⟩
theorem nd9:(["_law_script","_law_shelves","_law_hands","_law_splits","_law_kh","_law_rows","_law_turned","_law_some","_law_program_here","_law_row_here"]:List Str).Nodup:=by decide+kernel
theorem zpH {f:Addr}{fd:FuncData}(M:Mo w K mg)(F:yD K "law" "law" gI f fd):zU P w K mg base y3 23 f fd ["_law_script"] (y2 K lQ):=by
 obtain⟨_,_,pW,kY,jT⟩:=M.look;have ze6:= @zpI P w K mg base _ _ M pW;obtain⟨_,_,zen,zmt,zoA⟩:=M._law_program;have zl7:= @zp9 P w K mg base _ _ M zen;obtain⟨_,_,zeo,zmu,zoB⟩:=M._law_refused;have zl8:= @zp_ P w K mg base _ _ M zeo;refine yW 0 F sV (λxs st Q h=>by obtain⟨ns,rfl,_⟩:=h;rfl) ⟨_,λcdv A outer s H E hr=>have hr12:zL 12 _:=hr.mono (by decide);have hr13:zL 13 _:=hr.mono (by decide);have hr22:zL 22 _:=hr.mono (by decide);(zA (vI (qk zl7 hr22 zoA zen zmt (z4 (qv 0) (z4 z9 (z4 (vU (z4 zH (z4 zH (z4 zH (z4 zH (z4 zH z8)))))) (z4 tX (z4 z9 z8)))))) (nF (n:=2) rfl (wW (qn 1 sV.nd) (wW (qn 2 sV.nd) pE))))
   (zA (qz 3 sV.nd (rS z8))
   (zA (vV dh rfl (wQ (qv 2)) (nF (n:=2) rfl (wW (qn 4 sV.nd) (wW (qn 5 sV.nd) pE))) (zF (xC (wO cb cu cw (by decide) tG (qv 3) (z4 (y4 (z4 (qv 4) (z4 (wP (rR rfl) (by rfl) M.tuple rE (z4 (qN (own:= ["_law_row_here"]) (tP (fsc:=zV gI) (N:= ["_law_script","_law_shelves","_law_hands","_law_splits","_law_kh","_law_rows","_law_turned","_law_some","_law_program_here"]) (N':= ["_law_script","_law_shelves","_law_hands","_law_splits","_law_kh","_law_rows","_law_turned","_law_some","_law_program_here"]) rfl rfl (by decide+kernel)) rfl (wQ (qv 5)) (λC s H fp pins=>(qn 9 nd9)) (λC s H fp pins=>iJ (uH (pC hr) (qx hr (qv 9) z9) (y4 (z4 zH (z4 zH z8))) (by rfl))) (λC s H fp pins=>(qv 9))) z8)) z8))) z8)))))
   (zA (qz 6 sV.nd (y4 (z4 (zjN (qv 1) (wS (zcY zcJ z9))) (z4 (zS yY (vG (qv 2) vH (wS z9)) (zjN (vG (qv 2) (wS z9) vH) (wS (zcY zcJ z9)))) z8))))
   (zA (qz 7 sV.nd (vU (z4 (y4 (z4 (qv 1) (z4 (qv 2) z8))) (z4 (qv 6) z8))))
   (zA (qz 7 sV.nd (zS yY (qv 7) (vU (z4 (y4 (z4 (y4 z8) (z4 (wP (rR rfl) (by rfl) M.tuple rE (z4 (qv 3) z8)) z8))) (z4 (y4 (z4 (qv 1) (z4 (y4 (z4 (y4 (z4 (qx hr (qx hr (qv 2) z9) z9) (z4 (y4 z8) z8))) z8)) z8))) (z4 (y4 (z4 (y4 z8) (z4 (y4 (z4 (y4 (z4 (qx hr (qx hr (qv 2) z9) z9) (z4 (y4 z8) z8))) z8)) z8))) z8))))))
   (zA (vV dh rfl (wQ (qv 7)) (qn 8 sV.nd) (zF (y9 (PW.pt (mZ (qc zpv (qk ze6 hr12 jT pW kY (z4 (qv 8) z8)) tX) (iL (zda (pF (qk zl8 hr13 zoB zeo zmu (z4 (y4 (z4 (qx hr (qv 8) z9) (z4 (y4 z8) z8))) z8))))))) (zF (yB tX)) yC)))
   (zF (yB (qM zps (qk ze6 hr12 jT pW kY (z4 (y4 (z4 (qv 1) (z4 (qv 2) z8))) z8)) tX (rP _))))))))))),λxs st Q h=> ?_⟩
 obtain⟨ns,rfl,rfl,hl,q⟩:=h;have ek:pA= .lst [.str "last",.str "sum",.str "bag",.str "row",.str "told"]:=rfl;symm
 ac_nf
 refine⟨ns,8,rfl,rfl,hl,by decide,by decide,λsh h0 hs O ⟨en,rj,G⟩ ⟨shl,esh,hn,hl2,hsh,hr⟩=> ?_⟩;have g1:u3 sh h0 hs:=by rw[esh];exact jL hsh hn hl2 O.lt G hr
 have g2:u3 sh.reverse h0 hs.reverse:=by rw[esh];exact znE hsh hn hl2 O.lt G hr
 have g3:u3 [] (so h0) (hs.map so):=znF O.lt G;have g4:u3 sh (h0.1,[]) []:=by rw[esh];exact zij hsh hn hl2
 have g5:u3 [] (h0.1,[]) []:=zij (shl:= []) (λs m=>by cases m) (by simp) (by simp);have h8:=O.hl;have rl:=O.rl;have hsl:=O.shl;obtain⟨all,eall⟩: ∃all,h0::hs=all:=⟨_,rfl⟩;have hx0:atI (all.map y8) 0=some (y8 h0):=by rw[<- eall];exact vM (j:=0) rfl
 have big:(40000:Nat) < sizeLine:=by rw[cx];decide
 rw[eall]at h8 rl⊢
 unfold yZ
 ac_nf
 symm
 ac_nf
 refine tZ (λenv s=> ∃v4 v5:Option PV,env= [some (.lst (ns.map PV.int)),some (.tup (sh.map yH)),some (.tup (all.map y8)),some (.obj 0),v4,v5,none,none,none]/\s= [.lst ((all.map so).map y8)]) (λN hN=> ?_) ?_
 ·ac_nf
  refine vQ (λk env s=> ∃v4 v5:Option PV,env= [some (.lst (ns.map PV.int)),some (.tup (sh.map yH)),some (.tup (all.map y8)),some (.obj 0),v4,v5,none,none,none]/\s= [.lst (((all.take k).map so).map y8)]) ⟨none,none,rfl,rfl⟩ ?_ ?_
  ·rintro k x env s hx ⟨v4,v5,rfl,rfl⟩
   obtain⟨h,hh,rfl⟩:=wV hx;have hkl:=(ad.mp hh).1;have hr30:=rl h (bi.mpr ⟨k,hh⟩);unfold y8 yH uB
   ac_nf
   refine rJ sjF (λj x e hx he=> ?_) ?_
   ·obtain⟨r,hr',rfl⟩:=wV hx
    obtain⟨y,rfl⟩:=rO he;have ej:=zkp r;have i1:yF (.str "split") [PV.str "split",.str "join"]=true:=by unfold yF;simp[u9]
    have i2:yF (.str "join") [PV.str "split",.str "join"]=true:=by unfold yF;simp[u9]
    have fl: [PV.str "split",PV.str "join"].all xD=true:=rfl;cases r with
    | split n=>
     unfold Rh.pv at hx ej⊢
     simp? only[xJ,wX,xD,i1,fl];exact CP.yes (e':= [_]) hx ej rfl
    | join n=>
     unfold Rh.pv at hx ej⊢
     simp? only[xJ,wX,xD,i2,fl];exact CP.yes (e':= [_]) hx ej rfl
    | pl r=>
     obtain⟨k1,more,e,_,h2⟩:=zcU r;have e2:(Rh.pl r).pv= .tup (.str k1::more):=e;rw[e2]at hx ej⊢
     simp? only[xJ,wX,xD,h2,fl];exact CP.no (e':= [_]) hx ej rfl
   rw[zko]
   ac_nf
   refine⟨by rw[ac,ac,cj];omega,_,_,rfl,?_⟩;rw[qS hh,av,av];rfl
  ·rintro env s ⟨v4,v5,rfl,rfl⟩
   rw[ac,bz (ao _)];exact hN _ _ ⟨v4,v5,rfl,rfl⟩
 rintro env s ⟨v4,v5,rfl,rfl⟩;have c1:w6 (all.map y8) none (some 1)= [y8 h0]:=by rw[<- eall,show(1:Int)=((1:Nat):Int)from rfl,oA];rfl
 have c2:w6 (all.map y8) (some 1) none=hs.map y8:=by rw[<- eall,show(1:Int)=((1:Nat):Int)from rfl,dH];rfl
 have hl7:hs.length<=7:=by rw[<- eall,bq]at h8;omega
 have q1:PV.tup [.tup (sh.map yH),.tup (all.map y8)]=yZ sh (h0::hs):=by rw[eall];rfl
 have q2:PV.tup [.tup (sh.map yH).reverse,.tup ([y8 h0]++(hs.map y8).reverse)]=yZ sh.reverse (h0::hs.reverse):=by rw[<- jm,<- jm];rfl
 have q3:PV.tup [.tup [],.tup ((all.map so).map y8)]=yZ [] (so h0::hs.map so):=by rw[<- eall];rfl
 have q4:PV.tup [.tup (sh.map yH),.tup [.tup [.str h0.1,.tup []]]]=yZ sh [(h0.1,[])]:=rfl;have q5:PV.tup [.tup [],.tup [.tup [.str h0.1,.tup []]]]=yZ [] [(h0.1,[])]:=rfl;have hdn:y8 h0= .tup [.str h0.1,.tup (h0.2.map Rh.pv)]:=rfl;symm;simp? only[zt0,c1,c2];refine⟨by first | omega | (simp only[cm,ac,bw];omega),?_⟩;symm
 ac_nf
 symm;simp? only[hx0,hdn];refine⟨by omega,?_⟩;obtain⟨L5,e5⟩: ∃L5,[PV.tup [.tup (sh.map yH),.tup (all.map y8)],PV.tup [.tup (sh.map yH).reverse,.tup (PV.tup [.str h0.1,.tup (h0.2.map Rh.pv)]::(hs.map y8).reverse)],PV.tup [.tup [],.tup ((all.map so).map y8)],PV.tup [.tup (sh.map yH),.tup [.tup [.str h0.1,.tup []]]],PV.tup [.tup [],.tup [.tup [.str h0.1,.tup []]]]]=L5:=⟨_,rfl⟩;have hall: ∀x∈L5,∃s h t,x=yZ s (h::t)/\u3 s h t:=λx m=>by
  rw[<- e5]at m;rcases az.mp m with rfl | m
  ·exact⟨_,_,_,q1,g1⟩
  rcases az.mp m with rfl | m
  ·exact⟨_,_,_,q2,g2⟩
  rcases az.mp m with rfl | m
  ·exact⟨_,_,_,q3,g3⟩
  rcases az.mp m with rfl | m
  ·exact⟨_,_,_,q4,g4⟩
  rw[aj.mp m];exact⟨_,_,_,q5,g5⟩
 rw[e5];obtain⟨tu,etu⟩: ∃tu:PV,PV.tup [.tup (sh.map yH).reverse,.tup (PV.tup [.str h0.1,.tup (h0.2.map Rh.pv)]::(hs.map y8).reverse)]=tu:=⟨_,rfl⟩;rw[etu];have lk: ∀{s:List Sn} {h:Hd} {t:List Hd} {st:z7} {Q:K3},u3 s h t->Q (.bl true) st->zkz [yZ s (h::t)] st Q:=λ{s h t st Q} g z=>by
  obtain⟨skl,en,rj,rfl,L,O,G,tv⟩:=g;exact⟨skl,h,t,en,rj,rfl,L,O,G,z⟩
 have rf: ∀{s:List Sn} {h:Hd} {t:List Hd} {st:z7} {Q:K3},u3 s h t->Q (.bl true) st->zk1 [.tup [.tup (s.map yH),.tup []]] st Q:=λ{s h t st Q} g z=>by
  obtain⟨skl,en,rj,rfl,L,O,G,tv⟩:=g;refine⟨_,rfl,?_,⟨skl.map wY,rfl,by rw[bt];exact L.sn,by rw[ac];have:=L.sl;omega⟩,z⟩;have: ∀l:List Sk,(∀s∈l,xZ (yH (wY s))=true)->tupVs ((l.map wY).map yH)=true:=by
   intro l
   induction l with
   | nil=>intro _;rfl
   | cons a l ih=>
    intro hh;rw[am,am];unfold tupVs;rw[hh a (ar ..),ih λs hs=>hh s (bc _ hs)];rfl
  show tupVs [.tup ((skl.map wY).map yH),.tup []]=true;simp only[tupVs,xZ,this skl tv,Bool.and_true,Bool.true_and]
 symm
 ac_nf
 refine vQ (λk env s=> ∃v8:Option PV,env= [some (.lst (ns.map PV.int)),some (.tup (sh.map yH)),some (.tup (all.map y8)),some (.obj 0),v4,v5,some tu,some (.lst L5),v8]/\s= [.lst ((all.map so).map y8)]) ⟨none,rfl,rfl⟩ ?_ ?_
 ·rintro k x env s hx ⟨v8,rfl,rfl⟩
  obtain⟨s',h,t,rfl,g⟩:=hall x (bi.mpr ⟨k,hx⟩)
  ac_nf
  refine lk g ?_;unfold yZ;simp? only[zf3,beq_self_eq_true];refine rf g ?_
  ac_nf
  first | exact⟨_,rfl,rfl⟩ | exact⟨_,rfl⟩
 ·rintro env s ⟨v8,rfl,rfl⟩
  ac_nf
  rw[q1];refine lk g1 ?_;simp? only[zf3,beq_self_eq_true];exact q _
end
theorem vN {us:List Value}(h:us.length=1): ∃x0,us= [x0]:=by
 rcases us with _ | ⟨x0,_ | ⟨y,us⟩⟩ <;> first | exact⟨x0,rfl⟩ | (simp at h;done)
theorem sJ {us:List Value}(h:us.length=2): ∃x0 x1,us= [x0,x1]:=by
 rcases us with _ | ⟨x0,_ | ⟨x1,_ | ⟨y,us⟩⟩⟩ <;> first | exact⟨x0,x1,rfl⟩ | (simp at h;done)
theorem mJ {us:List Value}(h:us.length=3): ∃x0 x1 x2,us= [x0,x1,x2]:=by
 rcases us with _ | ⟨x0,_ | ⟨x1,_ | ⟨x2,_ | ⟨y,us⟩⟩⟩⟩ <;> first | exact⟨x0,x1,x2,rfl⟩ | (simp at h;done)
theorem kX {us:List Value}(h:us.length=4): ∃x0 x1 x2 x3,us= [x0,x1,x2,x3]:=by
 rcases us with _ | ⟨x0,_ | ⟨x1,_ | ⟨x2,_ | ⟨x3,_ | ⟨y,us⟩⟩⟩⟩⟩ <;> first | exact⟨x0,x1,x2,x3,rfl⟩ | (simp at h;done)
theorem zm0 {us:List Value}(h:us.length=5): ∃x0 x1 x2 x3 x4,us= [x0,x1,x2,x3,x4]:=by
 rcases us with _ | ⟨x0,_ | ⟨x1,_ | ⟨x2,_ | ⟨x3,_ | ⟨x4,_ | ⟨y,us⟩⟩⟩⟩⟩⟩ <;> first | exact⟨x0,x1,x2,x3,x4,rfl⟩ | (simp at h;done)
theorem rN {K:Frag}{a:Addr}{n:Nat}{sl:Array (Option Value)}{l:List (Str×Tok)}(h:K.lookup a=some ⟨.type "tuple",none,.seq (l.map λx=>Value.str x.1 x.2).toArray n,sl⟩)(hz:l.length<=1000)(A:List Addr)(H:Hp):RV K A H (.tup (l.map λx=>PV.str x.1)) (.ref a):=by
 have vs: ∀l:List (Str×Tok),zJ (l.map λx=>V.str x.1) (l.map λx=>Value.str x.1 x.2):=by
  intro l
  induction l with
  | nil=>exact .nil
  | cons x l ih=>exact .cons ⟨_,rfl⟩ ih
 have rs: ∀l:List (Str×Tok),RVs K A H (l.map λx=>PV.str x.1) (l.map λx=>V.str x.1):=by
  intro l
  induction l with
  | nil=>exact .nil
  | cons x l ih=>exact .cons (.str _) ih
 refine .tup (vs:=l.map λx=>V.str x.1) (.inr ⟨_,_,_,h,rfl,rfl,rfl,?_,?_⟩) ?_ (rs l)
 ·rw[be,ac];exact bf hz (by decide)
 ·rw[vq];exact vs l
 ·rw[ac];exact bf hz (by decide)
def Dg (K:Frag)(x:Str)(st:Stmt):Prop:= ∃(f:Addr) (od an:Option Addr) (sl:Array (Option Value)) (oc kV dc pm cd ct:Value),nsIn K mainGlobals x=some (some (.ref f))/\K.lookup f=some ⟨oc,od,.func (fnOf x x (qZ st) (sL st) (zV st) .none kV dc pm an cd ct),sl⟩/\codeIn K cd x=true/\keepIn K (.ref f)=true
theorem Dg.go {K:Frag}{h:Heap}{mg:Str->Option Value}{x:Str}{st:Stmt}{ps:List Str}(d:Dg K x st)(X:K.In h)(G:h.Ns mainGlobals mg)(hb: ∀f fd,yD K x x st f fd->wT K fd ps []): ∃f fd,yD K x x st f fd/\wT K fd ps []/\mg x=some (.ref f):=by
 obtain⟨f,_,_,_,_,_,_,_,_,_,a,l,c,k⟩:=d;exact⟨f,_,jH l c k,hb _ _ (jH l c k),mg_of X G a⟩
theorem all_mk {l:PySem.W.OpenLaw}{w:World}{K:Frag}{h:Heap}{mg:Str->Option Value}{fa:Addr}(X:K.In h)(G:h.Ns mainGlobals mg)(hfa:mg "law" =some (.ref fa))
  (d1:Dg K "terms_in" gY)
  (d2:Dg K "deed_of" gF)
  (d3:Dg K "shelf_of" gW)
  (d4:Dg K "term_of" gX)
  (d5:Dg K "named_by_hands" lP)
  (d6:Dg K "in_split_order" lM)
  (d7:Dg K "look" lN)
  (d8:Dg K "look_for_twice" gP)
  (d9:Dg K "look_at_rows" nN)
  (d10:Dg K "look_at_named_hand" gL)
  (d11:Dg K "look_at_doing" gJ)
  (d12:Dg K "look_at_term" gO)
  (d13:Dg K "look_at_shelf" gM)
  (d14:Dg K "look_at_splits" lO)
  (d15:Dg K "look_at_joins" gK)
  (d16:Dg K "held_at_ends" gG)
  (d17:Dg K "held_behind" gH)
  (d18:Dg K "in_order_of_hands" lK)
  (d19:Dg K "_law_box" iW)
  (d20:Dg K "_law_take" gA)
  (d21:Dg K "_law_words" lC)
  (d22:Dg K "_law_number" hU)
  (d23:Dg K "_law_term" gB)
  (d24:Dg K "_law_any_term" iV)
  (d25:Dg K "_law_manner" hJ)
  (d26:Dg K "_law_begin" lB)
  (d27:Dg K "_law_leaves" h9)
  (d28:Dg K "_law_deed" iX)
  (d29:Dg K "_law_row" hZ)
  (d30:Dg K "_law_join" iZ)
  (d31:Dg K "_law_hand" iY)
  (d32:Dg K "_law_three_words" gC)
  (d33:Dg K "_law_program" nJ)
  (d34:Dg K "_law_refused" hV)
  (dl:Dg K "law" gI) (zn: ∀x∈(["len","int","range","tuple","isinstance","bool","str","dict","list","sorted","min","max","all","set","enumerate","reversed","ValueError"]:List Str),nsIn K mainGlobals x=some none)
  {aD bD0 bD1 bD2 bD3 bD4 bD5:Addr} {uD0 uD1 uD2 uD3 uD4 uD5 vD0_0 vD0_1 vD1_0 vD2_0 vD3_0 vD4_0 vD5_0:Tok} {nD mD0 mD1 mD2 mD3 mD4 mD5:Nat} {slD0 slD1 slD2 slD3 slD4 slD5:Array (Option Value)}
  {aE bE0 bE1 bE2:Addr} {uE0 uE1 uE2 vE0_0 vE0_1 vE0_2 vE1_0 vE2_0:Tok} {nE mE0 mE1 mE2:Nat} {slE0 slE1 slE2:Array (Option Value)}
  {HE NHn C0 J0 N0:Addr} {hnm hq nm0 q0:Str} {hbs bs0 hsub sub0:List Value} {hdt hab ab0:Bool} {hsn sn0:List Str} {hcol col0:Option Bool} {hdd dd0 hod2 jod0 jan0:Option Addr} {h0 h1 h2 h3 h5 k0_0 k1_0 k2_0 k3_0 k5_0:Option Value} {hnw:String} {hsl2 jsl0:Array (Option Value)} {hoc2 joc0 jkV0 jdc0 jpm0 jcd0 jct0:Value} {hes:Array DictEntry} {hep:Nat}
  (AD:nsIn K mainGlobals "MANNERS_OF_DEEDS" =some (some (.ref aD)))
  (LD:K.lookup aD=some ⟨.type "dict",none,.dict #[⟨PyData.keyHash w.params "set",.str "set" uD0,.ref bD0⟩,⟨PyData.keyHash w.params "more",.str "more" uD1,.ref bD1⟩,⟨PyData.keyHash w.params "in",.str "in" uD2,.ref bD2⟩,⟨PyData.keyHash w.params "out",.str "out" uD3,.ref bD3⟩,⟨PyData.keyHash w.params "lay",.str "lay" uD4,.ref bD4⟩,⟨PyData.keyHash w.params "drop",.str "drop" uD5,.ref bD5⟩] nD,#[]⟩)
  (SD:(aD==sysModules)=false)
  (TD0:K.lookup bD0=some ⟨.type "tuple",none,.seq #[.str "last" vD0_0,.str "told" vD0_1] mD0,slD0⟩)
  (TD1:K.lookup bD1=some ⟨.type "tuple",none,.seq #[.str "sum" vD1_0] mD1,slD1⟩)
  (TD2:K.lookup bD2=some ⟨.type "tuple",none,.seq #[.str "bag" vD2_0] mD2,slD2⟩)
  (TD3:K.lookup bD3=some ⟨.type "tuple",none,.seq #[.str "bag" vD3_0] mD3,slD3⟩)
  (TD4:K.lookup bD4=some ⟨.type "tuple",none,.seq #[.str "row" vD4_0] mD4,slD4⟩)
  (TD5:K.lookup bD5=some ⟨.type "tuple",none,.seq #[.str "row" vD5_0] mD5,slD5⟩)
  (AE:nsIn K mainGlobals "MANNERS_OF_TERMS" =some (some (.ref aE)))
  (LE:K.lookup aE=some ⟨.type "dict",none,.dict #[⟨PyData.keyHash w.params "shelf",.str "shelf" uE0,.ref bE0⟩,⟨PyData.keyHash w.params "many",.str "many" uE1,.ref bE1⟩,⟨PyData.keyHash w.params "long",.str "long" uE2,.ref bE2⟩] nE,#[]⟩)
  (SE:(aE==sysModules)=false)
  (TE0:K.lookup bE0=some ⟨.type "tuple",none,.seq #[.str "last" vE0_0,.str "sum" vE0_1,.str "told" vE0_2] mE0,slE0⟩)
  (TE1:K.lookup bE1=some ⟨.type "tuple",none,.seq #[.str "bag" vE1_0] mE1,slE1⟩)
  (TE2:K.lookup bE2=some ⟨.type "tuple",none,.seq #[.str "row" vE2_0] mE2,slE2⟩)
  (aH:nsIn K mainGlobals "HouseError" =some (some (.ref HE))) (hl:K.lookup HE=some (excClassObj hnm hq HE NHn hbs vO hdt hsn hsub hab hcol hdd h0 h1 h2 h3 h5 hnw)) (hl2:K.lookup NHn=some ⟨hoc2,hod2,.dict hes hep,hsl2⟩) (hk:(hes.toList.all λe=>match e.key with | .str _ _=>true | _=>false)=true) (hni:nsFind hes "__init__" =none)
  (hrd:readsIn K HE (.type "type")=true) (hfc:findCls K (.ref HE) (.type "type") "__init__" =some (.val (.builtin "ValueError.__init__"))) (hga:specialIn K (.ref HE) "__getattribute__" =some (some (.builtin "type.__getattribute__")))
  (hdg:specialIn K (.builtin "object.__class__") "__get__" =some (some (.builtin "getset_descriptor.__get__"))) (hds:takesIn K (.builtin "object.__class__")=some true)
  (ca0:nsIn K mainGlobals "NoHand" =some (some (.ref C0))) (co0:K.lookup C0=some (excClassObj nm0 q0 C0 N0 bs0 (.ref HE::vO) true sn0 sub0 ab0 col0 dd0 k0_0 k1_0 k2_0 k3_0 k5_0 "ValueError.__new__")) (ck0:keepIn K (.ref C0)=true)
  (cs0:findIn K (.ref C0) "__setattr__" =some (some (.builtin "object.__setattr__"))) (cg0:findIn K (.ref C0) "__getattribute__" =some (some (.builtin "BaseException.__getattribute__"))) (cgg0:findIn K (.ref C0) "__getattr__" =some none) (cc0:findIn K (.ref C0) "__class__" =some (some (.builtin "object.__class__")))
  (ci0:findIn K (.ref C0) "__init__" =some (some (.ref J0))) (cf0:isFn K (.ref J0)=true) (lj0:K.lookup J0=some ⟨joc0,jod0,.func (fnOf "__init__" "NoHand.__init__" (qZ nK) (sL nK) (zV nK) .none jkV0 jdc0 jpm0 jan0 jcd0 jct0),jsl0⟩) (cj0:codeIn K jcd0 "NoHand.__init__" =true) (kj0:keepIn K (.ref J0)=true):
  ∃fd:FuncData,(∀(s:Shared) (v:Value),BindsTo s fd ⟨[v],[]⟩ [("_law_script",v)])/\∀base:Heap,K.In base->base.Ns mainGlobals mg->zU l.prog w K mg base y3 23 fa fd ["_law_script"] (y2 K lQ):=by
 have FJ0:=jH (st:=nK) lj0 cj0 kj0;have z: ∀x∈(["len","int","range","tuple","isinstance","bool","str","dict","list","sorted","min","max","all","set","enumerate","reversed","ValueError"]:List Str),mg x=none:=λx m=>PySem.W.mg_none_of X G (zn x m);have M:Mo w K mg:=⟨z _ (by simp),z _ (by simp),z _ (by simp),z _ (by simp),z _ (by simp),z _ (by simp),z _ (by simp),z _ (by simp),z _ (by simp),z _ (by simp),z _ (by simp),z _ (by simp),z _ (by simp),z _ (by simp),z _ (by simp),z _ (by simp),z _ (by simp),d1.go X G λ_ _ F=>F.binds λ_ _ _ _ _ _ us hl=>by obtain⟨x0,rfl⟩:=vN hl;rfl,d2.go X G λ_ _ F=>F.binds λ_ _ _ _ _ _ us hl=>by obtain⟨x0,rfl⟩:=vN hl;rfl,d3.go X G λ_ _ F=>F.binds λ_ _ _ _ _ _ us hl=>by obtain⟨x0,rfl⟩:=vN hl;rfl,d4.go X G λ_ _ F=>F.binds λ_ _ _ _ _ _ us hl=>by obtain⟨x0,rfl⟩:=vN hl;rfl,d5.go X G λ_ _ F=>F.binds λ_ _ _ _ _ _ us hl=>by obtain⟨x0,x1,rfl⟩:=sJ hl;rfl,d6.go X G λ_ _ F=>F.binds λ_ _ _ _ _ _ us hl=>by obtain⟨x0,rfl⟩:=vN hl;rfl,d7.go X G λ_ _ F=>F.binds λ_ _ _ _ _ _ us hl=>by obtain⟨x0,rfl⟩:=vN hl;rfl,d8.go X G λ_ _ F=>F.binds λ_ _ _ _ _ _ us hl=>by obtain⟨x0,rfl⟩:=vN hl;rfl,d9.go X G λ_ _ F=>F.binds λ_ _ _ _ _ _ us hl=>by obtain⟨x0,rfl⟩:=vN hl;rfl,d10.go X G λ_ _ F=>F.binds λ_ _ _ _ _ _ us hl=>by obtain⟨x0,x1,rfl⟩:=sJ hl;rfl,d11.go X G λ_ _ F=>F.binds λ_ _ _ _ _ _ us hl=>by obtain⟨x0,x1,rfl⟩:=sJ hl;rfl,d12.go X G λ_ _ F=>F.binds λ_ _ _ _ _ _ us hl=>by obtain⟨x0,x1,rfl⟩:=sJ hl;rfl,d13.go X G λ_ _ F=>F.binds λ_ _ _ _ _ _ us hl=>by obtain⟨x0,x1,x2,rfl⟩:=mJ hl;rfl,d14.go X G λ_ _ F=>F.binds λ_ _ _ _ _ _ us hl=>by obtain⟨x0,rfl⟩:=vN hl;rfl,d15.go X G λ_ _ F=>F.binds λ_ _ _ _ _ _ us hl=>by obtain⟨x0,rfl⟩:=vN hl;rfl,d16.go X G λ_ _ F=>F.binds λ_ _ _ _ _ _ us hl=>by obtain⟨x0,rfl⟩:=vN hl;rfl,d17.go X G λ_ _ F=>F.binds λ_ _ _ _ _ _ us hl=>by obtain⟨x0,x1,rfl⟩:=sJ hl;rfl,d18.go X G λ_ _ F=>F.binds λ_ _ _ _ _ _ us hl=>by obtain⟨x0,x1,rfl⟩:=sJ hl;rfl,d19.go X G λ_ _ F=>F.binds λ_ _ _ _ _ _ us hl=>by obtain⟨x0,x1,rfl⟩:=sJ hl;rfl,d20.go X G λ_ _ F=>F.binds λ_ _ _ _ _ _ us hl=>by obtain⟨x0,x1,rfl⟩:=sJ hl;rfl,d21.go X G λ_ _ F=>F.binds λ_ _ _ _ _ _ us hl=>by obtain⟨x0,x1,rfl⟩:=sJ hl;rfl,d22.go X G λ_ _ F=>F.binds λ_ _ _ _ _ _ us hl=>by obtain⟨x0,rfl⟩:=vN hl;rfl,d23.go X G λ_ _ F=>F.binds λ_ _ _ _ _ _ us hl=>by obtain⟨x0,x1,x2,x3,rfl⟩:=kX hl;rfl,d24.go X G λ_ _ F=>F.binds λ_ _ _ _ _ _ us hl=>by obtain⟨x0,x1,rfl⟩:=sJ hl;rfl,d25.go X G λ_ _ F=>F.binds λ_ _ _ _ _ _ us hl=>by obtain⟨x0,x1,x2,rfl⟩:=mJ hl;rfl,d26.go X G λ_ _ F=>F.binds λ_ _ _ _ _ _ us hl=>by obtain⟨x0,x1,x2,rfl⟩:=mJ hl;rfl,d27.go X G λ_ _ F=>F.binds λ_ _ _ _ _ _ us hl=>by obtain⟨x0,x1,x2,rfl⟩:=mJ hl;rfl,d28.go X G λ_ _ F=>F.binds λ_ _ _ _ _ _ us hl=>by obtain⟨x0,x1,x2,x3,rfl⟩:=kX hl;rfl,d29.go X G λ_ _ F=>F.binds λ_ _ _ _ _ _ us hl=>by obtain⟨x0,x1,x2,rfl⟩:=mJ hl;rfl,d30.go X G λ_ _ F=>F.binds λ_ _ _ _ _ _ us hl=>by obtain⟨x0,x1,x2,x3,rfl⟩:=kX hl;rfl,d31.go X G λ_ _ F=>F.binds λ_ _ _ _ _ _ us hl=>by obtain⟨x0,x1,x2,x3,rfl⟩:=kX hl;rfl,d32.go X G λ_ _ F=>F.binds λ_ _ _ _ _ _ us hl=>by obtain⟨x0,rfl⟩:=vN hl;rfl,d33.go X G λ_ _ F=>F.binds λ_ _ _ _ _ _ us hl=>by obtain⟨x0,x1,x2,x3,x4,rfl⟩:=zm0 hl;rfl,d34.go X G λ_ _ F=>F.binds λ_ _ _ _ _ _ us hl=>by obtain⟨x0,rfl⟩:=vN hl;rfl,⟨aD,[(.inr "set",.ref bD0),(.inr "more",.ref bD1),(.inr "in",.ref bD2),(.inr "out",.ref bD3),(.inr "lay",.ref bD4),(.inr "drop",.ref bD5)],mg_of X G AD,zi9 (l:= [("set",uD0,.ref bD0),("more",uD1,.ref bD1),("in",uD2,.ref bD2),("out",uD3,.ref bD3),("lay",uD4,.ref bD4),("drop",uD5,.ref bD5)]) LD SD (.cons ⟨rfl,rfl⟩ (.cons ⟨rfl,rfl⟩ (.cons ⟨rfl,rfl⟩ (.cons ⟨rfl,rfl⟩ (.cons ⟨rfl,rfl⟩ (.cons ⟨rfl,rfl⟩ .nil)))))) (show([.inr "set",.inr "more",.inr "in",.inr "out",.inr "lay",.inr "drop"]:List z6).Nodup by decide+kernel),λA H=>(.cons (rN (l:= [("last",vD0_0),("told",vD0_1)]) TD0 (by simp) A H) (.cons (rN (l:= [("sum",vD1_0)]) TD1 (by simp) A H) (.cons (rN (l:= [("bag",vD2_0)]) TD2 (by simp) A H) (.cons (rN (l:= [("bag",vD3_0)]) TD3 (by simp) A H) (.cons (rN (l:= [("row",vD4_0)]) TD4 (by simp) A H) (.cons (rN (l:= [("row",vD5_0)]) TD5 (by simp) A H) .nil))))))⟩,⟨aE,[(.inr "shelf",.ref bE0),(.inr "many",.ref bE1),(.inr "long",.ref bE2)],mg_of X G AE,zi9 (l:= [("shelf",uE0,.ref bE0),("many",uE1,.ref bE1),("long",uE2,.ref bE2)]) LE SE (.cons ⟨rfl,rfl⟩ (.cons ⟨rfl,rfl⟩ (.cons ⟨rfl,rfl⟩ .nil))) (show([.inr "shelf",.inr "many",.inr "long"]:List z6).Nodup by decide+kernel),λA H=>(.cons (rN (l:= [("last",vE0_0),("sum",vE0_1),("told",vE0_2)]) TE0 (by simp) A H) (.cons (rN (l:= [("bag",vE1_0)]) TE1 (by simp) A H) (.cons (rN (l:= [("row",vE2_0)]) TE2 (by simp) A H) .nil)))⟩,⟨HE,C0,J0,_,⟨⟨λh' X'=>ztj hl rfl hl2 hk hni X',hrd,hfc,hga,hdg,hds⟩,⟨_,_,_,_,_,_,_,_,_,_,_,_,_,_,_,_,hl⟩,mg_of X G aH,⟨⟨_,_,_,_,_,_,_,_,_,_,_,_,_,_,co0⟩,ck0,cs0,cg0,cgg0,cc0⟩,⟨ci0,cf0⟩,mg_of X G ca0,FJ0,FJ0.binds (ps:= ["self"]) λ_ _ _ _ _ _ us hl=>by obtain⟨x0,rfl⟩:=vN hl;rfl⟩⟩⟩;obtain⟨f,_,_,_,_,_,_,_,_,_,e,l,c,k⟩:=dl;cases hfa.symm.trans (mg_of X G e);exact⟨_,λs v=> .of_eq rfl,λbase _ _=>zpH M (jH l c k)⟩
theorem zow {K:Frag}{H:Hp}{a:Addr}{ns:List Int}(hl:ns.length<=63)(hS:yT K H a (ns.map V.int)){E:XK} :y2 K lQ [.ref a] H (λv _=>v= .bl true) E:=by
 refine⟨[],[],[.lst (ns.map PV.int)],λr _=>r= .bl true,⟨by simp,rfl,λi a o h=>by cases h⟩,.cons (.val (.lst (hS.imp (λh=>⟨h,by simp⟩) id) ?_ (ziw ns))) .nil,⟨ns,rfl,rfl,hl,λ_=>rfl⟩,λA' H' st' r v g s e q=> ?_⟩
 ·rw[ac];exact bf hl (by decide)
 ·subst q;exact zeW e
theorem walk {l:PySem.W.OpenLaw}{q:Program}{loose:List Str}{XP:(Str->Option Value)->Heap->Prop}{YP:World->Heap->Prop}{d:DefRec}{K:Params->Frag}(hn:l.most=some 63)(hdf:d.params.defaults= [])
  (hY: ∀(w:World) (h:Heap),YP w h->(K w.params).In h)
  (F: ∀(w:World) (mg:Str->Option Value) (fa:Addr) (h:Heap),(K w.params).In h->h.Ns mainGlobals mg->mg d.name=some (.ref fa)->
   ∃fd:FuncData,(∀(s:Shared) (u:Value),BindsTo s fd ⟨[u],[]⟩ [("_law_script",u)])/\∀base:Heap,(K w.params).In base->base.Ns mainGlobals mg->zU l.prog w (K w.params) mg base y3 23 fa fd ["_law_script"] (y2 (K w.params) lQ)):
  PySem.W.WalkO q loose XP YP l.row.toRowW d [] (λf vs=>PySem.call f vs):=
 L2.walk_of (n:=63) (k:=23) (x:= "_law_script") (CX:=λ_=>y3) (sp:=λw=>y2 (K w.params) lQ) hn (by decide) hdf ⟨rfl,by decide,by decide⟩ hY F (λ_ _ a ns hl _ hS=>zow hl hS) λ_ _ _ _ _ z=>z
end N17
open PySem PySem.W PyProof.Rows
set_option maxRecDepth 100000 in
set_option maxHeartbeats 0 in
theorem PySem.Challenge.cw_copiedhouse_k17_programs_let_by_holds : PySem.Challenge.rw_copiedhouse_k17_programs_let_by.Holds := by
 w_on
 refine holds_law Hd.ws λsaid=> ?_;refine holds_open (q:=Hd.q) (loose:= ["MANNERS_OF_DEEDS","MANNERS_OF_TERMS"]) (Xt:=Hd.Xt) (XP:=XL Hd.q []) (Yf:=Hook.obs Hd.hk) (Ya:=Hook.val Hd.hk) (YP:=Hook.says Hd.hk) (N:=6502) Hd.left (Hook.of Hd.hk) (Hook.keeps Hd.hk) (λs e=>xl_of s (oj.mp e).1) XL.keeps (by rfl) (by rfl) (by rfl) (λs e=>recFacts_of (oj.mp e).2) (by rfl) said (by decide+kernel) ⟨rfl,rfl,rfl,rfl,rfl,by decide+kernel⟩ ?hw ?hc
 (case hw=>w_witness2)
 unfold Hd.hk
 k_fill
 refine N17.walk (l:=PySem.Challenge.rw_copiedhouse_k17_programs_let_by) rfl rfl (λw h Y=>PySem.W.km_in_of Y) ?F
 case F=>
  intro w mg fa h KX G hmg
  refine' N17.all_mk KX G hmg ?_ ?_ ?_ ?_ ?_ ?_ ?_ ?_ ?_ ?_ ?_ ?_ ?_ ?_ ?_ ?_ ?_ ?_ ?_ ?_ ?_ ?_ ?_ ?_ ?_ ?_ ?_ ?_ ?_ ?_ ?_ ?_ ?_ ?_ ?_ ?zn_ ?AD_ ?LD_ ?SD_ ?TD0_ ?TD1_ ?TD2_ ?TD3_ ?TD4_ ?TD5_ ?AE_ ?LE_ ?SE_ ?TE0_ ?TE1_ ?TE2_ ?aH_ ?hl_ ?hl2_ ?hk_ ?hni_ ?hrd_ ?hfc_ ?hga_ ?hdg_ ?hds_ ?ca0_ ?co0_ ?ck0_ ?cs0_ ?cg0_ ?cgg0_ ?cc0_ ?ci0_ ?cf0_ ?lj0_ ?cj0_ ?kj0_
  (case AD_=>k_is)
  (case LD_=>k_is)
  (case SD_=>decide)
  (case TD0_=>k_is)
  (case TD1_=>k_is)
  (case TD2_=>k_is)
  (case TD3_=>k_is)
  (case TD4_=>k_is)
  (case TD5_=>k_is)
  (case AE_=>k_is)
  (case LE_=>k_is)
  (case SE_=>decide)
  (case TE0_=>k_is)
  (case TE1_=>k_is)
  (case TE2_=>k_is)
  (case aH_=>k_is)
  (case hl_=>k_is)
  (case hl2_=>k_is)
  (case hk_=>rfl)
  (case hni_=>rfl)
  (case hrd_=>k_is)
  (case hfc_=>k_is)
  (case hga_=>k_is)
  (case hdg_=>k_is)
  (case hds_=>k_is)
  (case ca0_=>k_is)
  (case co0_=>k_is)
  (case ck0_=>k_is)
  (case cs0_=>k_is)
  (case cg0_=>k_is)
  (case cgg0_=>k_is)
  (case cc0_=>k_is)
  (case ci0_=>k_is)
  (case cf0_=>k_is)
  (case lj0_=>k_is)
  (case cj0_=>k_is)
  (case kj0_=>k_is)
  (case zn_=>intro x m;simp only[az,jl,or_false]at m;rcases m with rfl | rfl | rfl | rfl | rfl | rfl | rfl | rfl | rfl | rfl | rfl | rfl | rfl | rfl | rfl | rfl | rfl <;> k_is)
  all_goals exact⟨_,_,_,_,_,_,_,_,_,_,by k_is,by k_is,by k_is,by k_is⟩
