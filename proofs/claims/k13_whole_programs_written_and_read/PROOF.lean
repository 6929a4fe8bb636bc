import PyProof.Rows.All
import Wide.All
import OpenK.AllK
import Wide.FinOn
import Lean
import PyProof.EqAt
import PyProof.EqKinds
import PyProof.TupleCall
import KE.KSortTup
import KE.KItemsList
import KE.KDictList
import PyProof.AttrMissHeap
import KE.KDictOf
import PyProof.NeKinds
import PyProof.IsiHeapPairs
import PyProof.IsiSeqPairs
import PyProof.SetKind
import PyProof.Rows.SetFrom
import PyProof.DictIter
import PyProof.CollectWalk
import PyProof.DictWalks
import PyProof.FactsAll.subtypes_5
import PyProof.IsiTupleOf
import PyProof.IsiPairs
import PyProof.Draws
import PyProof.EnumMake
import PyProof.WalksMore
import KE.KRevIter
import PyProof.ListRange
import PyProof.StrWalks
import PyProof.DictUpdate
import PyProof.Rows.ZipForRows
import PyProof.Rows.FactsT2
import PyProof.NsDelKeeps
import PyProof.ToksMono
import PyProof.StrCalls6
import KE.KIntText
import PyProof.StrLawsReplace
import PyProof.FString5
import PySem.Challenge.RW_copiedhouse_k13_whole_programs_written_a
set_option compiler.extract_closed false
local macro_rules | `(tactic| grobner) => `(tactic| first | lia | omega)
local macro_rules | `(0#0) => `(by grobner)
local macro_rules | `(1#0) => `(by decide +kernel)
local macro_rules | `(2#0) => `(by decide)
local macro_rules | `(3#0) => `(by simp)
local macro_rules | `(4#0) => `(by rfl)
local macro_rules | `(0#1) => `("_law_feed_here")
local macro_rules | `(1#1) => `("law_copiedhouse_k13_whole_programs_written_a")
local macro_rules | `(2#1) => `("_law_program_here")
local macro_rules | `(3#1) => `("_law_words")
local macro_rules | `(4#1) => `("pieces")
local macro_rules | `(5#1) => `("_law_rows_here")
local macro_rules | `(6#1) => `("_law_term_here")
local macro_rules | `(7#1) => `("_law_row_here")
local macro_rules | `(8#1) => `("_law_script")
local macro_rules | `(9#1) => `("list")
local macro_rules | `(10#1) => `("_law_name")
local macro_rules | `(11#1) => `("copiedhouse.pieces")
local macro_rules | `(12#1) => `("_law_shown_term")
local macro_rules | `(13#1) => `("abcdefghijklmnopqrstuvwxyz")
local macro_rules | `(14#1) => `("enumerate")
local macro_rules | `(15#1) => `("_law_shown_row")
local macro_rules | `(16#1) => `("take_terms")
local macro_rules | `(17#1) => `("_law_form")
local macro_rules | `(18#1) => `("__debug__")
local macro_rules | `(19#1) => `("take_inside")
local macro_rules | `(20#1) => `("_law_one_here")
local macro_rules | `(21#1) => `("_law_some")
local macro_rules | `(22#1) => `("tuple")
local macro_rules | `(23#1) => `("copiedhouse.reader")
local macro_rules | `(24#1) => `("_law_program")
local macro_rules | `(25#1) => `("take_term")
local macro_rules | `(26#1) => `("_law_number")
local macro_rules | `(27#1) => `("_law_many")
local macro_rules | `(28#1) => `("told")
local macro_rules | `(29#1) => `("around")
local macro_rules | `(30#1) => `("shelf")
local macro_rules | `(31#1) => `("_law_manner")
local macro_rules | `(32#1) => `("_law_counts")
local macro_rules | `(33#1) => `("take_words")
local macro_rules | `(34#1) => `("take_shelf")
local macro_rules | `(35#1) => `("show_shelf")
local macro_rules | `(36#1) => `("self")
local macro_rules | `(37#1) => `("plain_term")
local macro_rules | `(38#1) => `("copiedhouse.errors")
local macro_rules | `(39#1) => `("_law_terms")
local macro_rules | `(40#1) => `("_law_shelf")
local macro_rules | `(41#1) => `("_law_k")
local macro_rules | `(42#1) => `("_law_alike")
local macro_rules | `(43#1) => `("__static_attributes__")
local macro_rules | `(44#1) => `("show_term")
local macro_rules | `(45#1) => `("_law_term")
local macro_rules | `(46#1) => `("set_iterator")
local macro_rules | `(47#1) => `("_law_value")
local macro_rules | `(48#1) => `("_law_rests")
local macro_rules | `(49#1) => `("_law_found")
local macro_rules | `(50#1) => `("tuple_iterator")
local macro_rules | `(51#1) => `("take_told")
local macro_rules | `(52#1) => `("take_deed")
local macro_rules | `(53#1) => `("read_term")
local macro_rules | `(54#1) => `("read_line")
local macro_rules | `(55#1) => `("number_of")
local macro_rules | `(56#1) => `("is_number")
local macro_rules | `(57#1) => `("bracketed")
local macro_rules | `(58#1) => `("_law_word")
local macro_rules | `(59#1) => `("_law_rows")
local macro_rules | `(60#1) => `("_law_next")
local macro_rules | `(61#1) => `("_law_feed")
local macro_rules | `(62#1) => `("_law_deed")
local macro_rules | `(63#1) => `("copiedhouse.termreader")
local macro_rules | `(64#1) => `("_law_shelves")
local macro_rules | `(65#1) => `("show_row")
local macro_rules | `(66#1) => `("__init__")
local macro_rules | `(67#1) => `("set-order")
local macro_rules | `(68#1) => `("StopIteration")
local macro_rules | `(69#1) => `("text")
local macro_rules | `(70#1) => `("take_row")
local macro_rules | `(71#1) => `("take_bag")
local macro_rules | `(72#1) => `("lines_of")
local macro_rules | `(73#1) => `("_law_row")
local macro_rules | `(74#1) => `("_law_one")
local macro_rules | `(75#1) => `("_law_deeds")
local macro_rules | `(76#1) => `("__firstlineno__")
set_option hygiene false
local macro_rules | `(0#2) => `((Or.inl rfl))
local macro_rules | `(1#2) => `((PX K mg C Ia fi Aa fa Ta ft Ka fk Ea fe Wa fw Na fn Ma fm))
local macro_rules | `(2#2) => `((yE (yD hr) (qv 0) zB (λ_ _=>rfl)))
local macro_rules | `(3#2) => `((bb X.prog X.w))
local macro_rules | `(4#2) => `((zM xM hr1 4#0 xQ xB.kp xO (z6 (qv 0) (z6 zB z8))))
local macro_rules | `(5#2) => `((hU (n:=50) r r2 r3 r4 (λx y v w vv ww h1 h2=>aD I 50 X.A.in1 x y v w vv ww (by show X.A.units+1+50 < cLine;grobner) h1 0#0 h2) (by unfold yA at h1;grobner) (by unfold yA at h2;grobner)))
local macro_rules | `(6#2) => `((bb prog w))
local macro_rules | `(7#2) => `((PV.tup [PV.tup (List.map yT p.fst),PV.tup (List.map t6 p.snd)]))
local macro_rules | `(8#2) => `((false,eval e X.env))
local macro_rules | `(9#2) => `((.ListComp yn [⟨xq,iter,yl,0⟩] scope pos))
local macro_rules | `(0#3) => `((zM uU hr2 4#0 t5 vK.kp t0 (z6 (qv 0) (z6 (qv 1) z8))))
local macro_rules | `(1#3) => `((wQ X scope (N'++own) C s H fp mt))
local macro_rules | `(2#3) => `((wQ X scope (N'++own) C s2 H2 fp mt))
local macro_rules | `(3#3) => `((starEach es X.env))
local macro_rules | `(4#3) => `((.Call (.Name x p) (e::es) [] pos))
local macro_rules | `(5#3) => `((s.heap.objs.size+1))
local macro_rules | `(6#3) => `((.ref s.heap.objs.size))
local macro_rules | `(7#3) => `((vV (fsc:=zX kL) (N:= [0#1,3#1,10#1,17#1,21#1,32#1,48#1,6#1]) (N':= [0#1,3#1,10#1,17#1,21#1,32#1,48#1,6#1]) rfl rfl 1#0))
local macro_rules | `(8#3) => `((.ref f))
local macro_rules | `(9#3) => `((aa×aj))
local macro_rules | `(0#4) => `((λC s H fp mt=>uI))
local macro_rules | `(1#4) => `((λ_ _=>rfl))
local macro_rules | `(2#4) => `((.lst xs))
local macro_rules | `(3#4) => `((y7 C dx ws k2))
local macro_rules | `(4#4) => `((x==(18#1 :Str)))
local macro_rules | `(5#4) => `([8#1,"_law_at",0#1,41#1,3#1,27#1,64#1,"_law_hands","_law_own",5#1])
local macro_rules | `(6#4) => `((qQ CX P w K mg base N qual scope f xw A outer s H E))
local macro_rules | `(7#4) => `((.str _))
local macro_rules | `(8#4) => `((zM pH hr70 4#0 tM uT.kp tK (z6 (qv 1) (z6 t8 (z6 zB z8)))))
local macro_rules | `(9#4) => `((vJ q0 4#0 M.len gi (z6 (qv 0) z8)))
local macro_rules | `(0#5) => `((.obj st.length))
local macro_rules | `(1#5) => `((.int i))
local macro_rules | `(2#5) => `((EP X mt σ Q))
local macro_rules | `(3#5) => `((wJ U.cl U.mT GT hr2 U.bT (qv 0)))
local macro_rules | `(4#5) => `((.dct kvs))
local macro_rules | `(5#5) => `((notedBy 6#2 A env λe s'=>R (.error e) s'))
local macro_rules | `(6#5) => `((sIx items.size items.size hi - sIx items.size 0 lo))
local macro_rules | `(7#5) => `((z6 zD (z6 zD z8)))
local macro_rules | `(8#5) => `([0#1,3#1,"_law_told","_law_room","_law_deep",17#1,"_law_third","_law_share",20#1,"_law_other"])
local macro_rules | `(9#5) => `((z6 (qv 1) z8))
local macro_rules | `(0#6) => `((Obj.mapSeq (λ_=>(#[]:Array ad))))
local macro_rules | `(1#6) => `((λr s'=>r= .ok (.ret (.bool true))/\OldK s₁.heap s'.heap/\s'.os=s₁.os/\AllBare s'.gens))
local macro_rules | `(2#6) => `((.tup xs))
local macro_rules | `(3#6) => `((sZ scope.names X.env.cells))
local macro_rules | `(4#6) => `([4#1,28#1,29#1,"many"])
local macro_rules | `(5#6) => `((kvs.any λkv=>decide (kv.1=k)))
local macro_rules | `(6#6) => `((zV X.K Ta))
local macro_rules | `(7#6) => `((Obj.mapFields (·.setIfInBounds 1 (rawInt ((i:Int)+1)))))
local macro_rules | `(8#6) => `((fnOf name qual params body scope dV kV doc pm an xw ct))
local macro_rules | `(9#6) => `((Int×ad))
local macro_rules | `(0#7) => `((∀b∈fp,H' b=none))
local macro_rules | `(1#7) => `((kvs.map λq=>nJ q.1))
local macro_rules | `(2#7) => `((HT.sIx xs.length xs.length hi - HT.sIx xs.length 0 lo))
local macro_rules | `(3#7) => `((st.set i (xG a b)))
local macro_rules | `(4#7) => `((PV.lst (List.map PV.int ns)))
local macro_rules | `(5#7) => `((A.deeper (envOfC qual (zX st) s.heap.objs.size f xw)))
local macro_rules | `(6#7) => `((.str (Str.ofString (toString i))))
local macro_rules | `(7#7) => `((PV.lst (List.map sv ws)))
local macro_rules | `(8#7) => `([2#1,5#1,10#1,31#1,47#1,7#1,75#1])
local macro_rules | `(9#7) => `((wJ U.cl U.mW GW hr3 U.bW (qv 1)))
set_option hygiene true
set_option maxHeartbeats 4000000
open PySem renaming Addr->aa,wpAny_bind->ac,Value->ad,Shared->ag,Obj->aj,wpAny_pure->al,sizeLine->am,wpAny->av,model->bb,FuncData->bh,Program->br,Stmt->bw,World->bz,Heap->cf,Around->ci,mainGlobals->da,Pos->di,wpAny_field->dj,wpAny_newObj_type->dw,wpAny_callSpecial?_slot->fc,wpAny_holding->ga,wpAny_call_entry->gb,boot_len->gi,wpAny_passesOwn->gj,wpAny_mono->gu,wpAny_Call_Name_kw->gw,wpAny_seqItems->gy,mem_of_lookup->gz,wpAny_execs_nil->ij,wpAny_updateSeq->ip,sizeLine_eq->iz,Params->jb,codeAny_builtin->jd,codeAny->jf,plainId_quiet->jh,wpAny_execs_cons->jn,wpAny_setField->jo,wpAny_rule->ju,wpAny_setField_rec->jw,wpAny_setState_of->jz,Scope->kb,codeAny_mono->kf,wpAny_setEntries_of->kn,wpAny_getItem_str_slice->kq,wpAny_pyIter_tuple->ku,Env->lc,wpAny_typeOf->ld,builtinLookup_eq_fast->lh,call_meets->ll,wpAny_isInstance->ln,wpAny_attempt->lu,Tok->lx,wpAny_ite_split->md,wpAny_pyIter_enum->mo,typeIs_str->ni,post_val_or_str->nr,wpAny_specialOf->nv,typeLookup_type->nz,OsState->ow,wpAny_fieldsOf->pd,isSubtype_stop->pf,tupleKind_room_in1->qb,wpAny_standAt->qi,wpAny_newFunctionEnv_cells->qj,wpAny_letOwnedTupleGo_enum->ql,wpAny_Assign_Name->qp,wpAny_truthy_bool->qq,list_append->qu,wpAny_pyIter_list->qw,wpAny_load->rh,noFill_tuple_add->rz,wpAny_comprehension_free->se,wpAny_askSetting->sn,wpAny_loadPart'->tj,wpAny_Call_method_late->ub,codeAny_compStart_list->uc,wpAny_letGo->ue,codeAny_call_function->um,wpAny_call->uv,wpAny_newFunctionEnv->ux,codeAny_extend_loopS->uz,wpAny_updateSeq_pair->vd,seq_tuple_add->ve,wpAny_onRaise->vf,codeAny_forLoop_any->vg,concat_meets->vw,seqIndex_neg->vx,seqIndex_of->wq,wpAny_of_eq->wt
open List renaming length_append->af,length_map->ah,length_cons->ao,mem_cons->ar,mem_singleton->au,mem_cons_self->ax,map_append->ay,getElem?_eq_some_iff->ba,mem_cons_of_mem->bc,mem_of_getElem?->bf,mem_append->bi,size_toArray->bj,mem_append_right->bm,getElem?_eq_getElem->bn,take_of_length_le->bq,mem_map->bt,not_mem_nil->bu,map_cons->cc,append_nil->cg,getElem?_append_left->cn,length_nil->cz,getElem?_set_self->df,getElem?_append_right->dg,all_eq_true->dk,map_map->dm,nil_append->dq,getElem?_map->dv,flatMap_cons->dy,length_take->fj,length_set->fq,lookup_cons->gc,getElem?_set_ne->ge,length_singleton->gf,set_set->gm,take_append_of_le_length->gq,getElem?_take_of_lt->ib,length_drop->ic,nodup_cons->ik,find?_cons->im,any_cons->ir,length_replicate->iw,mem_append_left->ja,all_cons->jg,length_eq_zero_iff->ji,filterMap_cons->jk,getElem_of_mem->jl,flatMap_append->jm,cons_append->jp,take_left->jr,pairwise_cons->jv,map_nil->kg,getElem?_replicate->ko,getElem?_cons_zero->kr,of_mem_zip->kt,all_map->lg,getElem_mem->lm,mem_flatMap->lq,mem_of_mem_drop->lr,take_set_of_le->lw,forIn_cons->ma,length_zip->me,nodup_append->mq,flatten_cons->mx,getElem?_eq_none->ng,length_dropLast->nk,foldl_cons->nn,mem_of_mem_take->nw,pairwise_append->ny,map_congr_left->on,length_pos_iff->oq,mem_range->ou,drop_zero->ox,forIn_nil->pq,map_id->pv,mem_filterMap->pz,length_eraseIdx_of_lt->qm,take_sublist->qt,getElem?_inj->qz,ext_getElem?->rb,pairwise_map->rg,getElem?_zip_eq_some->rj,drop_eq_getElem_cons->rm,all_append->tq,append_eq_nil_iff->uf,dropLast_eq_take->uo,set_append_right->ur,concat_eq_append->ut,set_append_left->uy,getElem?_range->vi,map_eq_nil_iff->vk,zip_cons_cons->wb,getElem?_drop->we,any_eq_false->wf,getElem_drop->wj,append_assoc->wk,foldl_append->wm,mem_range'_1->wo,any_eq_true->wz,zipIdx_cons->xa,flatMap_nil->xb,mem_filter->xc,zipIdx_nil->xh,take_succ->xk,take_zero->xl
open PySem.Heap renaming get?_push_of_some->ak,lt_size->aw,get?_push_size->be,get?_update_self->ck,get?_update_other->cm,size_push->du
open Nat renaming le_refl->aq,ne_of_lt->bo,lt_of_lt_of_le->bp,le_trans->cb,ne_of_gt->cp,lt_irrefl->cy,zero_le->db,mul_le_mul_right->dr,lt_succ_self->ia,toDigits_of_lt_base->ii,sub_self->jc,le_add_right->jq,le_succ->jt,lt_succ_of_lt->ka,le_of_lt->ke,lt_trans->mi,lt_of_le_of_lt->mj,succ_mul->ml,not_lt->og,mod_lt->rk,zero_add->so,not_lt_zero->tw,log2_lt->ud,sub_zero->vy,mul_succ->wc,succ_ne_self->wy,lt_succ_iff->xi
open Bool renaming and_eq_true->bv,and_eq_true_iff->cj,false_ne_true->cr,false_eq_true->gk,or_false->iq,and_false->oy,not_eq_true'->qx,not_eq_true->su,or_eq_true->xf,decide_and->xj
open Option.some renaming inj->ca
open PySem.F renaming plainAttrs_list->ce,plainAttrs_str->cq,slot_list_append->cu,type_list_append->cv,slot_str_join->dz,type_str_join->fb,plain_extend_loop->gn,slot_tuple_iterator_next->jy,called_set->kh,slot_list_extend->kj,type_list_extend->km,args_tuple_add_2->mf,entry_tuple_add->mm,slot_tuple_add->my,args_list_append_2->nj,slot_zip_next->oi,entry_list_append->om,args_tuple_iterator_next_1->ph,slot_list_append->qa,entry_tuple_iterator_next->qc,args_str_split_2->qd,entry_str_split->rc,entry_extend_loop->rl,args_list_init_2->sr,slot_str_split->sw,typeCall_list_1->sy,entry_list_init->tf,slot_str_split->ug,type_str_split->uh,called_list->vj,plain_list_iadd->wl,args_zip_next_1->wn
open Option renaming some_ne_none->cw,map_eq_some_iff->ky,isSome_iff_exists->rq,isNone_some->vz,isSome_map->wg,getD_none->wv,getD_some->wx
open Array renaming getElem?_eq_getElem->cx,length_toList->fh,getElem?_toList->jx,getElem_toList->kc,getElem?_eq_none->kz,toArray_toList->nu,toList_push->ra,forIn_toList->wa,size_push->xg
open Ne renaming symm->dh
open Int renaming eq_ofNat_of_zero_le->fg,toNat_natCast->mw,emod_lt_of_pos->qg,emod_nonneg->tz,le_refl->wu
open PySem.Obj renaming data_mapFields->fo,isFreed_of_fields->iy,cls_mapFields->mr
open PySem.PassesOwn renaming never->fv
open PySem.Heap.SameBut renaming update->fz
open PyProof.Rows renaming slot_tuple_getitem->gh,boot_isinstance->je,subscriptTail_builtinR->ua,isTrue_and->uu,entry_tuple_getitem->vh,isTrue_or->vq
open PySem.Paired renaming length->gx
open PySem.W.Fast renaming te14364793385576792824->ie
open PySem.Around renaming under_plainId->ig
open PySem.Calls renaming spliced_cons->iu,callWith_builtin->mz,Name_function_global->qh,spliced_nil->qr,evalArgs_plain->uw
open List.Perm renaming refl->ix
open PySem.StrLaws renaming glued_eq_join->lj,join_split->qe,split_free->qf
open PySem.SeqAt.EqAt renaming same->ly,of_refs->mh,int_str->vn,str_int->vo
open PyProof.Rows.F renaming plain_set_update_loop->mn,entry_set_update_loop->sx
open PySem.W renaming callWith_K->nh,mg_of->oj,methodCall_KW->uk,cellsFrom_some->ul,plainGet_of->wp
open PySem.Txt renaming slice_le->nq
open PySem.Str renaming cps_append->pk
open PySem.SeqAt.RcNeAt renaming lists_lengths->qk
open List.cons renaming inj->qo
open PySem.SeqAt.RcAt renaming tuples->qy,lists->sg,lists_lengths->sk
open PySem.IsL renaming update->sd
open PySem.W.KIN renaming signs_num->uq
open PySem.W (Frag callWith_K cellsFrom_some codeIn codeRec_of emptyDict findIn fnOf handedIn hasDictIn instObj isFn kdx_alive keepIn lookIn makesIn methodObj mg_of nsIn plainGet plainGet_of plainOver takerIn)
open PyProof.Rows (boot_abs boot_all boot_isinstance callWith_type1 split_pos)
set_option Elab.async false
set_option linter.all false
set_option maxRecDepth 100000
namespace L2
open PySem PySem.Spec PyProof.Rows
abbrev zK:=Sum Int Str
def mU:zK->ad->Bool
 | .inl k,v=>Value.isInt k v
 | .inr x,v=>Value.isStrOf x v
def zt9 (w:bz):zK->Int
 | .inl k=>hashInt k
 | .inr x=>hashStr w x
theorem pY: ∀{k:zK} {v:ad},mU k v=true->(∃i t,k=Sum.inl i/\v=Value.int i t)∨(∃x t,k=Sum.inr x/\v=Value.str x t)
 | .inl i,v,h=>by
  obtain⟨t,e⟩:=Value.isInt_shape (k:=i) (v:=v) h;exact .inl ⟨i,t,rfl,e⟩
 | .inr x,v,h=>by
  obtain⟨t,e⟩:=Value.isStrOf_shape (x:=x) (v:=v) h;exact .inr ⟨x,t,rfl,e⟩
theorem zt_ (i:Int)(t:lx):mU (.inl i) (.int i t)=true:=by simp[mU,Value.isInt]
theorem ztA (x:Str)(t:lx):mU (.inr x) (.str x t)=true:=by simp[mU,Value.isStrOf]
theorem ztB (a b:Int):decide ((Sum.inl a:zK)=Sum.inl b)=(a==b):=by
 by_cases e:a=b
 ·subst e;simp
 ·have h: ¬ (Sum.inl a:zK)=Sum.inl b:=λq=>e (Sum.inl.inj q)
  rw[decide_eq_false h];exact(beq_eq_false_iff_ne.mpr e).symm
theorem ztE (a b:Str):decide ((Sum.inr a:zK)=Sum.inr b)=decide (a=b):=by
 by_cases e:a=b
 ·subst e;simp
 ·have h: ¬ (Sum.inr a:zK)=Sum.inr b:=λq=>e (Sum.inr.inj q)
  rw[decide_eq_false h,decide_eq_false e]
theorem ztC (a:Int)(b:Str):decide ((Sum.inl a:zK)=Sum.inr b)=false:=decide_eq_false (λq=>nomatch q)
theorem ztD (a:Str)(b:Int):decide ((Sum.inr a:zK)=Sum.inl b)=false:=decide_eq_false (λq=>nomatch q)
def uO (prog:br)(w:bz):PySem.KeyKind prog w zK where
 is:=mU
 hash:=zt9 w
 inj:=λv a b ha hb=>by
  rcases pY ha with⟨i,t,rfl,rfl⟩ | ⟨x,t,rfl,rfl⟩
  ·rcases pY hb with⟨j,u,rfl,e⟩ | ⟨y,u,rfl,e⟩
   ·injection e with e1 _;rw[e1]
   ·exact nomatch e
  ·rcases pY hb with⟨j,u,rfl,e⟩ | ⟨y,u,rfl,e⟩
   ·exact nomatch e
   ·injection e with e1 _;rw[e1]
 byValue:=λk v h=>by
  rcases pY h with⟨i,t,rfl,rfl⟩ | ⟨x,t,rfl,rfl⟩ <;> rfl
 pyHash:=λhv h=>by
  rcases pY hv with⟨i,t,rfl,rfl⟩ | ⟨x,t,rfl,rfl⟩
  ·exact wpAny_pyHash_int h
  ·exact wpAny_pyHash_str h
 eqBool:=λhu hv h=>by
  rcases pY hu with⟨i,t,rfl,rfl⟩ | ⟨x,t,rfl,rfl⟩
  ·rcases pY hv with⟨j,u,rfl,rfl⟩ | ⟨y,u,rfl,rfl⟩
   ·rw[ztB]at h;exact wpAny_eqBool_int h
   ·rw[ztC]at h;exact vn i t y u _ _ _ _ h
  ·rcases pY hv with⟨j,u,rfl,rfl⟩ | ⟨y,u,rfl,rfl⟩
   ·rw[ztD]at h;exact vo x t j u _ _ _ _ h
   ·rw[ztE]at h;exact wpAny_eqBool_str h
 «strs»:=λk x t v h=>by
  rcases pY h with⟨i,u,rfl,e⟩ | ⟨y,u,rfl,e⟩
  ·exact nomatch e
  ·injection e with e1 _
   subst e1;cases v <;> rfl
theorem zup (prog:br)(w:bz)(i:Int)(t:lx):(uO prog w).is (.inl i) (.int i t)=true:=zt_ i t
theorem zuq (prog:br)(w:bz)(x:Str)(t:lx):(uO prog w).is (.inr x) (.str x t)=true:=ztA x t
inductive V where
 | non | bl (b:Bool) | int (i:Int) | str (x:Str) | byt (b:Array UInt8) | flt (b:UInt64) | ref (a:aa) | ty (n:String)
 deriving DecidableEq
def y4:V->ad->Prop
 | .non,u=>u=Value.none
 | .bl b,u=>u=Value.bool b
 | .int i,u=> ∃t,u=Value.int i t
 | .str x,u=> ∃t,u=Value.str x t
 | .byt b,u=> ∃t,u=Value.bytes b t
 | .flt b,u=> ∃t,u=Value.float b t
 | .ref a,u=>u=Value.ref a
 | .ty n,u=>u=Value.type n
abbrev zR:List V->List ad->Prop:=Paired y4
theorem zR.length {xs:List V}{us:List ad}(r:zR xs us):xs.length=us.length:=gx r
theorem zR.get: ∀{xs:List V} {us:List ad} {i:Nat} {x:V},zR xs us->xs[i]?=some x->∃u,us[i]?=some u/\y4 x u
 | _,_,_,_,.nil,e=>by simp at e
 | _,_,0,_,.cons r _,e=>by simp at e;subst e;exact⟨_,rfl,r⟩
 | _,_,i+1,x,.cons _ t,e=>by
  obtain⟨u,h1,h2⟩:=zR.get (i:=i) (x:=x) t (by simpa using e);exact⟨u,by simpa using h1,h2⟩
theorem zR.set {x:V}{u:ad}(r:y4 x u): ∀{xs:List V} {us:List ad} (i:Nat),zR xs us->zR (xs.set i x) (us.set i u)
 | _,_,_,.nil=> .nil
 | _,_,0,.cons _ t=> .cons r t
 | _,_,i+1,.cons q t=> .cons q (zR.set r i t)
theorem zR.append: ∀{xs ys:List V} {us ws:List ad},zR xs us->zR ys ws->zR (xs++ys) (us++ws)
 | _,_,_,_,.nil,s=>s
 | _,_,_,_,.cons r t,s=> .cons r (zR.append t s)
theorem zR.take: ∀{xs:List V} {us:List ad} (n:Nat),zR xs us->zR (xs.take n) (us.take n)
 | _,_,0,_=> .nil
 | _,_,_+1,.nil=> .nil
 | _,_,n+1,.cons r t=> .cons r (zR.take n t)
theorem zR.drop: ∀{xs:List V} {us:List ad} (n:Nat),zR xs us->zR (xs.drop n) (us.drop n)
 | _,_,0,r=>r
 | _,_,_+1,.nil=> .nil
 | _,_,n+1,.cons _ t=>zR.drop n t
def sA:Option V->Option ad->Prop
 | some v,some u=>y4 v u
 | none,none=>True
 | _,_=>False
def KV {κ:Type} :List (κ×V)->List (κ×ad)->Prop:=Paired λ(p:κ×V) (q:κ×ad)=>p.1=q.1/\y4 p.2 q.2
def kV:zK->V
 | .inl i=> .int i
 | .inr x=> .str x
inductive HO where
 | lst (xs:List V)
 | tup (xs:List V)
 | dK (kvs:List (zK×V)) | dT (kvs:List (List zK×V))
 | set (S:Int->Bool) (n:Nat)
 | ins (C dx:aa) (fs:List (Str×V))
 | own (x:aa)
 | xd (fs:List (Str×V))
 | met (f x:aa)
 | rng (lo hi:Int)
 | frz (o:aj) (u:HO)
 | tbl (ps:Array ad)
 | ext (φ:cf->Prop)
abbrev Hp:=aa->Option HO
def zN (H:Hp)(a:aa)(o:HO):Hp:=λb=>if b=a then some o else H b
theorem xR {H:Hp}{a:aa}{o:HO} :zN H a o a=some o:=by unfold zN;rw[if_pos rfl]
theorem yJ {H:Hp}{a b:aa}{o:HO}(h:b≠a):zN H a o b=H b:=by unfold zN;rw[if_neg h]
theorem zuR {H:Hp}{a b:aa}{o u:HO}(h:H a=some o)(h':H b=some u)(d:o≠u):a≠b:=by
 intro e;subst e;rw[h]at h';exact d (ca h')
theorem pZ {H:Hp}{a b:aa}{o:HO}(h:H a=some o)(h':H b=none):a≠b:=by
 intro e;subst e;rw[h]at h';cases h'
def oK (h:cf)(a:aa)(items:Array ad):Prop:= ∃o,h.get? a=some o/\o.cls= .type 22#1 /\∃n,o.data= .seq items n/\o.dict=none
theorem oK.tup {h:cf}{a:aa}{items:Array ad}(x:oK h a items):IsTup h a items:=let⟨o,e,c,n,d,_⟩:=x;⟨o,e,c,n,d⟩
theorem oK.lt {h:cf}{a:aa}{items:Array ad}(x:oK h a items):a < h.objs.size:=let⟨_,e,_⟩:=x;aw e
theorem oK.new (h:cf)(items:Array ad):oK (h.push {cls:= .type 22#1,data:= .seq items}) h.objs.size items:=⟨_,be _ rfl,rfl,_,rfl,rfl⟩
section
variable (P:br) (w:bz)
def vS (H:Hp)(h:cf)(a:aa):HO->Prop
 | .lst xs=>xs.length<=am/\∃(xn:List ad) (n:Nat),zR xs xn/\h.get? a=some {cls:= .type 9#1,data:= .seq xn.toArray n}
 | .tup xs=>xs.length<=am/\∃xn:List ad,zR xs xn/\oK h a xn.toArray
 | .dK kvs=>kvs.length<=am/\(a==sysModules)=false/\∃vs,KV kvs vs/\h.DictOf (uO P w) a vs
 | .dT kvs=>kvs.length<=am/\(a==sysModules)=false/\∃xs:List (List zK×aa×ad),
   Paired (λ(p:List zK×V) (q:List zK×aa×ad)=>p.1=q.1/\H q.2.1=some (.tup (p.1.map kV))/\y4 p.2 q.2.2) kvs xs/\
   ∃o es ep,h.get? a=some o/\o.ExactDict/\o.data= .dict es ep/\es.toList=xs.map (entryOfKey (tupleKind (uO P w)))/\(xs.map (·.1)).Nodup
 | .set S n=>h.SetOf (intKind P w) a S n
 | .ins C dx fs=>H dx=some (.own a)/\fs.length<=1000/\dx≠a/\h.get? a=some (instObj C dx)/\
   ∃mA,h.Ns1 dx mA/\(∀f,sA (fs.lookup f) (mA f))/\PySem.Within mA (fs.map (·.1))
 | .own _=> ∃o,h.get? a=some o
 | .xd fs=> ∃mA,h.Ns1 a mA/\∀f,sA (fs.lookup f) (mA f)
 | .rng lo hi=> ∃t u v,h.get? a=some {cls:= .type "range",data:= .fields #[.int lo t,.int hi u,.int 1 v]}
 | .frz o u=>h.get? a=some o/\vS H h a u
 | .tbl ps=>h.get? a=some {cls:= .none,data:= .fields ps}
 | .met f x=>h.get? a=some (methodObj 8#3 (.ref x))
 | .ext φ=>φ h/\(∃o,h.get? a=some o)/\∀h1 h2:cf,φ h1->(∀o,h1.get? a=some o->h2.get? a=some o)->φ h2
def wD (H:Hp)(h:cf):Prop:= ∀a o,H a=some o->vS P w H h a o
end
section
variable {P:br} {w:bz} {H H':Hp} {h h':cf} {a:aa} {o:HO}
theorem vS.lt (x:vS P w H h a o):a < h.objs.size:=by
 cases o with
 | lst xs=>obtain⟨_,_,_,_,e⟩:=x;exact aw e
 | tup xs=>obtain⟨_,_,_,p⟩:=x;exact p.lt
 | dK kvs=>obtain⟨_,_,_,_,o,_,_,e,_⟩:=x;exact aw e
 | dT kvs=>obtain⟨_,_,_,_,o,_,_,e,_⟩:=x;exact aw e
 | set S n=>obtain⟨o,_,_,_,e,_⟩:=x;exact aw e
 | ins C dx fs=>obtain⟨_,_,_,e,_⟩:=x;exact aw e
 | own y=>obtain⟨_,e⟩:=x;exact aw e
 | xd fs=>obtain⟨_,⟨_,_,_,e,_⟩,_⟩:=x;exact aw e
 | rng lo hi=>obtain⟨_,_,_,e⟩:=x;exact aw e
 | frz ob u=>obtain⟨e,_⟩:=x;exact aw e
 | tbl ps=>exact aw (show h.get? a=some _ from x)
 | met f y=>exact aw (show h.get? a=some _ from x)
 | ext φ=>obtain⟨_,⟨_,e⟩,_⟩:=x;exact aw e
theorem Paired.mapP {α β:Type}{F G:α->β->Prop} : ∀{l₁:List α} {l₂:List β},Paired F l₁ l₂->(∀a b,F a b->G a b)->Paired G l₁ l₂
 | _,_,.nil,_=> .nil
 | _,_,.cons r t,f=> .cons (f _ _ r) (Paired.mapP t f)
theorem vS.stay (x:vS P w H h a o)(k: ∀b u,(b=a∨H b=some (.own a))->h.get? b=some u->h'.get? b=some u)
  (ho: ∀b,H b=some (.own a)->H' b=some (.own a)) (ht: ∀b xs,H b=some 2#6->H' b=some 2#6):vS P w H' h' a o:=by
 induction o with
 | lst xs=>obtain⟨z,xn,n,r,e⟩:=x;exact⟨z,xn,n,r,k _ _ (.inl rfl) e⟩
 | tup xs=>obtain⟨z,xn,r,ob,e,c⟩:=x;exact⟨z,xn,r,ob,k _ _ (.inl rfl) e,c⟩
 | dK kvs=>obtain⟨z,y,vs,r,ob,es,ep,e,c⟩:=x;exact⟨z,y,vs,r,ob,es,ep,k _ _ (.inl rfl) e,c⟩
 | dT kvs=>
  obtain⟨z,y,xs,r,ob,es,ep,e,c⟩:=x;exact⟨z,y,xs,Paired.mapP r λp q z=>⟨z.1,ht _ _ z.2.1,z.2.2⟩,ob,es,ep,k _ _ (.inl rfl) e,c⟩
 | set S n=>obtain⟨ob,es,ep,t,e,c⟩:=x;exact⟨ob,es,ep,t,k _ _ (.inl rfl) e,c⟩
 | ins C dx fs=>
  obtain⟨d,z,ne,e,mA,⟨od,es,ep,e2,c⟩,r⟩:=x;exact⟨ho _ d,z,ne,k _ _ (.inl rfl) e,mA,⟨od,es,ep,k _ _ (.inr d) e2,c⟩,r⟩
 | own y=>obtain⟨ob,e⟩:=x;exact⟨ob,k _ _ (.inl rfl) e⟩
 | xd fs=>obtain⟨mA,⟨od,es,ep,e,c⟩,r⟩:=x;exact⟨mA,⟨od,es,ep,k _ _ (.inl rfl) e,c⟩,r⟩
 | rng lo hi=>obtain⟨t,u,v,e⟩:=x;exact⟨t,u,v,k _ _ (.inl rfl) e⟩
 | frz ob u ih=>obtain⟨e,q⟩:=x;exact⟨k _ _ (.inl rfl) e,ih q⟩
 | tbl ps=>
  have e:h.get? a=some {cls:= .none,data:= .fields ps} :=x;show h'.get? a=some {cls:= .none,data:= .fields ps};exact k a _ (.inl rfl) e
 | met f y=>
  have e:h.get? a=some (methodObj 8#3 (.ref y)):=x;show h'.get? a=some (methodObj 8#3 (.ref y));exact k a _ (.inl rfl) e
 | ext φ=>obtain⟨p,⟨o,e⟩,st⟩:=x;exact⟨st _ _ p λo q=>k _ _ (.inl rfl) q,⟨o,k _ _ (.inl rfl) e⟩,st⟩
theorem wD.lt (x:wD P w H h)(e:H a=some o):a < h.objs.size:=(x a o e).lt
theorem wD.fresh (x:wD P w H h)(e:h.objs.size<=a):H a=none:=by
 cases q:H a with
 | none=>rfl
 | some u=>exact absurd (bp (x.lt q) e) (cy _)
theorem wD.kept (x:wD P w H h)(k: ∀b u,h.get? b=some u->h'.get? b=some u):wD P w H h':=λa o e=>
 (x a o e).stay (λb u _ q=>k b u q) (λ_ q=>q) λ_ _ q=>q
theorem wD.laid (x:wD P w H h)(k: ∀b u,h.get? b=some u->h'.get? b=some u)(hp:h.objs.size<=a)(new:vS P w (zN H a o) h' a o):wD P w (zN H a o) h':=λb u e=>by
 have hn:=x.fresh hp;by_cases hb:b=a
 ·subst hb;rw[xR]at e;cases e;exact new
 ·rw[yJ hb]at e
  exact(x b u e).stay (λc v _ q=>k c v q) (λc q=>by rw[yJ (pZ q hn)];exact q) λc xs q=>by rw[yJ (pZ q hn)];exact q
end
def Rd (H:Hp)(a:aa)(u:HO):Prop:=H a=some u∨∃o,H a=some (.frz o u)
theorem Rd.ok {P:br}{w:bz}{H:Hp}{h:cf}{a:aa}{u:HO}(r:Rd H a u)(x:wD P w H h):vS P w H h a u:=by
 rcases r with r | ⟨o,r⟩
 ·exact x a u r
 ·obtain⟨_,q⟩:=x a _ r
  exact q
def fD:Option HO->Prop
 | some (.lst _)=>True
 | some (.dK _)=>True
 | some (.dT _)=>True
 | some (.set _ _)=>True
 | some (.ins _ _ _)=>True
 | some (.ext _)=>True
 | _=>False
section
variable {P:br} {w:bz} {H:Hp} {h h':cf} {x e:aa} {o':HO}
theorem wD.write (ok:wD P w H h)(mu:fD (H x))(he:e=x∨H e=some (.own x))(k: ∀b u,b≠e->h.get? b=some u->h'.get? b=some u)(heo: ∃u,h'.get? e=some u)
  (new:vS P w (zN H x o') h' x o'):wD P w (zN H x o') h':=λb u q=>by
 have nown: ∀c y,H c=some (.own y)->c≠x:=λc y r z=>by subst z;rw[r]at mu;exact mu
 have ntup: ∀c xs,H c=some 2#6->c≠x:=λc xs r z=>by subst z;rw[r]at mu;exact mu
 by_cases hb:b=x
 ·subst hb;rw[xR]at q;cases q;exact new
 ·rw[yJ hb]at q
  by_cases hbe:b=e
  ·have q':H b=some (.own x):=by
    rcases he with z | z
    ·exact absurd (hbe.trans z) hb
    ·rw[hbe];exact z
   rw[q]at q';cases q';obtain⟨v,hv⟩:=heo;exact⟨v,by rw[hbe];exact hv⟩
  ·refine(ok b u q).stay (λc v hc r=>k c v ?_ r) (λc r=>by rw[yJ (nown c b r)];exact r) λc xs r=>by rw[yJ (ntup c xs r)];exact r
   rcases hc with rfl | hc
   ·exact hbe
   ·rintro rfl
    rcases he with z | z
    ·exact nown c b hc z
    ·rw[hc]at z;cases z;exact hb rfl
end
structure Un (fs ex:List aa)(H H':Hp)(h h':cf):Prop where
 keep: ∀b o,h.get? b=some o->H b=none->b∉fs->b∉ex->h'.get? b=some o
 slot: ∀b o,h.get? b=some o->H b=none->b∈fs->b∉ex->∃sl,h'.get? b=some {o with slots:=sl}
 free: ∀b o,h.get? b=some o->H b=none->b∉ex->H' b=none
 there: ∀b o,h.get? b=some o->b∉ex->∃o',h'.get? b=some o'
 tups: ∀b xs,H b=some 2#6->H' b=some 2#6
 frzs: ∀b o u,H b=some (.frz o u)->H' b=some (.frz o u)
 tbls: ∀b ps,H b=some (.tbl ps)->∃more,H' b=some (.tbl (ps++more))
section
variable {fs fs' ex ex':List aa} {H H1 H2:Hp} {h h1 h2 h':cf} {a x e:aa} {o:HO}
theorem Un.any (u:Un fs ex H H1 h h1){b:aa}{ob:aj}(q:h.get? b=some ob)(n:H b=none)(hx:b∉ex): ∃sl,h1.get? b=some {ob with slots:=sl} :=by
 by_cases hb:b∈fs
 ·exact u.slot b ob q n hb hx
 ·exact⟨ob.slots,u.keep b ob q n hb hx⟩
theorem Un.kept (k: ∀b u,h.get? b=some u->h'.get? b=some u):Un fs ex H H h h':=
 ⟨λb ob q _ _ _=>k b ob q,λb ob q _ _ _=>⟨ob.slots,k b ob q⟩,λ_ _ _ n _=>n,λb ob q _=>⟨ob,k b ob q⟩,λ_ _ q=>q,λ_ _ _ q=>q,λ_ ps q=>⟨#[],by rw[q];simp⟩⟩
theorem Un.refl:Un fs ex H H h h:=Un.kept λ_ _ q=>q
theorem Un.laid (k: ∀b u,h.get? b=some u->h'.get? b=some u)(hp:h.objs.size<=a)(hn:H a=none):Un fs ex H (zN H a o) h h' where
 keep:=λb u q _ _ _=>k b u q
 slot:=λb u q _ _ _=>⟨u.slots,k b u q⟩
 free:=λb u q n _=>by rw[yJ (bo (bp (aw q) hp))];exact n
 there:=λb u q _=>⟨u,k b u q⟩
 tups:=λb xs q=>by rw[yJ (pZ q hn)];exact q
 frzs:=λb u xs q=>by rw[yJ (pZ q hn)];exact q
 tbls:=λb ps q=>⟨#[],by rw[yJ (pZ q hn),q];simp⟩
theorem Un.write (mu:fD (H x))(he:e=x∨H e=some (.own x))(k: ∀b u,b≠e->h.get? b=some u->h'.get? b=some u)(heo: ∃u,h'.get? e=some u):Un fs ex H (zN H x o) h h':=by
 have hx: ∀b,H b=none->b≠x:=λb n z=>by subst z;rw[n]at mu;exact mu
 have hb: ∀b,H b=none->b≠e:=λb n z=>by
  subst z;rcases he with r | r
  ·exact hx b n r
  ·rw[n]at r;cases r
 have hm: ∀b u,H b=some u->¬ fD (some u)->b≠x:=λb u q nm z=>by subst z;rw[q]at mu;exact nm mu
 refine⟨λb u q n _ _=>k b u (hb b n) q,λb u q n _ _=>⟨u.slots,k b u (hb b n) q⟩,λb u q n _=>by rw[yJ (hx b n)];exact n,λb u q _=> ?_,
  λb xs q=>by rw[yJ (hm b _ q λz=>z)];exact q,λb u xs q=>by rw[yJ (hm b _ q λz=>z)];exact q,λb ps q=>⟨#[],by rw[yJ (hm b _ q λz=>z),q];simp⟩⟩
 by_cases hbe:b=e
 ·subst hbe;exact heo
 ·exact⟨u,k b u hbe q⟩
end
def trk (h:cf)(H:Hp):List aa:=(List.range h.objs.size).filter λa=>(H a).isSome
def mO (h:cf)(H:Hp):cf:=PySem.W.hideAll h (trk h H)
theorem zta (h:cf)(H:Hp):(mO h H).objs.size=h.objs.size:=PySem.W.hideAll_size _ _
theorem zsZ {h:cf}{H:Hp}{b:aa}{o:aj}(e:h.get? b=some o)(n:H b=none):(mO h H).get? b=some o:=
 PySem.W.hideAll_get _ e λhm=>by
  have q:(H b).isSome=true:=(xc.mp hm).2;rw[n]at q;simp at q
theorem zvk {h:cf}{H:Hp}{b:aa}{o:aj}(e:(mO h H).get? b=some o):h.get? b=some o/\H b=none:=by
 have e':h.get? b=some o:=PySem.W.of_hideAll (trk h H) e;refine⟨e',?_⟩;cases q:H b with
 | none=>rfl
 | some x=>
  have hm:b∈trk h H:=xc.mpr ⟨ou.mpr (aw e'),by simp[q]⟩;have z:(mO h H).get? b=none:=PySem.W.hideAll_none (trk h H) hm;rw[z]at e;cases e
def zre (g h:cf)(L:aa):List 9#3:=(List.range h.objs.size).filterMap λa=>if a=L∨(g.get? a).isSome=true then none else(h.get? a).map λo=>(a,o)
def vP (g h:cf)(L d:aa):List 9#3:=(zre g h L).filter λp=>decide (p.1≠d)
structure Mod (K:Frag)(mg:Str->Option ad)(base:cf):Prop where
 kin:K.In base
 glob:base.Ns da mg
 blt: ∃mb,base.Ns builtinsNs mb/\∀x:Str,x≠ "__name__" ->mb x=bootBuiltins x
 nolimit:base.NoLimit
structure Cx where
 prog:br
 w:bz
 K:Frag
 mg:Str->Option ad
 base:cf
 A:ci
 N:List Str
 s₀:ag
 H₀:Hp
 env:lc
 outer:List lc
 stack:List lc
 ex:List aa
 fn:Str->Bool
 calm:Bool
 pn:List 9#3
 xe:ad->ag->Prop
def tU (l:List lc):List aa:=l.filterMap (·.frame)
abbrev Cx.fs (X:Cx):List aa:=tU X.outer
def Vis (sc:kb)(x:Str):Prop:=sc.names.lookup x=some .local∨sc.names.lookup x=some .cell∨sc.names.lookup x=some .free
def rP (sc:kb)(x:Str):Prop:=sc.names.lookup x=some .local∨sc.names.lookup x=some .cell
def zqT (env:lc)(h:cf)(m:Str->Option ad)(x:Str)(u:ad):Prop:=
 (env.kindOf x=some .local/\m x=some u)∨((env.kindOf x=some .cell∨env.kindOf x=some .free)/\∃c,env.cells.lookup x=some c/\h.IsCell c (some u))
structure Cx.Ok (X:Cx):Prop where
 mod:Mod X.K X.mg X.base
 kind:X.env.scope.kind= .function
 glob:X.env.globals=da
 blt:X.env.builtins=builtinsNs
 above:X.s₀.heap.objs.size<=X.env.locals
 inj: ∀x y c,X.env.cells.lookup x=some c->X.env.cells.lookup y=some c->x=y
 has: ∀x,(X.env.kindOf x=some .cell∨X.env.kindOf x=some .free)->∃c,X.env.cells.lookup x=some c
 cab: ∀x c,X.fn x=true->X.env.cells.lookup x=some c->X.s₀.heap.objs.size<=c
 hd:X.calm=true->X.A.handled=none
 frames:X.A.frames=some X.stack
 stk:X.stack=X.outer∨(X.stack=X.env::X.outer/\X.env.frame=some X.env.locals)
 exf: ∀b∈X.ex,b≠X.env.locals/\∀x c,X.env.cells.lookup x=some c->c≠b
 bs: ∀b o,X.base.get? b=some o->X.s₀.heap.get? b=some o/\X.H₀ b=none
 bsz:X.base.objs.size<=X.s₀.heap.objs.size
 noex: ∀b o,X.base.get? b=some o->b∉X.ex
 exfs: ∀b∈X.ex,b∉X.fs
 funs:X.s₀.heap.FunFrames X.base X.outer
 frf: ∀b∈X.fs,X.H₀ b=none
structure z9 (X:Cx)(mt:List 9#3)(σ:List (Option V))(H:Hp)(s:ag):Prop where
 ok:X.Ok
 os:s.os=X.s₀.os
 bare:AllBare s.gens
 base:Un X.fs X.ex X.H₀ H X.s₀.heap s.heap
 loc: ∃m,s.heap.Ns X.env.locals m/\∀(i:Nat) (x:Str) (v:V),X.N[i]?=some x->σ[i]?=some (some v)->Vis X.env.scope x->∃u,y4 v u/\zqT X.env s.heap m x u
 cell: ∀x c,X.env.cells.lookup x=some c->∃v,s.heap.IsCell c v
 free:H X.env.locals=none
 freeC: ∀x c,X.env.cells.lookup x=some c->H c=none
 pin: ∀p∈X.pn++mt,s.heap.get? p.1=some p.2/\H p.1=none/\p.1≠X.env.locals/\p.1∉X.fs/\∀v,p.2.data≠ .cell v
 hok:wD X.prog X.w H s.heap
 len:σ.length=X.N.length
section
variable {X:Cx} {mt:List (aa×aj)} {σ:List (Option V)} {H H':Hp} {s:ag} {h':cf}
theorem Cx.Ok.nofr (ok:X.Ok){b:aa}{o:aj}(e:X.base.get? b=some o):b∉X.fs:=λhb=>by
 have:=(ok.funs.mem hb).1;rw[e]at this;cases this
theorem z9.bs (I:z9 X mt σ H s): ∀b o,X.base.get? b=some o->s.heap.get? b=some o/\H b=none:=λb o e=>
 ⟨I.base.keep b o (I.ok.bs b o e).1 (I.ok.bs b o e).2 (I.ok.nofr e) (I.ok.noex b o e),I.base.free b o (I.ok.bs b o e).1 (I.ok.bs b o e).2 (I.ok.noex b o e)⟩
theorem z9.bk (I:z9 X mt σ H s): ∀b o,X.base.get? b=some o->s.heap.get? b=some o:=λb o e=>(I.bs b o e).1
theorem z9.mod (I:z9 X mt σ H s):Mod X.K X.mg X.base:=I.ok.mod
theorem z9.kIn (I:z9 X mt σ H s):X.K.In s.heap:=I.ok.mod.kin.keeps I.bk
theorem z9.lt (I:z9 X mt σ H s):X.env.locals < s.heap.objs.size:=let⟨_,hn,_⟩:=I.loc;hn.lt
theorem z9.sz (I:z9 X mt σ H s):X.s₀.heap.objs.size<=s.heap.objs.size:=cb I.ok.above (ke I.lt)
theorem z9.nofs (I:z9 X mt σ H s){a:aa}(h:s.heap.objs.size<=a):a∉X.fs:=λhb=>by
 obtain⟨_,o,ho,_⟩:=I.ok.funs.mem hb;exact absurd (bp (aw ho) (cb I.sz h)) (cy _)
theorem z9.cne (I:z9 X mt σ H s): ∀x c,X.env.cells.lookup x=some c->c≠X.env.locals:=λx c e z=>by
 obtain⟨v,o,ho,hd⟩:=I.cell x c e;obtain⟨m,⟨o',es,ep,ho',hd',_⟩,_⟩:=I.loc;rw[z,ho']at ho;cases ho;rw[hd']at hd;cases hd
theorem z9.funs (I:z9 X mt σ H s):s.heap.FunFrames X.base X.outer:=by
 have all: ∀(l:List lc),(∀b∈tU l,b∈X.fs)->X.s₀.heap.FunFrames X.base l->s.heap.FunFrames X.base l:=by
  intro l
  induction l with
  | nil=>intro _ _;trivial
  | cons env r ih=>
   intro hs hl;obtain⟨hk,⟨L,o,hf,hn,ho,hd⟩,hr⟩:=hl;have hL:L∈X.fs:=hs L (by unfold tU;rw[jk,hf];exact ax);obtain⟨sl,e⟩:=I.base.slot L o ho (I.ok.frf L hL) hL λz=>I.ok.exfs L z hL;exact⟨hk,⟨L,_,hf,hn,e,hd⟩,ih (λb hb=>hs b (by unfold tU;rw[jk,hf];exact bc _ hb)) hr⟩
 exact all X.outer (λ_ hb=>hb) I.ok.funs
theorem z9.stack (I:z9 X mt σ H s):s.heap.FunFrames X.base X.stack:=by
 rcases I.ok.stk with e | ⟨e,hf⟩
 ·rw[e];exact I.funs
 ·rw[e]
  obtain⟨m,hn,_⟩:=I.loc;refine .cons (by rw[I.ok.kind];decide) hf hn ?_ I.funs;exact Heap.get?_none_of_le (cb I.ok.bsz I.ok.above)
theorem z9.stkSub (I:z9 X mt σ H s): ∀b∈tU X.stack,b∈X.env.locals::X.fs:=λb hb=>by
 rcases I.ok.stk with e | ⟨e,hf⟩
 ·rw[e]at hb;exact bc _ hb
 ·rw[e]at hb
  unfold tU at hb;rw[jk,hf]at hb;exact hb
theorem z9.stkFree (I:z9 X mt σ H s): ∀b∈tU X.stack,H b=none:=λb hb=>by
 rcases ar.mp (I.stkSub b hb)with e | hb
 ·rw[e];exact I.free
 ·obtain⟨_,o,ho,_⟩:=I.ok.funs.mem hb
  exact I.base.free b o ho (I.ok.frf b hb) λz=>I.ok.exfs b z hb
theorem z9.step {g':Array GenState}{t':Nat}{d':Drawn}{ch:List aa}(I:z9 X mt σ H s)
  (hch: ∀b∈ch,(b∈X.ex∨X.s₀.heap.objs.size<=b)/\b≠X.env.locals/\(∀x c,X.env.cells.lookup x=some c->c≠b)/\∀p∈X.pn++mt,p.1≠b)
  (keep: ∀b o,b≠X.env.locals->b∉X.fs->b∉ch->s.heap.get? b=some o->H b=none->h'.get? b=some o)
  (slot: ∀b o,b≠X.env.locals->b∈X.fs->b∉ch->s.heap.get? b=some o->H b=none->∃sl,h'.get? b=some {o with slots:=sl}) (free: ∀b o,b∉ch->s.heap.get? b=some o->H b=none->H' b=none)
  (there: ∀b o,b∉ch->s.heap.get? b=some o->∃o',h'.get? b=some o')
  (tups: ∀b xs,H b=some 2#6->H' b=some 2#6) (frzs: ∀b o u,H b=some (.frz o u)->H' b=some (.frz o u)) (tbls: ∀b ps,H b=some (.tbl ps)->∃more,H' b=some (.tbl (ps++more)))
  (ns: ∀m,s.heap.Ns X.env.locals m->h'.Ns X.env.locals m) (hok:wD X.prog X.w H' h') (hg:AllBare g'):
  z9 X mt σ H' {s with heap:=h',gens:=g',drawn:=d',toks:=t'} :=by
 have neL: ∀b o,X.s₀.heap.get? b=some o->b≠X.env.locals:=λb o e=>bo (bp (aw e) I.ok.above);have neC: ∀b o,X.s₀.heap.get? b=some o->b∉X.ex->b∉ch:=λb o e hx hb=>by
  rcases(hch b hb).1 with z | z
  ·exact hx z
  ·exact absurd (bp (aw e) z) (cy _)
 have cellK: ∀x c,X.env.cells.lookup x=some c->∀v,s.heap.IsCell c v->h'.IsCell c v:=λx c e v ⟨o,ho,hd⟩=>by
  have nch:c∉ch:=λz=>(hch c z).2.2.1 x c e rfl;by_cases hc:c∈X.fs
  ·obtain⟨sl,q⟩:=slot c o (I.cne x c e) hc nch ho (I.freeC x c e)
   exact⟨_,q,hd⟩
  ·exact⟨o,keep c o (I.cne x c e) hc nch ho (I.freeC x c e),hd⟩
 refine⟨I.ok,I.os,hg,⟨λb o e n hb hx=> ?_,λb o e n hb hx=> ?_,λb o e n hx=> ?_,λb o e hx=> ?_,λb xs e=>tups b xs (I.base.tups b xs e),λb o xs e=>frzs b o xs (I.base.frzs b o xs e),λb ps e=> ?_⟩,?_,λx c e=> ?_,?_,λx c e=> ?_,λp hp=> ?_,hok,I.len⟩
 ·exact keep b o (neL b o e) hb (neC b o e hx) (I.base.keep b o e n hb hx) (I.base.free b o e n hx)
 ·obtain⟨sl,e1⟩:=I.base.slot b o e n hb hx
  obtain⟨sl',e2⟩:=slot b _ (neL b o e) hb (neC b o e hx) e1 (I.base.free b o e n hx);exact⟨sl',e2⟩
 ·obtain⟨o',e1⟩:=I.base.there b o e hx
  exact free b o' (neC b o e hx) e1 (I.base.free b o e n hx)
 ·obtain⟨o',e1⟩:=I.base.there b o e hx
  exact there b o' (neC b o e hx) e1
 ·obtain⟨m1,e1⟩:=I.base.tbls b ps e
  obtain⟨m2,e2⟩:=tbls b _ e1;exact⟨m1++m2,by rw[e2,Array.append_assoc]⟩
 ·obtain⟨m,hn,hl⟩:=I.loc
  refine⟨m,ns m hn,λi x v e1 e2 e3=> ?_⟩;obtain⟨u,r,l⟩:=hl i x v e1 e2 e3;refine⟨u,r,?_⟩;rcases l with l | ⟨k,c,e,z⟩
  ·exact .inl l
  ·exact .inr ⟨k,c,e,cellK x c e _ z⟩
 ·obtain⟨v,z⟩:=I.cell x c e
  exact⟨v,cellK x c e v z⟩
 ·obtain⟨m,⟨o,_,_,ho,_⟩,_⟩:=I.loc
  exact free _ o (λz=>(hch _ z).2.1 rfl) ho I.free
 ·obtain⟨v,o,ho,hd⟩:=I.cell x c e
  exact free c o (λz=>(hch c z).2.2.1 x c e rfl) ho (I.freeC x c e)
 ·obtain⟨e,n,ne,nf,d⟩:=I.pin p hp
  have nch:p.1∉ch:=λz=>(hch p.1 z).2.2.2 p hp rfl;exact⟨keep p.1 p.2 ne nf nch e n,free p.1 p.2 nch e n,ne,nf,d⟩
theorem z9.un {t':Nat}(I:z9 X mt σ H s)(u:Un X.fs [] H H' s.heap h')(hok:wD X.prog X.w H' h'):z9 X mt σ H' {s with heap:=h',toks:=t'} :=by
 obtain⟨m,⟨o,es,ep,ho,r⟩,_⟩:=id I.loc;obtain⟨sl,hL⟩:=u.any ho I.free 3#0;exact I.step (g':=s.gens) (d':=s.drawn) (ch:= []) (λ_ z=>nomatch z) (λb o _ hb _ e n=>u.keep b o e n hb 3#0) (λb o _ hb _ e n=>u.slot b o e n hb 3#0) (λb o _ e n=>u.free b o e n 3#0) (λb o _ e=>u.there b o e 3#0) u.tups u.frzs u.tbls (λm' hm=>by
  obtain⟨o',es',ep',ho',r'⟩:=hm;rw[ho]at ho';cases ho';exact⟨_,es',ep',hL,r'⟩) hok I.bare
theorem z9.call {g':Array GenState}{t':Nat}{d':Drawn}{ch:List aa}(I:z9 X mt σ H s)(u:Un (tU X.stack) ch H H' s.heap h')(hok:wD X.prog X.w H' h')(hg:AllBare g')
  (hch: ∀b∈ch,(b∈X.ex∨X.s₀.heap.objs.size<=b)/\b≠X.env.locals/\(∀x c,X.env.cells.lookup x=some c->c≠b)/\∀p∈X.pn++mt,p.1≠b):
  z9 X mt σ H' {s with heap:=h',gens:=g',drawn:=d',toks:=t'} :=by
 obtain⟨m,⟨o,es,ep,ho,r⟩,_⟩:=id I.loc;obtain⟨sl,hL⟩:=u.any ho I.free λz=>(hch _ z).2.1 rfl;exact I.step (ch:=ch) hch (λb o hL hb hc e n=>u.keep b o e n (λz=>(ar.mp (I.stkSub b z)).elim hL hb) hc) (λb o _ _ hc e n=>u.any e n hc) (λb o hc e n=>u.free b o e n hc) (λb o hc e=>u.there b o e hc) u.tups u.frzs u.tbls (λm' hm=>by
  obtain⟨o',es',ep',ho',r'⟩:=hm;rw[ho]at ho';cases ho';exact⟨_,es',ep',hL,r'⟩) hok hg
theorem z9.turned {t':Nat}{it:aa}(I:z9 X mt σ H s)(k: ∀b o,b≠it->s.heap.get? b=some o->h'.get? b=some o)(hn:H it=none)(hL:it≠X.env.locals)
  (h1:it∈X.ex∨X.s₀.heap.objs.size<=it) (h2: ∀x c,X.env.cells.lookup x=some c->c≠it) (h3: ∀p∈X.pn++mt,p.1≠it):z9 X mt σ H {s with heap:=h',toks:=t'} :=by
 have nit: ∀b u,H b=some u->b≠it:=λb u e z=>by rw[z,hn]at e;cases e
 refine I.step (g':=s.gens) (d':=s.drawn) (ch:= [it]) (λb hb=> ?_) (λb o _ _ hc e _=>k b o (λz=>hc (by simp[z])) e) (λb o _ _ hc e _=>⟨o.slots,k b o (λz=>hc (by simp[z])) e⟩) (λ_ _ _ _ n=>n)
  (λb o hc e=>⟨o,k b o (λz=>hc (by simp[z])) e⟩) (λ_ _ e=>e) (λ_ _ _ e=>e) (λb ps e=>⟨#[],by rw[e];simp⟩) (λm hm=> ?_) (λb u e=> ?_) I.bare
 ·have e:b=it:=by simpa using hb
  subst e;exact⟨h1,hL,h2,h3⟩
 ·obtain⟨o,es,ep,ho,r⟩:=hm
  exact⟨o,es,ep,k _ o (dh hL) ho,r⟩
 ·refine(I.hok b u e).stay (λc v hc q=>k c v ?_ q) (λ_ q=>q) λ_ _ q=>q
  rcases hc with z | z
  ·rw[z];exact nit b u e
  ·exact nit c _ z
theorem z9.tok (I:z9 X mt σ H s)(t:Nat):z9 X mt σ H {s with toks:=t} :=I.un (h':=s.heap) (t':=t) Un.refl I.hok
theorem z9.kept {t':Nat}(I:z9 X mt σ H s)(k: ∀b u,s.heap.get? b=some u->h'.get? b=some u):z9 X mt σ H {s with heap:=h',toks:=t'} :=I.un (Un.kept k) (I.hok.kept k)
theorem z9.laid {a:aa}{o:HO}{t':Nat}(I:z9 X mt σ H s)(k: ∀b u,s.heap.get? b=some u->h'.get? b=some u)(hp:s.heap.objs.size<=a)(new:vS X.prog X.w (zN H a o) h' a o):
  z9 X mt σ (zN H a o) {s with heap:=h',toks:=t'} :=I.un (Un.laid k hp (I.hok.fresh hp)) (I.hok.laid k hp new)
theorem z9.write {x e:aa}{o:HO}{t':Nat}(I:z9 X mt σ H s)(mu:fD (H x))(he:e=x∨H e=some (.own x))(k: ∀b u,b≠e->s.heap.get? b=some u->h'.get? b=some u)(heo: ∃u,h'.get? e=some u)
  (new:vS X.prog X.w (zN H x o) h' x o):z9 X mt σ (zN H x o) {s with heap:=h',toks:=t'} :=I.un (Un.write mu he k heo) (I.hok.write mu he k heo new)
theorem z9.pins_of {pins':List 9#3}(I:z9 X mt σ H s)(h: ∀p∈pins',s.heap.get? p.1=some p.2/\H p.1=none/\p.1≠X.env.locals/\p.1∉X.fs/\∀v,p.2.data≠ .cell v):z9 X pins' σ H s:=
 ⟨I.ok,I.os,I.bare,I.base,I.loc,I.cell,I.free,I.freeC,λp hp=>(bi.mp hp).elim (λz=>I.pin p (ja _ z)) (h p),I.hok,I.len⟩
theorem zmP {N:List Str}(hN:N.Nodup){i j:Nat}{x:Str}(a:N[i]?=some x)(b:N[j]?=some x):i=j:=by
 obtain⟨h1,e1⟩:=ba.mp a;obtain⟨h2,e2⟩:=ba.mp b;exact(List.getElem_inj hN).mp (e1.trans e2.symm)
theorem zoT {M:Model}{A:ci}{E:ad->ag->Prop}{i:Nat}{x:Str}{v:V}{u:ad}{Q:Unit->ag->Prop}(I:z9 X mt σ H s)(hN:X.N.Nodup)(hi:X.N[i]?=some x)(hx:rP X.env.scope x)(r:y4 v u)
  (h: ∀s',z9 X mt (σ.set i (some v)) H s'->(∃a,Heap.SameBut a s.heap s'.heap/\(a=X.env.locals∨X.env.cells.lookup x=some a))->Q () s') (hf:X.fn x=true∨X.env.scope.names.lookup x=some .local:=by first | exact .inl rfl | exact .inr rfl | assumption):av M A (storeName X.env x u) Q E s:=by
 obtain⟨m,hn,hl⟩:=id I.loc;have hcls:(X.env.scope.kind== .class||(X.env.scope.kind== .module&&X.env.locals !=X.env.globals))=false:=by rw[I.ok.kind];rfl
 have hiσ:i < σ.length:=by rw[I.len];exact(ba.mp hi).1
 have cne:=I.cne;have tracked: ∀{a:aa} {h':cf},(∃o,s.heap.get? a=some o/\H a=none)->Heap.SameBut a s.heap h'->wD X.prog X.w H h':=λ{a h'} ha hs b ob e=>by
  obtain⟨_,_,hfree⟩:=ha;refine(I.hok b ob e).stay (λc w' hc q=>(hs.2 c ?_).trans q) (λ_ q=>q) λ_ _ q=>q;rintro rfl;rcases hc with rfl | hc
  ·rw[hfree]at e;cases e
  ·rw[hfree]at hc;cases hc
 rcases hx with hk | hk
 ·refine wpAny_storeName_local hk hn (λh' hn' hs=> ?_) hcls
  obtain⟨oL,_,_,hoL,_⟩:=id hn;refine h _ ⟨I.ok,I.os,I.bare,⟨λb o e n hb hx=> ?_,λb o e n hb hx=> ?_,I.base.free,λb o e hx=> ?_,I.base.tups,I.base.frzs,I.base.tbls⟩,⟨_,hn',λj y v' e1 e2 e3=> ?_⟩,λy c e=> ?_,I.free,I.freeC,λp hp=> ?_,tracked ⟨oL,hoL,I.free⟩ hs,by simpa using I.len⟩ ⟨_,hs,.inl rfl⟩
  ·exact(hs.2 b (bo (bp (aw e) I.ok.above))).trans (I.base.keep b o e n hb hx)
  ·obtain⟨sl,e1⟩:=I.base.slot b o e n hb hx
   exact⟨sl,(hs.2 b (bo (bp (aw e) I.ok.above))).trans e1⟩
  ·obtain⟨o',e1⟩:=I.base.there b o e hx
   exact⟨o',(hs.2 b (bo (bp (aw e) I.ok.above))).trans e1⟩
  ·by_cases hj:j=i
   ·subst hj
    rw[hi]at e1;cases e1;rw[df hiσ]at e2;cases e2;exact⟨u,r,.inl ⟨hk,3#0⟩⟩
   ·rw[ge (dh hj)]at e2
    obtain⟨u',r',q⟩:=hl j y v' e1 e2 e3;refine⟨u',r',?_⟩;rcases q with⟨k,e⟩ | ⟨k,c,e,z⟩
    ·refine .inl ⟨k,?_⟩
     have:y≠x:=λe=>hj (zmP hN e1 (e▸hi));simp[this,e]
    ·exact .inr ⟨k,c,e,z.sameBut hs (cne y c e)⟩
  ·obtain⟨w',z⟩:=I.cell y c e
   exact⟨w',z.sameBut hs (cne y c e)⟩
  ·obtain⟨e,n,ne,nf,d⟩:=I.pin p hp
   exact⟨(hs.2 p.1 ne).trans e,n,ne,nf,d⟩
 ·have hfn:X.fn x=true:=by
   rcases hf with z | z
   ·exact z
   ·rw[z]at hk;cases hk
  obtain⟨c,hc⟩:=I.ok.has x (.inl hk);obtain⟨w',z⟩:=I.cell x c hc;refine wpAny_storeName_cell I.ok.kind hk hc z (λh' hc' hs=> ?_);obtain⟨oc,hoc,hocd⟩:=id z;refine h {s with heap:=h'} ⟨I.ok,I.os,I.bare,⟨λb o e n hb hx=> ?_,λb o e n hb hx=> ?_,I.base.free,λb o e hx=> ?_,I.base.tups,I.base.frzs,I.base.tbls⟩,⟨m,hn.sameBut hs (dh (cne x c hc)),λj y v' e1 e2 e3=> ?_⟩,λy c' e=> ?_,I.free,I.freeC,λp hp=> ?_,tracked ⟨oc,hoc,I.freeC x c hc⟩ hs,by simpa using I.len⟩ ⟨c,hs,.inr hc⟩
  ·exact(hs.2 b (bo (bp (aw e) (I.ok.cab x c hfn hc)))).trans (I.base.keep b o e n hb hx)
  ·obtain⟨sl,e1⟩:=I.base.slot b o e n hb hx
   exact⟨sl,(hs.2 b (bo (bp (aw e) (I.ok.cab x c hfn hc)))).trans e1⟩
  ·obtain⟨o',e1⟩:=I.base.there b o e hx
   exact⟨o',(hs.2 b (bo (bp (aw e) (I.ok.cab x c hfn hc)))).trans e1⟩
  ·by_cases hj:j=i
   ·subst hj
    rw[hi]at e1;cases e1;rw[df hiσ]at e2;cases e2;exact⟨u,r,.inr ⟨.inl hk,c,hc,hc'⟩⟩
   ·rw[ge (dh hj)]at e2
    obtain⟨u',r',q⟩:=hl j y v' e1 e2 e3;refine⟨u',r',?_⟩;rcases q with q | ⟨k,c',e,z'⟩
    ·exact .inl q
    ·refine .inr ⟨k,c',e,z'.sameBut hs ?_⟩
     rintro rfl;exact hj (zmP hN e1 (I.ok.inj _ _ _ e hc▸hi))
  ·by_cases hcc:c'=c
   ·subst hcc;exact⟨_,hc'⟩
   ·obtain⟨w2,z2⟩:=I.cell y c' e
    exact⟨w2,z2.sameBut hs hcc⟩
  ·obtain⟨e,n,ne,nf,d⟩:=I.pin p hp
   refine⟨(hs.2 p.1 ?_).trans e,n,ne,nf,d⟩;intro q;rw[q,hoc]at e;have q':oc=p.2:=ca e;exact d w' (by rw[<- q'];exact hocd)
theorem zaP {M:Model}{A:ci}{E:ad->ag->Prop}{i:Nat}{x:Str}{v:V}{u:ad}{Q:Unit->ag->Prop}(I:z9 X mt σ H s)(hN:X.N.Nodup)(hi:X.N[i]?=some x)(hx:rP X.env.scope x)(r:y4 v u)
  (h: ∀s',z9 X mt (σ.set i (some v)) H s'->Q () s') (hf:X.fn x=true∨X.env.scope.names.lookup x=some .local:=by first | exact .inl rfl | exact .inr rfl | assumption):av M A (storeName X.env x u) Q E s:=
 zoT I hN hi hx r (λs' I' _=>h s' I') hf
theorem z9.call' {s':ag}{ch:List aa}(I:z9 X mt σ H s)(ho:s'.os=s.os)(u:Un (tU X.stack) ch H H' s.heap s'.heap)(hok:wD X.prog X.w H' s'.heap)(hg:AllBare s'.gens)
  (hch: ∀b∈ch,(b∈X.ex∨X.s₀.heap.objs.size<=b)/\b≠X.env.locals/\(∀x c,X.env.cells.lookup x=some c->c≠b)/\∀p∈X.pn++mt,p.1≠b):z9 X mt σ H' s':=by
 obtain⟨h',g',d',t',o'⟩:=s';have e:o'=s.os:=ho;subst e;exact I.call (g':=g') (t':=t') (d':=d') u hok hg hch
end
abbrev XK:=ad->Option aa->Hp->Prop
abbrev St:=List (Option V)
abbrev VK:=V->Hp->Prop
abbrev TE:=St->Hp->VK->Prop
abbrev TT:=St->Hp->(Bool->Hp->Prop)->Prop
abbrev TA:=St->Hp->(List V->Hp->Prop)->Prop
structure sG where
 nx:St->Hp->Prop
 rt:VK
 bk:St->Hp->Prop:=λ_ _=>False
 ct:St->Hp->Prop:=λ_ _=>False
abbrev TS:=sG->St->Hp->Prop
def EP (X:Cx)(mt:List 9#3)(σ:St)(Q:VK)(u:ad)(s':ag):Prop:= ∃v H',z9 X mt σ H' s'/\y4 v u/\Q v H'
def TP (X:Cx)(mt:List 9#3)(σ:St)(Q:Bool->Hp->Prop)(b:Bool)(s':ag):Prop:= ∃H',z9 X mt σ H' s'/\Q b H'
def AP (X:Cx)(mt:List 9#3)(σ:St)(Q:List V->Hp->Prop)(us:List ad)(s':ag):Prop:= ∃vs H',z9 X mt σ H' s'/\zR vs us/\Q vs H'
def SP (X:Cx)(mt:List 9#3)(D:sG)(f:Flow)(s':ag):Prop:=
 match f with
 | .next=> ∃σ' H',z9 X mt σ' H' s'/\D.nx σ' H'
 | .brk=> ∃σ' H',z9 X mt σ' H' s'/\D.bk σ' H'
 | .cont=> ∃σ' H',z9 X mt σ' H' s'/\D.ct σ' H'
 | .ret u=> ∃v σ' H',z9 X mt σ' H' s'/\y4 v u/\D.rt v H'
structure PE (X:Cx)(e:Expr)(t:TE):Prop where
 run:
  ∀(mt:List 9#3) (s:ag) (σ:St) (H:Hp) (Q:VK),z9 X mt σ H s->t σ H Q->av 3#2 X.A (eval e X.env) 2#5 X.xe s
instance {X:Cx} {e:Expr} {t:TE} :CoeFun (PE X e t) λ_=>
 ∀(mt:List 9#3) (s:ag) (σ:St) (H:Hp) (Q:VK),z9 X mt σ H s->t σ H Q->av 3#2 X.A (eval e X.env) 2#5 X.xe s
  :=⟨PE.run⟩
structure PT (X:Cx)(e:Expr)(t:TT):Prop where
 run:
  ∀(mt:List 9#3) (s:ag) (σ:St) (H:Hp) (Q:Bool->Hp->Prop),z9 X mt σ H s->t σ H Q->av 3#2 X.A (isTrue e X.env (eval e X.env)) (TP X mt σ Q) X.xe s
instance {X:Cx} {e:Expr} {t:TT} :CoeFun (PT X e t) λ_=>
 ∀(mt:List 9#3) (s:ag) (σ:St) (H:Hp) (Q:Bool->Hp->Prop),z9 X mt σ H s->t σ H Q->av 3#2 X.A (isTrue e X.env (eval e X.env)) (TP X mt σ Q) X.xe s
  :=⟨PT.run⟩
structure PW (X:Cx)(e:Expr)(t:TT):Prop where
 run:
  ∀(whole:Sem ad) (mt:List 9#3) (s:ag) (σ:St) (H:Hp) (Q:Bool->Hp->Prop),z9 X mt σ H s->t σ H Q->av 3#2 X.A (isTrue e X.env whole) (TP X mt σ Q) X.xe s
instance {X:Cx} {e:Expr} {t:TT} :CoeFun (PW X e t) λ_=>
 ∀(whole:Sem ad) (mt:List 9#3) (s:ag) (σ:St) (H:Hp) (Q:Bool->Hp->Prop),z9 X mt σ H s->t σ H Q->av 3#2 X.A (isTrue e X.env whole) (TP X mt σ Q) X.xe s
  :=⟨PW.run⟩
theorem PW.pt {X:Cx}{e:Expr}{t:TT}(h:PW X e t):PT X e t:=⟨h.run _⟩
structure PA (X:Cx)(es:List Expr)(t:TA):Prop where
 run:
  ∀(pos:di) (mt:List 9#3) (s:ag) (σ:St) (H:Hp) (Q:List V->Hp->Prop),z9 X mt σ H s->t σ H Q->av 3#2 X.A (spliced (backTo pos 3#3)) (AP X mt σ Q) X.xe s
instance {X:Cx} {es:List Expr} {t:TA} :CoeFun (PA X es t) λ_=>
 ∀(pos:di) (mt:List 9#3) (s:ag) (σ:St) (H:Hp) (Q:List V->Hp->Prop),z9 X mt σ H s->t σ H Q->av 3#2 X.A (spliced (backTo pos 3#3)) (AP X mt σ Q) X.xe s
  :=⟨PA.run⟩
structure PS (X:Cx)(st:bw)(t:TS):Prop where
 run:
  ∀(mt:List 9#3) (s:ag) (σ:St) (H:Hp) (D:sG),z9 X mt σ H s->t D σ H->av 3#2 X.A (exec st X.env) (SP X mt D) X.xe s
instance {X:Cx} {st:bw} {t:TS} :CoeFun (PS X st t) λ_=>
 ∀(mt:List 9#3) (s:ag) (σ:St) (H:Hp) (D:sG),z9 X mt σ H s->t D σ H->av 3#2 X.A (exec st X.env) (SP X mt D) X.xe s
  :=⟨PS.run⟩
structure xI (X:Cx)(st:List bw)(t:TS):Prop where
 run:
  ∀(mt:List 9#3) (s:ag) (σ:St) (H:Hp) (D:sG),z9 X mt σ H s->t D σ H->av 3#2 X.A (execs st X.env) (SP X mt D) X.xe s
instance {X:Cx} {st:List bw} {t:TS} :CoeFun (xI X st t) λ_=>
 ∀(mt:List 9#3) (s:ag) (σ:St) (H:Hp) (D:sG),z9 X mt σ H s->t D σ H->av 3#2 X.A (execs st X.env) (SP X mt D) X.xe s
  :=⟨xI.run⟩
theorem zY {α:Type}{t:Sem α}{Q Q':α->ag->Prop}{M:Model}{A:ci}{E:ad->ag->Prop}{s:ag}(h:av M A t Q E s)(hQ: ∀a s,Q a s->Q' a s):av M A t Q' E s:=gu h hQ λ_ _ x=>x
section
variable {X:Cx}
def zpg (i:Nat):TE:=λσ H Q=> ∃v,σ[i]?=some (some v)/\Q v H
def tC (v:V):TE:=λ_ H Q=>Q v H
theorem mY {i:Nat}{x:Str}{pos:di}(hN:X.N[i]?=some x)(hv:Vis X.env.scope x)(hd:4#4=false:=by decide)(hcd:(x==("__classdict__" :Str))=false:=by decide):PE X (.Name x pos) (zpg i):=by
 constructor;intro mt s σ H Q I h;obtain⟨v,e,h⟩:=h;obtain⟨m,hn,hl⟩:=I.loc;obtain⟨u,r,l⟩:=hl i x v hN e hv;have fin:EP X mt σ Q u s:=⟨v,H,I,r,h⟩;rcases l with⟨hk,hm⟩ | ⟨hk,c,hc,hcell⟩
 ·exact wpAny_Name (wpAny_loadName_local I.ok.kind hk hn hm fin) hd
 ·rcases hk with hk | hk
  ·exact wpAny_Name (wpAny_loadName_cell I.ok.kind hk hc hcell fin) hd
  ·exact wpAny_Name (wpAny_loadName_free I.ok.kind hk hc hcell fin hcd) hd
theorem zn9 {i j pos} :PE X (.Constant 1#5 j pos) (tC 1#5):=⟨λ_ _ _ H _ I h=>wpAny_Constant_int ⟨.int i,H,I.tok _,⟨_,rfl⟩,h⟩⟩
theorem zwi {b j pos} :PE X (.Constant (.bool b) j pos) (tC (.bl b)):=⟨λ_ _ _ H _ I h=>Constant_bool ⟨.bl b,H,I,rfl,h⟩⟩
theorem zwy {x j pos} :PE X (.Constant (.str x) j pos) (tC (.str x)):=⟨λ_ _ _ H _ I h=>Calls.Constant_str ⟨.str x,H,I.tok _,⟨_,rfl⟩,h⟩⟩
def Gl (X:Cx)(x:Str):Prop:=X.env.kindOf x=some .globalImplicit
theorem hV {E:ad->ag->Prop}{mt:List 9#3}{s:ag}{σ:St}{H:Hp}{x:Str}{u:ad}{pos:di}{Q:ad->ag->Prop}(I:z9 X mt σ H s)(hg:Gl X x)(hm:X.mg x=some u)(h:Q u s)
  (hd:4#4=false:=by decide):av 3#2 X.A (eval (.Name x pos) X.env) Q E s:=
 qh I.ok.kind hg (Calls.loadGlobal_global (by rw[I.ok.glob];exact I.mod.glob.keeps I.bk) hm h) hd
theorem lT {E:ad->ag->Prop}{mt:List 9#3}{s:ag}{σ:St}{H:Hp}{x:Str}{u:ad}{pos:di}{Q:ad->ag->Prop}(I:z9 X mt σ H s)(hg:Gl X x)(hm:X.mg x=none)(hv:bootBuiltins x=some u)(h:Q u s)
  (hn:x≠ "__name__" :=by decide) (hd:4#4=false:=by decide):av 3#2 X.A (eval (.Name x pos) X.env) Q E s:=by
 obtain⟨mb,h1,h2⟩:=I.mod.blt;exact qh I.ok.kind hg (Calls.loadGlobal_builtin (by rw[I.ok.glob];exact I.mod.glob.keeps I.bk) hm (by rw[I.ok.blt];exact h1.keeps I.bk) ((h2 x hn).trans hv) h) hd
theorem zwq {x:Str}{v:V}{u:ad}{pos:di}(hg:Gl X x)(hm:X.mg x=some u)(r:y4 v u)(hd:4#4=false:=by decide):PE X (.Name x pos) (tC v):=
 ⟨λ_ _ _ H _ I h=>hV I hg hm ⟨v,H,I,r,h⟩ hd⟩
theorem zwj {x:Str}{v:V}{u:ad}{pos:di}(hg:Gl X x)(hm:X.mg x=none)(hv:bootBuiltins x=some u)(r:y4 v u)(hn:x≠ "__name__" :=by decide)(hd:4#4=false:=by decide):PE X (.Name x pos) (tC v):=
 ⟨λ_ _ _ H _ I h=>lT I hg hm hv ⟨v,H,I,r,h⟩ hn hd⟩
variable {a b:Expr} {ta tb:TE} {pos:di}
structure PC (X:Cx)(op:CmpOp)(a b:Expr)(t:TE):Prop where
 run:
  ∀(mt:List 9#3) (s:ag) (σ:St) (H:Hp) (Q:VK),z9 X mt σ H s->t σ H Q->
   av 3#2 X.A (eval a X.env) (λv s₁=>av 3#2 X.A (eval b X.env) (λu s₂=>av 3#2 X.A (compareOp op v u) 2#5 X.xe s₂) X.xe s₁) X.xe s
instance {X:Cx} {op:CmpOp} {a b:Expr} {t:TE} :CoeFun (PC X op a b t) λ_=>
 ∀(mt:List 9#3) (s:ag) (σ:St) (H:Hp) (Q:VK),z9 X mt σ H s->t σ H Q->
  av 3#2 X.A (eval a X.env) (λv s₁=>av 3#2 X.A (eval b X.env) (λu s₂=>av 3#2 X.A (compareOp op v u) 2#5 X.xe s₂) X.xe s₁) X.xe s
  :=⟨PC.run⟩
variable {tA tB':TT} {vP:List Expr}
def zhx (t u:TT):TT:=λσ H Q=>t σ H λc H1=>if c=true then u σ H1 Q else Q false H1
def tOr (t u:TT):TT:=λσ H Q=>t σ H λc H1=>if c=true then Q true H1 else u σ H1 Q
def zpd (t:TT):TT:=λσ H Q=>t σ H λc H1=>Q (!c) H1
theorem zxl (ha:PT X a tA):PW X (.BoolOp .And [a] pos) tA:=by
 constructor;intro wh mt s σ H Q I h;refine uu (zY (ha mt s σ H Q I h) λc s1 e=> ?_);cases c with
 | true=>exact isTrue_and_nil e
 | false=>exact e
theorem zxn (ha:PT X a tA):PW X (.BoolOp .Or [a] pos) tA:=by
 constructor;intro wh mt s σ H Q I h;refine vq (zY (ha mt s σ H Q I h) λc s1 e=> ?_);cases c with
 | false=>exact isTrue_or_nil e
 | true=>exact e
theorem zxk (ha:PT X a tA)(hb:PW X (.BoolOp .And (b::vP) pos) tB'):PW X (.BoolOp .And (a::b::vP) pos) (zhx tA tB'):=by
 constructor;intro wh mt s σ H Q I h;refine uu (zY (ha mt s σ H _ I h) λc s1 ⟨H1,I1,q1⟩=> ?_);cases c with
 | true=>exact hb wh mt s1 σ H1 Q I1 q1
 | false=>exact⟨H1,I1,q1⟩
theorem zxm (ha:PT X a tA)(hb:PW X (.BoolOp .Or (b::vP) pos) tB'):PW X (.BoolOp .Or (a::b::vP) pos) (tOr tA tB'):=by
 constructor;intro wh mt s σ H Q I h;refine vq (zY (ha mt s σ H _ I h) λc s1 ⟨H1,I1,q1⟩=> ?_);cases c with
 | true=>exact⟨H1,I1,q1⟩
 | false=>exact hb wh mt s1 σ H1 Q I1 q1
theorem znQ (ha:PT X a tA):PT X (.UnaryOp .Not a pos) (zpd tA):=by
 constructor;intro mt s σ H Q I h;exact isTrue_not (ha mt s σ H (λc H1=>Q (!c) H1) I h)
def tIf (t:TT)(ta tb:TE):TE:=λσ H Q=>t σ H λc H1=>if c=true then ta σ H1 Q else tb σ H1 Q
theorem zwr {c:Expr}(hc:PT X c tA)(ha:PE X a ta)(hb:PE X b tb):PE X (.IfExp c a b pos) (tIf tA ta tb):=by
 constructor;intro mt s σ H Q I h;refine wpAny_IfExp (zY (hc mt s σ H _ I h) λd s1 ⟨H1,I1,q1⟩=> ?_);cases d with
 | true=>exact ha mt s1 σ H1 Q I1 q1
 | false=>exact hb mt s1 σ H1 Q I1 q1
end
def xA (K:Frag)(H:Hp)(a:aa)(xs:List V):Prop:=
 Rd H a 2#4∨
  ∃(o:aj) (xn:Array ad) (n:Nat),K.lookup a=some o/\o.cls= .type 9#1 /\o.dict=none/\o.data= .seq xn n/\xn.size<=am/\zR xs xn.toList/\o.slots= #[]
def xV (K:Frag)(H:Hp)(a:aa)(xs:List V):Prop:=
 Rd H a 2#6∨
  ∃(o:aj) (xn:Array ad) (n:Nat),K.lookup a=some o/\o.cls= .type 22#1 /\o.dict=none/\o.data= .seq xn n/\xn.size<=am/\zR xs xn.toList
def zqX:ad->Option V
 | .none=>some .non
 | .bool b=>some (.bl b)
 | .int i _=>some 1#5
 | .str x _=>some (.str x)
 | .bytes b _=>some (.byt b)
 | .float b _=>some (.flt b)
 | .ref a=>some (.ref a)
 | .type n=>some (.ty n)
 | _=>none
theorem y4.abs {x:V}{u:ad}(r:y4 x u):zqX u=some x:=by
 cases x with
 | non=>cases r;rfl
 | bl _=>cases r;rfl
 | int _=>obtain⟨t,rfl⟩:=r;rfl
 | str _=>obtain⟨t,rfl⟩:=r;rfl
 | byt _=>obtain⟨t,rfl⟩:=r;rfl
 | flt _=>obtain⟨t,rfl⟩:=r;rfl
 | ref _=>cases r;rfl
 | ty _=>cases r;rfl
theorem y4.inj {x y:V}{u:ad}(r:y4 x u)(q:y4 y u):x=y:=ca (r.abs.symm.trans q.abs)
theorem zR.inj: ∀{xs ys:List V} {us:List ad},zR xs us->zR ys us->xs=ys
 | _,_,_,.nil,.nil=>rfl
 | _,_,_,.cons r t,.cons r' t'=>by rw[r.inj r',zR.inj t t']
section
variable {X:Cx} {mt:List (aa×aj)} {σ:St} {H:Hp} {s:ag} {a:aa} {xs ys:List V}
theorem xA.of {K:Frag}(h:H a=some 2#4):xA K H a xs:= .inl (.inl h)
theorem z9.list (I:z9 X mt σ H s)(h:xA X.K H a xs): ∃xn:List ad,zR xs xn/\PlainL s.heap a xn.toArray/\xs.length<=am:=by
 rcases h with h | ⟨o,xn,n,hk,hc,hd,hs,hz,r,_⟩
 ·obtain⟨z,xn,n,r,e⟩:=h.ok I.hok
  exact⟨xn,r,⟨_,n,e,rfl,rfl,rfl⟩,z⟩
 ·refine⟨xn.toList,r,⟨o,n,I.kIn a o hk,hc,hd,by simpa using hs⟩,?_⟩
  have e:=r.length;simp only[fh]at e;grobner
theorem z9.tuple (I:z9 X mt σ H s)(h:xV X.K H a xs): ∃xn:List ad,zR xs xn/\IsTup s.heap a xn.toArray/\xs.length<=am:=by
 rcases h with h | ⟨o,xn,n,hk,hc,_,hs,hz,r⟩
 ·obtain⟨z,xn,r,p⟩:=h.ok I.hok
  exact⟨xn,r,p.tup,z⟩
 ·refine⟨xn.toList,r,⟨o,I.kIn a o hk,hc,n,by simpa using hs⟩,?_⟩
  have e:=r.length;simp only[fh]at e;grobner
theorem z9.listX (I:z9 X mt σ H s)(h:xA X.K H a xs): ∃(xn:List ad) (n:Nat),zR xs xn/\s.heap.get? a=some {cls:= .type 9#1,data:= .seq xn.toArray n} /\xs.length<=am:=by
 rcases h with h | ⟨o,xn,n,hk,hc,hd,hs,hz,r,yy⟩
 ·obtain⟨z,xn,n,r,e⟩:=h.ok I.hok
  exact⟨xn,n,r,e,z⟩
 ·obtain⟨cls,dict,data,slots⟩:=o
  dsimp only at hc hd hs yy;subst hc hd hs yy;refine⟨xn.toList,n,r,by simpa using I.kIn a _ hk,?_⟩;have e:=r.length;simp only[fh]at e;grobner
theorem z9.list_inj (I:z9 X mt σ H s)(h:xA X.K H a xs)(h':xA X.K H a ys):xs=ys:=by
 obtain⟨xn,r,⟨o,n,e,_,_,d⟩,_⟩:=I.list h;obtain⟨its',r',⟨o',n',e',_,_,d'⟩,_⟩:=I.list h';rw[e]at e';cases e';rw[d]at d';injection d' with d1 _
 have:xn=its':=by simpa using congrArg Array.toList d1
 subst this;exact r.inj r'
theorem z9.tuple_inj (I:z9 X mt σ H s)(h:xV X.K H a xs)(h':xV X.K H a ys):xs=ys:=by
 obtain⟨xn,r,⟨o,e,_,n,d⟩,_⟩:=I.tuple h;obtain⟨its',r',⟨o',e',_,n',d'⟩,_⟩:=I.tuple h';rw[e]at e';cases e';rw[d]at d';injection d' with d1 _
 have:xn=its':=by simpa using congrArg Array.toList d1
 subst this;exact r.inj r'
end
abbrev Cx.wish (X:Cx)(E:ad->ag->Prop):Cx:= {X with xe:=E}
abbrev Cx.nox (X:Cx):Cx:=X.wish λ_ _=>False
theorem Cx.Ok.wish {X:Cx}(ok:X.Ok)(E:ad->ag->Prop):(X.wish E).Ok:=
 ⟨ok.mod,ok.kind,ok.glob,ok.blt,ok.above,ok.inj,ok.has,ok.cab,ok.hd,ok.frames,ok.stk,ok.exf,ok.bs,ok.bsz,ok.noex,ok.exfs,ok.funs,ok.frf⟩
theorem Cx.Ok.unwish {X:Cx}{E:ad->ag->Prop}(ok:(X.wish E).Ok):X.Ok:=
 ⟨ok.mod,ok.kind,ok.glob,ok.blt,ok.above,ok.inj,ok.has,ok.cab,ok.hd,ok.frames,ok.stk,ok.exf,ok.bs,ok.bsz,ok.noex,ok.exfs,ok.funs,ok.frf⟩
section
variable {X:Cx} {mt:List (aa×aj)} {σ:St} {H:Hp} {s:ag} {E:ad->ag->Prop}
theorem z9.wish (I:z9 X mt σ H s)(E:ad->ag->Prop):z9 (X.wish E) mt σ H s:=⟨I.ok.wish E,I.os,I.bare,I.base,I.loc,I.cell,I.free,I.freeC,I.pin,I.hok,I.len⟩
theorem z9.unwish (I:z9 (X.wish E) mt σ H s):z9 X mt σ H s:=⟨I.ok.unwish,I.os,I.bare,I.base,I.loc,I.cell,I.free,I.freeC,I.pin,I.hok,I.len⟩
theorem SP.unwish {D:sG}{f:Flow}{s':ag}(h:SP (X.wish E) mt D f s'):SP X mt D f s':=by
 cases f with
 | next=>obtain⟨σ',H',I,q⟩:=h;exact⟨σ',H',I.unwish,q⟩
 | brk=>obtain⟨σ',H',I,q⟩:=h;exact⟨σ',H',I.unwish,q⟩
 | cont=>obtain⟨σ',H',I,q⟩:=h;exact⟨σ',H',I.unwish,q⟩
 | ret u=>obtain⟨v,σ',H',I,r,q⟩:=h;exact⟨v,σ',H',I.unwish,r,q⟩
theorem xI.nox {st:List bw}{t:TS}(h:xI X.nox st t):xI X st t:=⟨λmt s σ H D I hw=>
 gu (h mt s σ H D (I.wish _) hw) (λ_ _ q=>q.unwish) λ_ _ z=>False.elim z⟩
end
section
variable {X:Cx} {st:bw} {vP:List bw} {t u:TS} {e:Expr} {te:TE} {pos:di}
def zzr:TS:=λD σ H=>D.nx σ H
def gR (t u:TS):TS:=λD σ H=>t {D with nx:=u D} σ H
theorem zgw:xI X [] zzr:=⟨λ_ _ σ H _ I h=>ij ⟨σ,H,I,h⟩⟩
theorem eS (h1:PS X st t)(h2:xI X vP u):xI X (st::vP) (gR t u):=by
 constructor;intro mt s σ H D I h;refine jn (zY (h1 mt s σ H {D with nx:=u D} I h) λf s1 q=> ?_);cases f with
 | next=>
  obtain⟨σ',H',I',q⟩:=q;exact h2 mt s1 σ' H' D I' q
 | ret v=>exact q
 | brk=>exact q
 | cont=>exact q
theorem jP (h1:PS X st t):xI X [st] t:=by
 constructor;intro mt s σ H D I h;refine jn (zY (h1 mt s σ H D I h) λf s1 q=> ?_);cases f with
 | next=>exact ij q
 | ret v=>exact q
 | brk=>exact q
 | cont=>exact q
theorem z9.quiet {mt:List 9#3}{σ:St}{H:Hp}{s:ag}(I:z9 X mt σ H s):interactive X.env=false:=by simp[interactive,I.ok.kind]
def zhz (te:TE):TS:=λD σ H=>te σ H λ_ H1=>D.nx σ H1
theorem eP (he:PE X e te)(hs:swapsWith e none pos.line X.env=pure false:=by rfl):PS X (.Expr e pos) (zhz te):=by
 constructor;intro mt s σ H D I h;exact wpAny_Expr_any (zY (he mt s σ H _ I h) λv s1 ⟨x,H1,I1,r1,q1⟩=>⟨σ,H1,I1,q1⟩) I.quiet hs
def zzv (te:TE):TS:=λD σ H=>te σ H D.rt
theorem zwR (he:PE X e te):PS X (.Return (some e) pos) (zzv te):=by
 constructor;intro mt s σ H D I h;exact wpAny_Return_some (zY (he mt s σ H _ I h) λv s1 ⟨x,H1,I1,r1,q1⟩=>⟨x,σ,H1,I1,r1,q1⟩)
def zoZ (c:TT)(t u:TS):TS:=λD σ H=>c σ H λb H1=>if b=true then t D σ H1 else u D σ H1
theorem eQ {c:Expr}{a b:List bw}{tc:TT}(hc:PT X c tc)(ha:xI X a t)(hb:xI X b u):PS X (.If c a b pos) (zoZ tc t u):=by
 constructor;intro mt s σ H D I h;refine wpAny_If (zY (hc mt s σ H _ I h) λd s1 ⟨H1,I1,q1⟩=> ?_);cases d with
 | true=>exact ha mt s1 σ H1 D I1 q1
 | false=>exact hb mt s1 σ H1 D I1 q1
def zpb:TS:=λ_ _ _=>False
theorem zwQ:PS X st zpb:=⟨λ_ _ _ _ _ _ h=>h.elim⟩
theorem znO {sts:List bw} :xI X sts zpb:=⟨λ_ _ _ _ _ _ h=>h.elim⟩
end
abbrev TG:=V->St->Hp->(St->Hp->Prop)->Prop
abbrev qL:=List V->St->Hp->(St->Hp->Prop)->Prop
structure PG (X:Cx)(xq:Expr)(t:TG):Prop where
 run:
  ∀(mt:List 9#3) (s:ag) (σ:St) (H:Hp) (v:V) (u:ad) (Q:St->Hp->Prop),z9 X mt σ H s->y4 v u->t v σ H Q->
   av 3#2 X.A (assign xq X.env u) (λ_ s'=> ∃σ' H',z9 X mt σ' H' s'/\Q σ' H') X.xe s
instance {X:Cx} {xq:Expr} {t:TG} :CoeFun (PG X xq t) λ_=>
 ∀(mt:List 9#3) (s:ag) (σ:St) (H:Hp) (v:V) (u:ad) (Q:St->Hp->Prop),z9 X mt σ H s->y4 v u->t v σ H Q->
  av 3#2 X.A (assign xq X.env u) (λ_ s'=> ∃σ' H',z9 X mt σ' H' s'/\Q σ' H') X.xe s
  :=⟨PG.run⟩
structure rQ (X:Cx)(ts:List Expr)(t:qL):Prop where
 run:
  ∀(mt:List 9#3) (s:ag) (σ:St) (H:Hp) (vs:List V) (us:List ad) (Q:St->Hp->Prop),z9 X mt σ H s->zR vs us->t vs σ H Q->
   av 3#2 X.A (assignInOrder ((assignEach ts X.env).map (·.2)) us) (λ_ s'=> ∃σ' H',z9 X mt σ' H' s'/\Q σ' H') X.xe s
instance {X:Cx} {ts:List Expr} {t:qL} :CoeFun (rQ X ts t) λ_=>
 ∀(mt:List 9#3) (s:ag) (σ:St) (H:Hp) (vs:List V) (us:List ad) (Q:St->Hp->Prop),z9 X mt σ H s->zR vs us->t vs σ H Q->
  av 3#2 X.A (assignInOrder ((assignEach ts X.env).map (·.2)) us) (λ_ s'=> ∃σ' H',z9 X mt σ' H' s'/\Q σ' H') X.xe s
  :=⟨rQ.run⟩
abbrev zbB:=V->V->V->Hp->(Hp->Prop)->Prop
def zb9 (X:Cx)(t:zbB):Prop:=
 ∀(mt:List 9#3) (s:ag) (σ:St) (H:Hp) (o i v:V) (ov iv u:ad) (Q:Hp->Prop),z9 X mt σ H s->y4 o ov->y4 i iv->y4 v u->t o i v H Q->
  av 3#2 X.A (setItem ov iv u) (λ_ s'=> ∃H',z9 X mt σ H' s'/\Q H') X.xe s
section
variable {X:Cx} {pos:di}
def iX (i:Nat):TG:=λv σ H Q=>Q (σ.set i (some v)) H
theorem zgt {i:Nat}{x:Str}(hN:X.N.Nodup)(hi:X.N[i]?=some x)(hx:rP X.env.scope x)(hf:X.fn x=true∨X.env.scope.names.lookup x=some .local:=by first | exact .inl rfl | exact .inr rfl | assumption):PG X (.Name x pos) (iX i):=by
 constructor;intro mt s σ H v u Q I r h;exact wpAny_assign_Name (zaP I hN hi hx r (λs' I'=>⟨_,H,I',h⟩) hf)
def zsJ:qL:=λvs σ H Q=>vs= []/\Q σ H
def zsH (t:TG)(u:qL):qL:=λvs σ H Q=> ∃v r,vs=v::r/\t v σ H λσ' H'=>u r σ' H' Q
theorem znD:rQ X [] zsJ:=by
 constructor;intro mt s σ H vs us Q I r h;obtain⟨e,h⟩:=h;subst e;cases r;exact assignInOrder_nil ⟨σ,H,I,h⟩
theorem zgu {e:Expr}{es:List Expr}{t:TG}{u:qL}(h1:PG X e t)(h2:rQ X es u)
  (hs:(assignEach (e::es) X.env).map (·.2)=assign e X.env::(assignEach es X.env).map (·.2):=by rfl):rQ X (e::es) (zsH t u):=by
 constructor;intro mt s σ H vs us Q I r h;obtain⟨v,vr,e1,h⟩:=h;subst e1;cases r with
 | cons r rr=>
  rw[hs];refine assignInOrder_cons (zY (h1 mt s σ H _ _ _ I r h) λ_ s1 ⟨σ1,H1,I1,q1⟩=> ?_);exact h2 mt s1 σ1 H1 _ _ Q I1 rr q1
def zsM (K:Frag)(n:Nat)(t:qL):TG:=λv σ H Q=> ∃a xs,v= .ref a/\xV K H a xs/\xs.length=n/\t xs σ H Q
theorem znB {es:List Expr}{k:Nat}{t:qL}{n:Nat}(hc:X.calm=true)(h:rQ X es t)
  (hn:(assignEach es X.env).length=n:=by rfl) (yx:(assignEach es X.env).findIdx? (·.1)=none:=by rfl):PG X (.Tuple es k pos) (zsM X.K n t):=by
 constructor;intro mt s σ H v u Q I r hw;obtain⟨a,xs,e1,hq,hl,hw⟩:=hw;subst e1;cases r;obtain⟨xn,rv,ht,hz⟩:=I.tuple hq;refine assign_Tuple_tuple (I.ok.hd hc) ht (by simp[hn,<- hl,rv.length]) yx λh' hx=> ?_;have I1:z9 X mt σ H {s with heap:=h'} :=I.kept (t':=s.toks) λb o e=>hx b o (bo (aw e)) e;exact h mt _ σ H xs _ Q I1 (by simpa using rv) hw
def zsK (to ti:TE)(t:zbB):TG:=λv σ H Q=>to σ H λo H1=>ti σ H1 λi H2=>t o i v H2 λH3=>Q σ H3
theorem zw8 {o i:Expr}{to ti:TE}{t:zbB}(ho:PE X o to)(hi:PE X i ti)(hs:zb9 X t)
  (ha: ∀v,assign (.Subscript o i pos) X.env v=(do
   let ov <- holding [v] (eval o X.env)
   let iv <- holding [v,ov] (eval i X.env)
   standAt pos
   holding [v,ov,iv] (setItem ov iv v)
   release [v,ov,iv] []):=by intro _;rfl):PG X (.Subscript o i pos) (zsK to ti t):=by
 constructor;intro mt s σ H v u Q I r h;rw[ha];refine ac (ga (zY (ho mt s σ H _ I h) λov s1 ⟨x,H1,I1,r1,q1⟩=> ?_));refine ac (ga (zY (hi mt s1 σ H1 _ I1 q1) λiv s2 ⟨y,H2,I2,r2,q2⟩=> ?_));refine ac (qi (ac (ga (zY (hs mt s2 σ H2 x y v ov iv u _ I2 r1 r2 r q2) λ_ s3 ⟨H3,I3,q3⟩=> ?_))));exact wpAny_release ⟨σ,H3,I3,q3⟩
def gQ (te:TE)(g:TG):TS:=λD σ H=>te σ H λx H1=>g x σ H1 D.nx
theorem zwN {tg e:Expr}{te:TE}{g:TG}(he:PE X e te)(hg:PG X tg g)(hs:swapsWithSole [tg] e pos.line X.env=pure false:=by rfl)(hw:swappedStores [tg] e X.env=pure none:=by rfl)
  (h1:(assignEach [tg] X.env).map (·.2)= [assign tg X.env]:=by rfl):PS X (.Assign [tg] e pos) (gQ te g):=by
 constructor;intro mt s σ H D I h;refine wpAny_Assign_stores (zY (he mt s σ H _ I h) λv s1 ⟨x,H1,I1,r1,q1⟩=> ?_) hs hw;rw[h1];exact zY (hg mt s1 σ H1 x v _ I1 r1 q1) λ_ s2 q=>q
theorem zao {i:Nat}{x:Str}{e:Expr}{te:TE}{pos':di}(hN:X.N.Nodup)(hi:X.N[i]?=some x)(hx:rP X.env.scope x)(he:PE X e te)(hs:swapsWith e (some (.Name x pos')) pos.line X.env=pure false:=by rfl)(hf:X.fn x=true∨X.env.scope.names.lookup x=some .local:=by first | exact .inl rfl | exact .inr rfl | assumption):
  PS X (.Assign [.Name x pos'] e pos) (gQ te (iX i)):=by
 constructor;intro mt s σ H D I h;refine qp (zY (he mt s σ H _ I h) λv s1 ⟨y,H1,I1,r1,q1⟩=> ?_) hs;exact zaP I1 hN hi hx r1 (λs2 I2=>⟨_,H1,I2,q1⟩) hf
end
section
variable {X:Cx} {pos:di}
def zzy (c:TT)(tb:TS):TS:=λD σ H=> ∃W:Nat->St->Hp->Prop,(∃m,W m σ H)/\∀m σ H,W m σ H->
 c σ H λb H1=>if b=true then ∃N:St->Hp->Prop,(∀σ' H',N σ' H'->∃m',m' < m/\W m' σ' H')/\tb {D with nx:=N,ct:=N,bk:=D.nx} σ H1 else D.nx σ H1
theorem zwT {c:Expr}{body:List bw}{tc:TT}{tb:TS}(hp:PassesOwn 3#2 X.A X.env X.xe)(hc:PT X c tc)(hb:xI X body tb):PS X (.While c body [] pos) (zzy tc tb):=by
 constructor;intro mt s σ H D I h;obtain⟨W,⟨m0,w0⟩,turn⟩:=h;refine wpAny_While (codeAny_whileLoop (λn s'=> ∃σ' H',z9 X mt σ' H' s'/\W n σ' H') ?_ m0 ⟨σ,H,I,w0⟩);rintro n s1 ⟨σ1,H1,I1,w1⟩;refine gj hp (zY (hc mt s1 σ1 H1 _ I1 (turn n σ1 H1 w1)) λb s2 ⟨H2,I2,q2⟩=> ?_);cases b with
 | true=>
  obtain⟨N,hN,q2⟩:=q2;rw[if_pos rfl];refine gj hp (zY (hb mt s2 σ1 H2 _ I2 q2) λf s3 q3=> ?_);cases f with
  | next=>
   obtain⟨σ3,H3,I3,n3⟩:=q3;obtain⟨m',hm,w3⟩:=hN σ3 H3 n3;exact⟨m',hm,σ3,H3,I3,w3⟩
  | cont=>
   obtain⟨σ3,H3,I3,n3⟩:=q3;obtain⟨m',hm,w3⟩:=hN σ3 H3 n3;exact⟨m',hm,σ3,H3,I3,w3⟩
  | brk=>exact q3
  | ret v=>exact q3
 | false=>
  rw[if_neg cr];exact ij ⟨σ1,H2,I2,q2⟩
end
structure It where
 go:Nat->Hp->Prop
 yld:Nat->Hp->V->Hp->Prop
 stop:Nat->Hp->Prop
def pG (X:Cx)(mt:List 9#3)(H:Hp)(b:aa):Prop:=
 H b=none/\b≠X.env.locals/\b∉X.fs/\(b∈X.ex∨X.s₀.heap.objs.size<=b)/\(∀x c,X.env.cells.lookup x=some c->c≠b)/\∀p∈X.pn++mt,p.1≠b
theorem z9.fpOk {X:Cx}{mt:List 9#3}{σ:St}{H H':Hp}{s:ag}{b:aa}(I:z9 X mt σ H s)(hb:s.heap.objs.size<=b)(hn:H' b=none):pG X mt H' b:=by
 refine⟨hn,cp (bp I.lt hb),I.nofs hb,.inr (cb I.sz hb),λx c e z=> ?_,λp hp z=> ?_⟩
 ·obtain⟨v,q⟩:=I.cell x c e
  exact absurd (bp q.lt (by rw[z];exact hb)) (cy _)
 ·exact absurd (bp (aw (I.pin p hp).1) (by rw[z];exact hb)) (cy _)
structure lH (P:br)(w:bz)(K:Frag)(tg:Expr)(J:It)(fp:List aa)(it:aa)(tn:Nat->cf->Prop):Prop where
 mem:it∈fp
 obj: ∀i h,tn i h->∀b∈fp,∃o,h.get? b=some o/\∀v,o.data≠ .cell v
 keep: ∀i h h',tn i h->(∀b∈fp,∀o,h.get? b=some o->h'.get? b=some o)->tn i h'
 item: ∀(X:Cx),X.prog=P->X.w=w->X.K=K->X.calm=true->∀(i:Nat) (mt:List 9#3) (s:ag) (σ:St) (H:Hp) (E:ad->ag->Prop),z9 X mt σ H s->(∀b∈fp,pG X mt H b)->tn i s.heap->J.go i H->
  av (bb P w) X.A (pyNext (.ref it)) (λr s1=> ∃u,r=some u/\
   av (bb P w) X.A (letOwnedTupleGo tg (.ref it) u) (λ_ s2=> ∃x H',z9 X mt σ H' s2/\y4 x u/\J.yld i H x H'/\tn (i+1) s2.heap/\∀b∈fp,H' b=none) E s1) E s
 done: ∀(X:Cx),X.prog=P->X.w=w->X.K=K->X.calm=true->∀(i:Nat) (mt:List 9#3) (s:ag) (σ:St) (H:Hp) (E:ad->ag->Prop),z9 X mt σ H s->(∀b∈fp,pG X mt H b)->tn i s.heap->J.stop i H->
  av (bb P w) X.A (pyNext (.ref it)) (λr s1=>r=none/\z9 X mt σ H s1) E s
 self: ∀(A:ci) (i:Nat) (s:ag) (Q:ad->ag->Prop) (E:ad->ag->Prop),tn i s.heap->Q (.ref it) s->av (bb P w) A (pyIter (.ref it)) Q E s
abbrev TI:=St->Hp->(It->Hp->Prop)->Prop
def b9 (X:Cx)(mt:List 9#3)(σ:St)(tg:Expr)(R:It->Hp->Prop)(itv:ad)(s2:ag):Prop:=
 ∃(it:aa) (fp:List aa) (tn:Nat->cf->Prop) (J:It) (H':Hp),itv= .ref it/\z9 X mt σ H' s2/\lH X.prog X.w X.K tg J fp it tn/\tn 0 s2.heap/\(∀b∈fp,pG X mt H' b)/\R J H'
structure PI (X:Cx)(tg iter:Expr)(wi:TI):Prop where
 run:
  ∀(mt:List 9#3) (s:ag) (σ:St) (H:Hp) (R:It->Hp->Prop),z9 X mt σ H s->wi σ H R->
   av 3#2 X.A (eval iter X.env) (λv s1=>av 3#2 X.A (pyIter v) (b9 X mt σ tg R) X.xe s1) X.xe s
instance {X:Cx} {tg iter:Expr} {wi:TI} :CoeFun (PI X tg iter wi) λ_=>
 ∀(mt:List 9#3) (s:ag) (σ:St) (H:Hp) (R:It->Hp->Prop),z9 X mt σ H s->wi σ H R->
  av 3#2 X.A (eval iter X.env) (λv s1=>av 3#2 X.A (pyIter v) (b9 X mt σ tg R) X.xe s1) X.xe s
  :=⟨PI.run⟩
theorem aI {M:Model}{A:ci}{E:ad->ag->Prop}{s:ag}{tg:Expr}{it:aa}{u:ad}{o:aj}{n:String}{vs:Array ad}{Q:Unit->ag->Prop}(ho:s.heap.get? it=some o)(hc:o.cls= .type n)(hd:o.data= .fields vs)
  (hn: [14#1,"zip","dict_itemiterator","dict_reverseitemiterator","odict_iterator","itertools.zip_longest","itertools.pairwise"].contains n=false) (hQ:Q () s):av M A (letOwnedTupleGo tg (.ref it) u) Q E s:=by
 unfold letOwnedTupleGo;cases tg <;> first
  | exact al hQ
  | (cases u <;> first
    | exact al hQ
    | (refine ac (rh ho ?_)
       rw[hc,hd];show av M A (if([14#1,"zip","dict_itemiterator","dict_reverseitemiterator","odict_iterator","itertools.zip_longest","itertools.pairwise"].contains n&&vs[0]?==some (rawInt _))=true then _ else _) Q E s;rw[if_neg (by intro h;rw[hn,Bool.false_and]at h;cases h)];exact al hQ))
def cK (K:Frag)(a:aa):It:=
 ⟨λi H=> ∃xs x,xA K H a xs/\xs[i]?=some x,λi H x H'=>H'=H/\∀xs,xA K H a xs->xs[i]?=some x,λi H=> ∃xs,xA K H a xs/\xs.length<=i⟩
def Itt (K:Frag)(a:aa):It:=
 ⟨λi H=> ∃xs x,xV K H a xs/\xs[i]?=some x,λi H x H'=>H'=H/\∀xs,xV K H a xs->xs[i]?=some x,λi H=> ∃xs,xV K H a xs/\xs.length<=i⟩
def cL (lo:Int)(n:Nat):It:=⟨λi _=>i < n,λi H x H'=>H'=H/\x= .int (lo+i),λi _=>n<=i⟩
theorem zz9 {P:br}{w:bz}{K:Frag}{tg:Expr}(a it:aa):lH P w K tg (cK K a) [it] it (λi h=>h.IsListIter it a i) where
 mem:=3#0
 obj:=λi h st b hb=>by
  have e:b=it:=by simpa using hb
  subst e;obtain⟨o,e,c,d⟩:=st;exact⟨o,e,λv z=>by rw[d]at z;cases z⟩
 keep:=λi h h' st k=>st.at λo e=>k it 3#0 o e
 item:=by
  intro X hP hw hK hc i mt s σ H E I hf st hg;subst hP hw hK;obtain⟨xs,x,hq,hx⟩:=hg;obtain⟨xn,rv,p,hz⟩:=I.list hq;obtain⟨u,hu,ru⟩:=rv.get hx;obtain⟨f0,f1,f2,f3,f4,f5⟩:=hf it 3#0;refine wpAny_pyNext_list_item st p.isList (x:=u) (by simpa using hu) λh' xp sb=> ?_;have I1:z9 X mt σ H {s with heap:=h'} :=I.turned (t':=s.toks) (λb o hb e=>(sb.2 b hb).trans e) f0 f1 f3 f4 f5;obtain⟨o,e,c,d⟩:=id xp;exact⟨u,rfl,aI (s:= {s with heap:=h'}) e c d 2#0 ⟨x,H,I1,ru,⟨rfl,λys hy=>by rw[I.list_inj hy hq];exact hx⟩,xp,λb hb=>(hf b hb).1⟩⟩
 done:=by
  intro X hP hw hK hc i mt s σ H E I hf st hg;subst hP hw hK;obtain⟨xs,hq,hx⟩:=hg;obtain⟨xn,rv,p,hz⟩:=I.list hq;obtain⟨f0,f1,f2,f3,f4,f5⟩:=hf it 3#0;have hl:=rv.length;exact wpAny_pyNext_list_end (I.ok.hd hc) st p.isList (by simp;grobner) λh' eb=>⟨rfl,I.turned (t':=s.toks) (λb o hb e=>eb b o hb e) f0 f1 f3 f4 f5⟩
 self:=λ_ _ _ _ _ st h=>wpAny_pyIter_listiter st h
theorem zzA {P:br}{w:bz}{K:Frag}{tg:Expr}(a it:aa):lH P w K tg (Itt K a) [it] it (λi h=>h.IsTupleIter it a i) where
 mem:=3#0
 obj:=λi h st b hb=>by
  have e:b=it:=by simpa using hb
  subst e;obtain⟨o,e,c,d⟩:=st;exact⟨o,e,λv z=>by rw[d]at z;cases z⟩
 keep:=λi h h' st k=>st.at λo e=>k it 3#0 o e
 item:=by
  intro X hP hw hK hc i mt s σ H E I hf st hg;subst hP hw hK;obtain⟨xs,x,hq,hx⟩:=hg;obtain⟨xn,rv,p,hz⟩:=I.tuple hq;obtain⟨u,hu,ru⟩:=rv.get hx;obtain⟨f0,f1,f2,f3,f4,f5⟩:=hf it 3#0;refine wpAny_pyNext_tuple_item st (show s.heap.IsTuple a xn.toArray from p) (x:=u) (by simpa using hu) λh' xp sb=> ?_;have I1:z9 X mt σ H {s with heap:=h'} :=I.turned (t':=s.toks) (λb o hb e=>(sb.2 b hb).trans e) f0 f1 f3 f4 f5;obtain⟨o,e,c,d⟩:=id xp;exact⟨u,rfl,aI (s:= {s with heap:=h'}) e c d 2#0 ⟨x,H,I1,ru,⟨rfl,λys hy=>by rw[I.tuple_inj hy hq];exact hx⟩,xp,λb hb=>(hf b hb).1⟩⟩
 done:=by
  intro X hP hw hK hc i mt s σ H E I hf st hg;subst hP hw hK;obtain⟨xs,hq,hx⟩:=hg;obtain⟨xn,rv,p,hz⟩:=I.tuple hq;obtain⟨f0,f1,f2,f3,f4,f5⟩:=hf it 3#0;have hl:=rv.length;exact wpAny_pyNext_tuple_end (I.ok.hd hc) st (show s.heap.IsTuple a xn.toArray from p) (by simp;grobner) λh' eb=>⟨rfl,I.turned (t':=s.toks) (λb o hb e=>eb b o hb e) f0 f1 f3 f4 f5⟩
 self:=λ_ _ _ _ _ st h=>wpAny_pyIter_tupleiter st h
theorem zz_ {P:br}{w:bz}{K:Frag}{tg:Expr}(it:aa)(lo:Int)(n:Nat):lH P w K tg (cL lo n) [it] it (λi h=>IsRangeIter h it (lo+(i:Nat) * 1) ((n:Int) - (i:Nat)) 1) where
 mem:=3#0
 obj:=λi h st b hb=>by
  have e:b=it:=by simpa using hb
  subst e;exact⟨_,st,λv z=>by
   have z':Data.fields _=Data.cell v:=z;cases z'⟩
 keep:=λi h h' st k=>k it 3#0 _ st
 item:=by
  intro X hP hw hK hc i mt s σ H E I hf st hg;subst hP hw hK;obtain⟨f0,f1,f2,f3,f4,f5⟩:=hf it 3#0;have W:=Walks.range (prog:=X.prog) (w:=X.w) (I.ok.hd hc) it lo 1 n;refine W.item i s _ _ hg st λv h' tk hv xp kk=> ?_;obtain⟨t,rfl⟩:=hv;have I1:z9 X mt σ H {s with heap:=h',toks:=tk} :=I.turned (λb o hb e=>kk b o (by simpa using hb) e) f0 f1 f3 f4 f5;refine⟨_,rfl,aI (s:= {s with heap:=h',toks:=tk}) (n:= "range_iterator") xp rfl rfl 2#0 ⟨.int (lo+i),H,I1,⟨t,?_⟩,⟨rfl,rfl⟩,xp,λb hb=>(hf b hb).1⟩⟩;rw[Int.mul_one]
 done:=by
  intro X hP hw hK hc i mt s σ H E I hf st hg;subst hP hw hK;obtain⟨f0,f1,f2,f3,f4,f5⟩:=hf it 3#0;exact wpAny_pyNext_range_end (I.ok.hd hc) st (by have:n<=i:=hg;grobner) λh' eb=>⟨rfl,I.turned (t':=s.toks) (λb o hb e=>eb b o hb e) f0 f1 f3 f4 f5⟩
 self:=λ_ _ _ _ _ st h=>wpAny_pyIter_rangeiter st h
section
variable {X:Cx} {tg:Expr}
theorem zxL {mt:List 9#3}{σ:St}{H:Hp}{s:ag}{R:It->Hp->Prop}{E:ad->ag->Prop}{lo hi:Int}{t u v:lx}{tk:Nat}(I:z9 X mt σ H s)(h1: -(2 ^ 62)<=lo)(h2:lo < 2 ^ 62)(h3: -(2 ^ 62)<=hi)(h4:hi < 2 ^ 62)
  (q:R (cL lo (hi - lo).toNat) H):av 3#2 X.A (pyIter 6#3) (b9 X mt σ tg R) E {s with heap:=s.heap.push {cls:= .type "range",data:= .fields #[.int lo t,.int hi u,.int 1 v]},toks:=tk} :=by
 refine wpAny_pyIter_range (IsRange.new ..) (small_one h1 h2 h3 h4) ?_;have I1:z9 X mt σ H {s with heap:=s.heap.push {cls:= .type "range",data:= .fields #[.int lo t,.int hi u,.int 1 v]},toks:=tk} :=I.kept λb o e=>ak _ e;refine⟨(s.heap.push {cls:= .type "range",data:= .fields #[.int lo t,.int hi u,.int 1 v]}).objs.size,[(s.heap.push {cls:= .type "range",data:= .fields #[.int lo t,.int hi u,.int 1 v]}).objs.size],_,_,H,rfl,
  I1.kept (t':=tk) λb o e=>ak _ e,zz_ _ lo (hi - lo).toNat,?_,λb hb=> ?_,q⟩
 ·have e1:lo+((0:Nat):Int) * 1=lo:=3#0
  have e2:(((hi - lo).toNat:Nat):Int) - ((0:Nat):Int)=Builtin.Range.rangeSize lo hi 1:=by rw[rangeSize_one];split <;> grobner
  show IsRangeIter _ _ (lo+((0:Nat):Int) * 1) ((((hi - lo).toNat:Nat):Int) - ((0:Nat):Int)) 1;rw[e1,e2];exact be _ rfl
 ·have e:b=(s.heap.push {cls:= .type "range",data:= .fields #[.int lo t,.int hi u,.int 1 v]}).objs.size:=by simpa using hb
  subst e;exact I1.fpOk (aq _) (I1.hok.fresh (aq _))
def zti (ta:TA):TI:=λσ H R=>ta σ H λvs H1=> ∃j:Int,vs= [.int j]/\ -(2 ^ 62)<=j/\j < 2 ^ 62/\R (cL 0 j.toNat) H1
theorem zwA {a:Expr}{ta:TA}{p pos:di}(hg:Gl X "range")(hm:X.mg "range" =none)(ha:PA X [a] ta)(hs:starEach [a] X.env= [(false,eval a X.env)]:=by rfl):PI X tg (.Call (.Name "range" p) [a] [] pos) (zti ta):=by
 constructor;intro mt s σ H R I h;refine Call_ (lT I hg hm boot_range (callWith_type1 (zY (ha pos mt s σ H _ I h) λus s1 ⟨vs,H1,I1,r1,q1⟩=> ?_) hs rfl));obtain⟨j,e,q1,q2,q⟩:=q1;subst e;cases r1 with
 | cons r rr=>
  cases rr;obtain⟨t,rfl⟩:=r;exact call_range_1 (zxL I1 0#0 0#0 q1 q2 (by simpa using q))
def zh0 (wi:TI)(g:TG)(tb:TS):TS:=λD σ H=>wi σ H λJ H1=> ∃W:Nat->Nat->St->Hp->Prop,(∃m,W 0 m σ H1)/\∀i m σ H,W i m σ H->
 (J.stop i H/\D.nx σ H)∨(J.go i H/\∃N:St->Hp->Prop,(∀σ' H',N σ' H'->∃m',m' < m/\W (i+1) m' σ' H')/\∀x H',J.yld i H x H'->g x σ H' λσ2 H2=>tb {D with nx:=N,ct:=N,bk:=D.nx} σ2 H2)
def o5 (fp:List aa)(h:cf):List 9#3:=fp.filterMap λb=>(h.get? b).map λo=>(b,o)
theorem lV {fp:List aa}{h:cf}{b:aa}{o:aj}(hb:b∈fp)(e:h.get? b=some o):(b,o)∈o5 fp h:=pz.mpr ⟨b,hb,by rw[e];rfl⟩
theorem zgn {fp:List aa}{h:cf}{p:aa×aj}(hp:p∈o5 fp h):p.1∈fp/\h.get? p.1=some p.2:=by
 obtain⟨b,hb,e⟩:=pz.mp hp;cases q:h.get? b with
 | none=>rw[q]at e;cases e
 | some o=>
  rw[q]at e;have e':(b,o)=p:=ca e;subst e';exact⟨hb,q⟩
theorem z9.pinned {mt:List 9#3}{σ:St}{H:Hp}{s:ag}{fp:List aa}(I:z9 X mt σ H s)(hf: ∀b∈fp,pG X mt H b)(ho: ∀b∈fp,∃o,s.heap.get? b=some o/\∀v,o.data≠ .cell v):z9 X (mt++o5 fp s.heap) σ H s:=
 I.pins_of λp hp=>(bi.mp hp).elim (λz=>I.pin p (bm _ z)) λz=>by
  obtain⟨hb,e⟩:=zgn z;obtain⟨f0,f1,f2,_⟩:=hf p.1 hb;obtain⟨o,e',d⟩:=ho p.1 hb;rw[e]at e';cases e';exact⟨e,f0,f1,f2,d⟩
theorem z9.unpinned {mt pl:List 9#3}{σ:St}{H:Hp}{s:ag}(I:z9 X (mt++pl) σ H s):z9 X mt σ H s:=I.pins_of λp hp=>I.pin p (bm _ (ja _ hp))
theorem zwP {iter:Expr}{body:List bw}{wi:TI}{g:TG}{tb:TS}{pos:di}(hp:PassesOwn 3#2 X.A X.env X.xe)(hc:X.calm=true)(hi:PI X tg iter wi)(hg:PG X tg g)(hb:xI X body tb)
  (hs: ∀x,foldedSetIterable iter X.env x=pure x:=by intro _;rfl):PS X (.For tg iter body [] pos) (zh0 wi g tb):=by
 constructor;intro mt s σ H D I h;refine wpAny_For (zY (hi mt s σ H _ I h) λv s1 h1=>zY h1 λitv s2 h2=> ?_) hs;obtain⟨it,fp,tn,J,H2,e,I2,T,xr,f2,W,⟨m0,w0⟩,turn⟩:=h2;subst e;have yk: ∀{H':Hp},0#7->∀b∈fp,pG X mt H' b:=λhn b hb=>⟨hn b hb,(f2 b hb).2⟩;refine vg (λn s'=> ∃i σ' H',z9 X mt σ' H' s'/\tn i s'.heap/\0#7/\W i n σ' H') ?_ m0 ⟨0,σ,H2,I2,xr,λb hb=>(f2 b hb).1,w0⟩;rintro n s3 ⟨i,σ3,H3,I3,yd,fr3,w3⟩;rcases turn i n σ3 H3 w3 with⟨stop,qn⟩ | ⟨go,N,hN,step⟩
 ·refine gj hp (zY (T.done X rfl rfl rfl hc i mt s3 σ3 H3 X.xe I3 (yk fr3) yd stop) λr s4 ⟨hr,I4⟩=> ?_)
  subst hr;exact ij ⟨σ3,H3,I4,qn⟩
 ·refine gj hp (zY (T.item X rfl rfl rfl hc i mt s3 σ3 H3 X.xe I3 (yk fr3) yd go) λr s4 ⟨u,hr,h4⟩=> ?_)
  subst hr;refine gj hp (zY h4 λ_ s5 ⟨x,H5,I5,r5,y5,st5,fr5⟩=> ?_);have I5':=I5.pinned (yk fr5) (T.obj _ _ st5);refine gj hp (zY (hg _ s5 σ3 H5 x u _ I5' r5 (step x H5 y5)) λ_ s6 ⟨σ6,H6,I6,q6⟩=> ?_);refine gj hp (zY (hb _ s6 σ6 H6 _ I6 q6) λf s7 q7=> ?_);have again: ∀{σ7:St} {H7:Hp},z9 X (mt++o5 fp s5.heap) σ7 H7 s7->N σ7 H7->∃m,m < n/\∃i σ' H',z9 X mt σ' H' s7/\tn i s7.heap/\0#7/\W i m σ' H':=λ{σ7 H7} I7 n7=>by
   obtain⟨m',hm,w7⟩:=hN σ7 H7 n7;refine⟨m',hm,i+1,σ7,H7,I7.unpinned,T.keep _ _ _ st5 λb hb o e=>(I7.pin (b,o) (bm _ (bm _ (lV hb e)))).1,λb hb=> ?_,w7⟩;obtain⟨o,e,d⟩:=T.obj _ _ st5 b hb;exact(I7.pin (b,o) (bm _ (bm _ (lV hb e)))).2.1
  cases f with
  | next=>obtain⟨σ7,H7,I7,n7⟩:=q7;exact again I7 n7
  | cont=>obtain⟨σ7,H7,I7,n7⟩:=q7;exact again I7 n7
  | brk=>obtain⟨σ7,H7,I7,q7⟩:=q7;exact⟨σ7,H7,I7.unpinned,q7⟩
  | ret v=>obtain⟨x7,σ7,H7,I7,r7,q7⟩:=q7;exact⟨x7,σ7,H7,I7.unpinned,r7,q7⟩
end
abbrev R2:=V->V->Hp->VK->Prop
def yW (X:Cx)(f:ad->ad->Sem ad)(r:R2):Prop:=
 ∀(mt:List 9#3) (s:ag) (σ:St) (H:Hp) (x y:V) (v u:ad) (Q:VK),z9 X mt σ H s->y4 x v->y4 y u->r x y H Q->
  av 3#2 X.A (f v u) 2#5 X.xe s
def fG (X:Cx)(f:ad->Sem ad)(r:V->Hp->VK->Prop):Prop:=
 ∀(mt:List 9#3) (s:ag) (σ:St) (H:Hp) (x:V) (v:ad) (Q:VK),z9 X mt σ H s->y4 x v->r x H Q->
  av 3#2 X.A (f v) 2#5 X.xe s
def vF (X:Cx)(f:ad)(r:List V->Hp->VK->Prop):Prop:=
 ∀(mt:List 9#3) (s:ag) (σ:St) (H:Hp) (xs:List V) (us:List ad) (Q:VK),z9 X mt σ H s->zR xs us->r xs H Q->
  av 3#2 X.A (call f us) 2#5 X.xe s
def zqV (X:Cx)(r:V->Hp->(Bool->Hp->Prop)->Prop):Prop:=
 ∀(mt:List 9#3) (s:ag) (σ:St) (H:Hp) (x:V) (v:ad) (Q:Bool->Hp->Prop),z9 X mt σ H s->y4 x v->r x H Q->
  av 3#2 X.A (truthy v) (TP X mt σ Q) X.xe s
def c6 (r:R2)(ta tb:TE):TE:=λσ H Q=>ta σ H λx H1=>tb σ H1 λy H2=>r x y H2 Q
def tUn (r:V->Hp->VK->Prop)(ta:TE):TE:=λσ H Q=>ta σ H λx H1=>r x H1 Q
def rI (C:Int->Int->Prop)(g:Int->Int->V):R2:=λx y H Q=> ∃i j,x= .int i/\y= .int j/\C i j/\Q (g i j) H
def l4 (g:Int->Int->V):R2:=λx y H Q=> ∃i j,x= .int i/\y= .int j/\Q (g i j) H
def rU (g:Int->V):V->Hp->VK->Prop:=λx H Q=> ∃i,x= .int i/\Q (g i) H
section
variable {X:Cx} {a b c:Expr} {ta tb tc:TE} {pos:di}
theorem zbM (ha:PE X a ta)(hb:PE X b tb){mt:List 9#3}{s:ag}{σ:St}{H:Hp}{R:V->V->Hp->Prop}(I:z9 X mt σ H s)
  (h:ta σ H λx H1=>tb σ H1 λy H2=>R x y H2) {Q:ad->ag->Prop} {f:ad->ad->Sem ad}
  (hf: ∀v u s2 x y H2,z9 X mt σ H2 s2->y4 x v->y4 y u->R x y H2->av 3#2 X.A (f v u) Q X.xe s2):
  av 3#2 X.A (eval a X.env) (λv s₁=>av 3#2 X.A (eval b X.env) (λu s₂=>av 3#2 X.A (f v u) Q X.xe s₂) X.xe s₁) X.xe s:=by
 refine zY (ha mt s σ H _ I h) λv s1 ⟨x,H1,I1,r1,q1⟩=> ?_;refine zY (hb mt s1 σ H1 _ I1 q1) λu s2 ⟨y,H2,I2,r2,q2⟩=> ?_;exact hf v u s2 x y H2 I2 r1 r2 q2
theorem zww {op:Operator}{r:R2}(ho:yW X (binaryOp op) r)(ha:PE X a ta)(hb:PE X b tb):PE X (.BinOp a op b pos) (c6 r ta tb):=by
 constructor;intro mt s σ H Q I h;exact wpAny_BinOp (zbM ha hb I h λv u s2 x y H2 I2 rx ry q=>ho mt s2 σ H2 x y v u Q I2 rx ry q)
theorem zwz {op:UnaryOp}{r:V->Hp->VK->Prop}(ho:fG X (unaryOp op) r)(ha:PE X a ta):PE X (.UnaryOp op a pos) (tUn r ta):=by
 constructor;intro mt s σ H Q I h;exact UnaryOp_ (zY (ha mt s σ H _ I h) λv s1 ⟨x,H1,I1,r1,q1⟩=>ho mt s1 σ H1 x v Q I1 r1 q1)
theorem opI {f:ad->ad->Sem ad}{C:Int->Int->Prop}{g:Int->Int->Int}
  (rule: ∀(i j:Int) (t u:lx) (s:ag) (Q:ad->ag->Prop) (E:ad->ag->Prop),C i j->Q (.int (g i j) s.toks) {s with toks:=s.toks+1} ->av 3#2 X.A (f (.int i t) (.int j u)) Q E s):
  yW X f (rI C λi j=> .int (g i j)):=by
 intro mt s σ H x y v u Q I rx ry h;obtain⟨i,j,rfl,rfl,hc,q⟩:=h;obtain⟨t,rfl⟩:=rx;obtain⟨t',rfl⟩:=ry;exact rule i j t t' s _ _ hc ⟨.int (g i j),H,I.tok _,⟨_,rfl⟩,q⟩
theorem znp {f:ad->ad->Sem ad}{g:Int->Int->Int}
  (rule: ∀(i j:Int) (t u:lx) (s:ag) (Q:ad->ag->Prop) (E:ad->ag->Prop),Q (.int (g i j) s.toks) {s with toks:=s.toks+1} ->av 3#2 X.A (f (.int i t) (.int j u)) Q E s):
  yW X f (l4 λi j=> .int (g i j)):=by
 intro mt s σ H x y v u Q I rx ry h;obtain⟨i,j,rfl,rfl,q⟩:=h;obtain⟨t,rfl⟩:=rx;obtain⟨t',rfl⟩:=ry;exact rule i j t t' s _ _ ⟨.int (g i j),H,I.tok _,⟨_,rfl⟩,q⟩
theorem zak {f:ad->ad->Sem ad}{g:Int->Int->Bool}
  (rule: ∀(i j:Int) (t u:lx) (s:ag) (Q:ad->ag->Prop) (E:ad->ag->Prop),Q (.bool (g i j)) s->av 3#2 X.A (f (.int i t) (.int j u)) Q E s):
  yW X f (l4 λi j=> .bl (g i j)):=by
 intro mt s σ H x y v u Q I rx ry h;obtain⟨i,j,rfl,rfl,q⟩:=h;obtain⟨t,rfl⟩:=rx;obtain⟨t',rfl⟩:=ry;exact rule i j t t' s _ _ ⟨.bl (g i j),H,I,rfl,q⟩
def c9 (i j:Int):Prop:=0<=j/\j<=1000000/\i.natAbs < 2 ^ 64
def zbc (i j:Int):Prop:=(-(2 ^ 64) < i/\i < 2 ^ 64)∨(-(2 ^ 64) < j/\j < 2 ^ 64)
theorem zbc.ok {i j:Int}(h:zbc i j):IntMulOk i j:=by
 rcases h with⟨h1,h2⟩ | ⟨h1,h2⟩
 ·exact .of_left (intBits_le_64 h1 h2)
 ·exact .of_right (intBits_le_64 h1 h2)
theorem zvA:yW X (binaryOp .Add) (l4 λi j=> .int (i+j)):=znp λ_ _ _ _ _ _ _ q=>add_int q
theorem zvT:yW X (binaryOp .Sub) (l4 λi j=> .int (i - j)):=znp λ_ _ _ _ _ _ _ q=>sub_int q
theorem zvO:yW X (binaryOp .Mult) (rI zbc λi j=> .int (i * j)):=opI λ_ _ _ _ _ _ _ hc q=>mul_int q hc.ok
theorem zvN:yW X (binaryOp .Mod) (rI (λ_ j=>0 < j) λi j=> .int (i % j)):=opI λi j _ _ _ _ _ hc q=>by
 have h1:(0:Int) < j:=hc;exact mod_int' 0#0 (by rw[Int.fmod_eq_emod_of_nonneg i 0#0];exact q)
theorem zvS:yW X (binaryOp .Pow) (rI c9 λi j=> .int (i ^ j.toNat)):=opI λ_ _ _ _ _ _ _ hc q=>pow_int_small hc.1 hc.2.1 hc.2.2 q
theorem unI {f:ad->Sem ad}{g:Int->Int}
  (rule: ∀(i:Int) (t:lx) (s:ag) (Q:ad->ag->Prop) (E:ad->ag->Prop),Q (.int (g i) s.toks) {s with toks:=s.toks+1} ->av 3#2 X.A (f (.int i t)) Q E s):
  fG X f (rU λi=> .int (g i)):=by
 intro mt s σ H x v Q I rx h;obtain⟨i,rfl,q⟩:=h;obtain⟨t,rfl⟩:=rx;exact rule i t s _ _ ⟨.int (g i),H,I.tok _,⟨_,rfl⟩,q⟩
theorem zzE:fG X (unaryOp .USub) (rU λi=> .int (-i)):=unI λ_ _ _ _ _ q=>neg_int q
end
section
variable {X:Cx} {a b c:Expr} {ta tb tc:TE} {pos:di}
theorem zlB {mt:List 9#3}{σ:St}{H:Hp}{s:ag}{Q:VK}{k k':Bool}(I:z9 X mt σ H s)(q:Q (.bl k) H)(e:k=k'):EP X mt σ Q (.bool k') s:=by
 subst e;exact⟨.bl k,H,I,rfl,q⟩
theorem zvM:yW X (compareOp .Lt) (l4 λi j=> .bl (decide (i < j))):=zak λ_ _ _ _ _ _ _ q=>lt_int q
theorem zvK:yW X (compareOp .LtE) (l4 λi j=> .bl (decide (i<=j))):=zak λ_ _ _ _ _ _ _ q=>le_int q
theorem zvH:yW X (compareOp .Gt) (l4 λi j=> .bl (decide (j < i))):=zak λ_ _ _ _ _ _ _ q=>gt_int q
theorem zvG:yW X (compareOp .GtE) (l4 λi j=> .bl (decide (j<=i))):=zak λ_ _ _ _ _ _ _ q=>ge_int q
theorem zvJ:yW X (compareOp .In) (λx y H Q=> ∃i j,x= .str i/\y= .str j/\Q (.bl (!(Builtin.Str.occurrences j i 0 j.length 1).isEmpty)) H):=by
 intro mt s σ H x y v u Q I rx ry h;obtain⟨i,j,rfl,rfl,q⟩:=h;obtain⟨t,rfl⟩:=rx;obtain⟨t',rfl⟩:=ry;exact in_str (zlB I q rfl)
theorem y8 (b:Expr){op:CmpOp}(h:op≠ .In:=by decide)(h2:op≠ .NotIn:=by decide):behindInMarks op b=false:=by
 have e1:(op==CmpOp.In)=false:=by cases op <;> first | rfl | exact absurd rfl h
 have e2:(op==CmpOp.NotIn)=false:=by cases op <;> first | rfl | exact absurd rfl h2
 cases b <;> simp[behindInMarks,e1,e2]
theorem zwm {op:CmpOp}{r:R2}(ho:yW X (compareOp op) r)(ha:PE X a ta)(hb:PE X b tb)(hm:behindInMarks op b=false):PE X (.Compare a [op] [b] pos) (c6 r ta tb):=by
 constructor;intro mt s σ H Q I h;exact wpAny_Compare1 (zbM ha hb I h λv u s2 x y H2 I2 rx ry q=>ho mt s2 σ H2 x y v u Q I2 rx ry q) hm
def zpe (t:TE):TT:=λσ H Q=>t σ H λx H'=> ∃k,x= .bl k/\Q k H'
theorem zwZ {op:CmpOp}{r:R2}(ho:yW X (compareOp op) r)(ha:PE X a ta)(hb:PE X b tb)(hm:behindInMarks op b=false):PT X (.Compare a [op] [b] pos) (zpe (c6 r ta tb)):=by
 constructor;intro mt s σ H Q I h;refine wpAny_isTrue_Compare1 (zY (ha mt s σ H _ I h) λv s1 ⟨x,H1,I1,r1,q1⟩=>zY (hb mt s1 σ H1 _ I1 q1) λu s2 ⟨y,H2,I2,r2,q2⟩=>
  zY (ho mt s2 σ H2 x y v u _ I2 r1 r2 q2) λc s3 ⟨z,H3,I3,r3,k,e,q3⟩=> ?_) hm
 subst e;cases r3;exact qq ⟨H3,I3,q3⟩
def bD (K:Frag)(x:V)(H:Hp)(k:Bool):Prop:=
 match x with
 | .non=>k=false
 | .bl b=>k=b
 | .int i=>k=(i !=0)
 | .str y=>y.length<=am/\k=((y.length:Int) !=0)
 | .byt y=>y.size<=am/\k=((y.size:Int) !=0)
 | .ref p=>(∃xs,xA K H p xs/\k= !xs.isEmpty)∨(∃xs,xV K H p xs/\k= !xs.isEmpty)∨∃kvs,H p=some (.dK kvs)/\k= !kvs.isEmpty
 | _=>False
theorem ztv {κ:Type}{kvs:List (κ×V)}{vs:List (κ×ad)}(r:KV kvs vs):(!vs.isEmpty)= !kvs.isEmpty:=by
 cases r <;> rfl
theorem zmb {xs:List V}{xn:List ad}(r:zR xs xn):(!xn.toArray.isEmpty)= !xs.isEmpty:=by
 cases r <;> simp
theorem g7:(am:Nat) < 2 ^ 63:=by rw[iz];decide
theorem zpu:zqV X (λx H Q=> ∃k,bD X.K x H k/\Q k H):=by
 intro mt s σ H x v Q I rx h;obtain⟨k,e,q⟩:=h;have hl:=g7;have hs:am=16777216:=iz;cases x with
 | non=>
  cases rx;have e':k=false:=e;subst e';exact truthy_none ⟨H,I,q⟩
 | bl b=>
  cases rx;have e':k=b:=e;subst e';exact qq ⟨H,I,q⟩
 | int i=>
  obtain⟨t,rfl⟩:=rx;have e':k=(i !=0):=e;subst e';exact PySem.P.truthy_int ⟨H,I,q⟩
 | str y=>
  obtain⟨t,rfl⟩:=rx;obtain⟨hy,e'⟩:y.length<=am/\k=((y.length:Int) !=0):=e;subst e';exact PySem.P.truthy_str 0#0 ⟨H,I.tok _,q⟩
 | byt y=>
  obtain⟨t,rfl⟩:=rx;obtain⟨hy,e'⟩:y.size<=am/\k=((y.size:Int) !=0):=e;subst e';exact PySem.W.truthy_bytes 0#0 ⟨H,I.tok _,q⟩
 | ref p=>
  cases rx;have e':(∃xs,xA X.K H p xs/\k= !xs.isEmpty)∨(∃xs,xV X.K H p xs/\k= !xs.isEmpty)∨∃kvs,H p=some (.dK kvs)/\k= !kvs.isEmpty:=e;rcases e' with⟨xs,hx,e'⟩ | ⟨xs,hx,e'⟩ | ⟨kvs,hx,e'⟩
  ·subst e'
   obtain⟨xn,r,pl,hz⟩:=I.list hx;have xx:=r.length;exact wpAny_truthy_list pl.isList (by simp only[bj];grobner) ⟨H,I.tok _,by rw[zmb r];exact q⟩
  ·subst e'
   obtain⟨xn,r,pl,hz⟩:=I.tuple hx;have xx:=r.length;exact truthy_tuple pl (by simp only[bj];grobner) ⟨H,I.tok _,by rw[zmb r];exact q⟩
  ·subst e'
   obtain⟨hz,hS,vs,r,m⟩:kvs.length<=am/\(p==sysModules)=false/\∃vs,KV kvs vs/\s.heap.DictOf (uO X.prog X.w) p vs:=I.hok p _ hx;have xx:kvs.length=vs.length:=gx r;exact wpAny_truthy_dict hS m 0#0 ⟨H,I.tok _,by rw[ztv r];exact q⟩
 | _=>exact(show False from e).elim
theorem zgy (ha:PE X a ta)(he: ∀whole,isTrue a X.env whole=(do let v <- whole;standAt a.pos;holding [v] (truthy v))):
  PT X a (λσ H Q=>ta σ H λx H'=> ∃k,bD X.K x H' k/\Q k H'):=by
 constructor;intro mt s σ H Q I h;exact isTrue_plain (zY (ha mt s σ H _ I h) λv s1 ⟨x,H1,I1,r1,q1⟩=>zpu mt s1 σ H1 x v Q I1 r1 q1) (he _)
theorem zvB:yW X (binaryOp .Add) (λx y H Q=> ∃i j,x= .str i/\y= .str j/\i.length+j.length<=am/\Q (.str (i++j)) H):=by
 intro mt s σ H x y v u Q I rx ry h;obtain⟨i,j,rfl,rfl,hz,q⟩:=h;obtain⟨t,rfl⟩:=rx;obtain⟨t',rfl⟩:=ry;exact add_str (λt' tk=>⟨.str (i++j),H,I.tok _,⟨_,rfl⟩,q⟩) hz
theorem pF {x:V}{us:List ad}(r:zR [x] us): ∃u,us= [u]/\y4 x u:=by
 cases r with
 | cons r1 r2=>cases r2;exact⟨_,rfl,r1⟩
theorem zhI {x y:V}{us:List ad}(r:zR [x,y] us): ∃u w',us= [u,w']/\y4 x u/\y4 y w':=by
 cases r with
 | cons r1 r2=>
  cases r2 with
  | cons r3 r4=>cases r4;exact⟨_,_,rfl,r1,r3⟩
theorem zrH (hc:X.calm=true):vF X (.builtin "max") (λxs H Q=> ∃i j,xs= [.int i,.int j]/\Q (.int (if j > i then j else i)) H):=by
 intro mt s σ H xs us Q I r h;obtain⟨i,j,rfl,q⟩:=h;obtain⟨u,w',rfl,⟨t,rfl⟩,⟨t',rfl⟩⟩:=zhI r;refine max_two_ints (I.ok.hd hc) λh' tk k=>⟨_,H,I.kept k,?_,q⟩;by_cases hj:j > i
 ·rw[if_pos hj,if_pos hj];exact⟨_,rfl⟩
 ·rw[if_neg hj,if_neg hj];exact⟨_,rfl⟩
theorem zrI (hc:X.calm=true):vF X (.builtin "min") (λxs H Q=> ∃i j,xs= [.int i,.int j]/\Q (.int (if j < i then j else i)) H):=by
 intro mt s σ H xs us Q I r h;obtain⟨i,j,rfl,q⟩:=h;obtain⟨u,w',rfl,⟨t,rfl⟩,⟨t',rfl⟩⟩:=zhI r;refine min_two_ints (I.ok.hd hc) λh' tk k=>⟨_,H,I.kept k,?_,q⟩;by_cases hj:j < i
 ·rw[if_pos hj,if_pos hj];exact⟨_,rfl⟩
 ·rw[if_neg hj,if_neg hj];exact⟨_,rfl⟩
theorem ziZ:vF X (.type "int") (λxs H Q=>(∃i,xs= [.int i]/\Q 1#5 H)∨∃k,xs= [.bl k]/\Q (.int (if k then 1 else 0)) H):=by
 intro mt s σ H xs us Q I r h;rcases h with⟨i,rfl,q⟩ | ⟨k,rfl,q⟩
 ·obtain⟨u,rfl,t,rfl⟩:=pF r
  exact call_int_int ⟨.int i,H,I,⟨_,rfl⟩,q⟩
 ·obtain⟨u,rfl,r1⟩:=pF r
  cases r1;exact call_int_bool ⟨.int (if k then 1 else 0),H,I.tok _,⟨_,rfl⟩,q⟩
def zqS (K:Frag)(x:V)(H:Hp)(n:Nat):Prop:=
 match x with
 | .str y=>y.length<=am/\n=y.length
 | .byt y=>y.size<=am/\n=y.size
 | .ref p=>(∃xs,xA K H p xs/\n=xs.length)∨∃xs,xV K H p xs/\n=xs.length
 | _=>False
theorem bS:vF X (.builtin "len") (λxs H Q=> ∃x n,xs= [x]/\zqS X.K x H n/\Q (.int n) H):=by
 intro mt s σ H xs us Q I r h;obtain⟨x,n,rfl,e,q⟩:=h;obtain⟨u,rfl,rx⟩:=pF r;have hl:=g7;have hs:am=16777216:=iz;cases x with
 | str y=>
  obtain⟨t,rfl⟩:=rx;obtain⟨hy,e'⟩:y.length<=am/\n=y.length:=e;subst e';exact len_str 0#0 ⟨.int _,H,I.tok _,⟨_,rfl⟩,q⟩
 | byt y=>
  obtain⟨t,rfl⟩:=rx;obtain⟨hy,e'⟩:y.size<=am/\n=y.size:=e;subst e';exact PySem.W.len_bytes 0#0 ⟨.int _,H,I.tok _,⟨_,rfl⟩,q⟩
 | ref p=>
  cases rx;have e':(∃xs,xA X.K H p xs/\n=xs.length)∨∃xs,xV X.K H p xs/\n=xs.length:=e;rcases e' with⟨xs,hx,e'⟩ | ⟨xs,hx,e'⟩
  ·subst e'
   obtain⟨xn,r',pl,hz⟩:=I.list hx;have xx:=r'.length;exact Calls.call_len_list pl.isList (by simp only[bj];grobner) ⟨.int xs.length,H,I.tok _,⟨_,by simp only[bj];rw[xx]⟩,q⟩
  ·subst e'
   obtain⟨xn,r',pl,hz⟩:=I.tuple hx;have xx:=r'.length;exact len_tuple pl (by simp only[bj];grobner) ⟨.int xs.length,H,I.tok _,⟨_,by simp only[bj];rw[xx]⟩,q⟩
 | _=>exact(show False from e).elim
end
structure j6 (h:cf)(x dx C:aa)(mA:Str->Option ad):Prop where
 obj:h.get? x=some (instObj C dx)
 ns:h.Ns1 dx mA
 ne:dx≠x
theorem zuc {h:cf}{dx:aa}{mA:Str->Option ad}(n:h.Ns1 dx mA): ∃od,h.get? dx=some od/\∀name,lookIn name od=some (mA name):=by
 obtain⟨o,es,ep,ho,hd,hk,_,hm⟩:=n;refine⟨o,ho,λname=> ?_⟩;have e:=hm name;unfold nsFind findBy at e;rw[<- Array.find?_toList]at e;unfold lookIn;rw[hd];dsimp only
 split
 ·rename_i y q
  rw[q]at e;exact congrArg some e
 ·rename_i q
  rw[q]at e;have a:es.toList.any (·.refKey)=false:=by
   rw[wf];intro y hy;obtain⟨z,t,hkey⟩:=hk y (Array.mem_toList_iff.mp hy);simp[DictEntry.refKey,hkey]
  have a': ¬ es.toList.any (·.refKey)=true:=by rw[a];exact cr
  rw[if_neg a'];exact congrArg some e
theorem j6.look {h:cf}{x dx C:aa}{mA:Str->Option ad}(I:j6 h x dx C mA): ∃od,PySem.W.InstAt h x (instObj C dx) C (some od)/\∀name,lookIn name od=some (mA name):=
 let⟨od,ho,hl⟩:=zuc I.ns
 ⟨od,⟨I.obj,rfl,rfl,ho⟩,hl⟩
section
variable {prog:br} {w:bz} {A:ci} {E:ad->ag->Prop} {s:ag} {K:Frag} {x dx C f:aa} {mA:Str->Option ad} {name:Str} {v:ad}
theorem zsP {expr:Bool}{Q:ad->ag->Prop}(X:K.In s.heap)(I:j6 s.heap x dx C mA)(hg:plainGet K C name=true)(hh:hasDictIn K C=true)
  (ha:findIn K (.ref C) name=some none) (hv:mA name=some v) (hv':handedIn v=true) (h:Q v {s with toks:=s.toks+1}):
  av 6#2 A (getAttr (.ref x) name expr) Q E s:=by
 obtain⟨od,J,hl⟩:=I.look;exact PySem.W.get_value X J (wp hg).1 (PySem.W.findObj_own hh ha rfl (by rw[hl,hv])) hv' h
theorem zsQ {pl:Sem Bool}{Q:ad×List ad->ag->Prop}(X:K.In s.heap)(I:j6 s.heap x dx C mA)(hg:plainGet K C name=true)
  (hf:findIn K (.ref C) name=some (some 8#3)) (ht:isFn K 8#3=true) (hv:mA name=none) (h:Q (.ref f,[.ref x]) s):
  av 6#2 A (getMethod (.ref x) name pl) Q E s:=by
 obtain⟨od,J,hl⟩:=I.look;exact PySem.W.method_fn X J (wp hg).1 (wp hg).2 hf (beq_iff_eq.mp ht) (by show(lookIn name od).map (·.isSome)=some false;rw[hl,hv];rfl) h
theorem zyt {ns:List Str}{Q:Unit->ag->Prop}(X:K.In s.heap)(I:j6 s.heap x dx C mA)
  (hs:findIn K (.ref C) "__setattr__" =some (some (.builtin "object.__setattr__"))) (hp:plainOver K C=true) (ht:takerIn K C name=some none) (hh:hasDictIn K C=true)
  (hw:PySem.Within mA ns) (hsz:ns.length<=am)
  (h: ∀h',j6 h' x dx C (λy=>if y=name then some v else mA y)->Heap.SameBut dx s.heap h'->Q () {s with heap:=h',toks:=s.toks+2}):
  av 6#2 A (setAttr (.ref x) name v) Q E s:=by
 obtain⟨od,J,hl⟩:=I.look;refine PySem.W.set_plain X J hs (PySem.W.osa_open (s:= {s with toks:=s.toks+1}) (r:=none) X J hp ht λb=> ?_);obtain⟨cd,hc,hd'⟩:=PySem.W.any_some hh;have hx:s.heap.get? x=some ⟨.ref C,some dx,.plain,#[]⟩:=I.obj;refine ac (al (ac (ac (wpAny_loadPart hx (ac (PySem.W.Looks.here (s:= {s with toks:=s.toks+1}) (PySem.W.looks_clsIn X hc) ?_))))));rw[hd'];refine al (a:=some dx) (ac (al (ac ?_)));refine wpAny_nsSet1 (s:= {s with toks:=s.toks+1}) I.ns λh' hn2 yq=> ?_;obtain⟨oD,esD,epD,hoD,hdD,hcD⟩:=hn2.count (PySem.Within.cons name v hw);refine ac (wpAny_lookBehind hoD (by rw[hdD];exact pastItsLine_dict (cb hcD (by rw[ao];grobner))) ?_);exact al (h _ ⟨(yq.2 _ (dh I.ne)).trans I.obj,hn2,I.ne⟩ yq)
theorem zuk {R:Result->ag->Prop}{vs:List ad}{kw:List (Str×ad)}(X:K.In s.heap)(hm:makesIn K C=true)
  (hi:findIn K (.ref C) 66#1 =some (some 8#3)) (hf:PySem.W.typeIn K 8#3=some (.type "function"))
  (h:jf 6#2 (A.under (.builtin "type.__call__" ⟨.ref C::vs,kw⟩)) (.call 8#3 ⟨.ref 5#3::vs,kw⟩) (PySem.W.InitBack 5#3 R)
   {s with heap:=(s.heap.push emptyDict).push (instObj C s.heap.objs.size)}):
  jf 6#2 A (.call (.ref C) ⟨vs,kw⟩) R s:=by
 obtain⟨hh,g,d,t,os⟩:=s;exact PySem.W.make_core (PySem.W.makes_of X hm) (PySem.W.looks_findIn X hi) (λself=>PySem.W.bind_fn X self hf) (.inl rfl) h
end
def tE (f:Str)(v:V):List (Str×V)->List (Str×V)
 | []=> [(f,v)]
 | (g,x)::r=>if g=f then(g,v)::r else(g,x)::tE f v r
theorem zm3 (f g:Str)(v:V): ∀fs:List (Str×V),(tE f v fs).lookup g=if g=f then some v else fs.lookup g
 | []=>by
  show List.lookup g [(f,v)]=_;by_cases h:g=f
  ·have hb:(g==f)=true:=beq_iff_eq.mpr h
   simp only[List.lookup,hb,if_pos h]
  ·have hb:(g==f)=false:=beq_eq_false_iff_ne.mpr h
   simp only[List.lookup,hb,if_neg h]
 | (k,x)::r=>by
  have ih:=zm3 f g v r;rw[show tE f v ((k,x)::r)=(if k=f then(k,v)::r else(k,x)::tE f v r)from rfl];by_cases hk:k=f
  ·rw[if_pos hk]
   by_cases h:g=k
   ·have hb:(g==k)=true:=beq_iff_eq.mpr h
    simp only[List.lookup,hb,if_pos (h.trans hk)]
   ·have hb:(g==k)=false:=beq_eq_false_iff_ne.mpr h
    simp only[List.lookup,hb,if_neg (λe:g=f=>h (e.trans hk.symm))]
  ·rw[if_neg hk]
   by_cases h:g=k
   ·have hb:(g==k)=true:=beq_iff_eq.mpr h
    simp only[List.lookup,hb,if_neg (λe:g=f=>hk (h.symm.trans e))]
   ·have hb:(g==k)=false:=beq_eq_false_iff_ne.mpr h
    simp only[List.lookup,hb];exact ih
theorem zfO (f:Str)(v:V): ∀fs:List (Str×V),f∈(tE f v fs).map (·.1)/\∀g,g∈fs.map (·.1)->g∈(tE f v fs).map (·.1)
 | []=>⟨by simp[tE],λg h=>by simp at h⟩
 | (k,x)::r=>by
  obtain⟨i1,i2⟩:=zfO f v r;rw[show tE f v ((k,x)::r)=(if k=f then(k,v)::r else(k,x)::tE f v r)from rfl];by_cases hk:k=f
  ·rw[if_pos hk]
   subst hk;exact⟨3#0,λg h=>by simpa using h⟩
  ·rw[if_neg hk]
   refine⟨?_,λg h=> ?_⟩
   ·rw[cc]
    exact bc _ i1
   ·rw[cc]at h⊢
    rcases ar.mp h with e | e
    ·exact ar.mpr (.inl e)
    ·exact bc _ (i2 g e)
theorem zmu (f:Str)(v:V): ∀fs:List (Str×V),(tE f v fs).length<=fs.length+1
 | []=>by simp[tE]
 | (k,x)::r=>by
  have ih:=zmu f v r;rw[show tE f v ((k,x)::r)=(if k=f then(k,v)::r else(k,x)::tE f v r)from rfl];by_cases hk:k=f
  ·rw[if_pos hk,ao,ao];grobner
  ·rw[if_neg hk,ao,ao];grobner
theorem sA.some_of {v:V}{o:Option ad}(r:sA (some v) o): ∃u,o=some u/\y4 v u:=by
 cases o with
 | none=>exact(show False from r).elim
 | some u=>exact⟨u,rfl,r⟩
theorem sA.none_of {o:Option ad}(r:sA none o):o=none:=by
 cases o with
 | none=>rfl
 | some u=>exact(show False from r).elim
theorem zsW {v:V}{u:ad}(r:y4 v u):handedIn u=true:=by
 cases v with
 | non=>cases(show u=Value.none from r);rfl
 | bl b=>cases(show u=Value.bool b from r);rfl
 | int i=>obtain⟨t,e⟩:=(show ∃t,u=Value.int i t from r);cases e;rfl
 | str x=>obtain⟨t,e⟩:=(show ∃t,u=Value.str x t from r);cases e;rfl
 | byt b=>obtain⟨t,e⟩:=(show ∃t,u=Value.bytes b t from r);cases e;rfl
 | flt b=>obtain⟨t,e⟩:=(show ∃t,u=Value.float b t from r);cases e;rfl
 | ref a=>cases(show u=Value.ref a from r);rfl
 | ty n=>cases(show u=Value.type n from r);rfl
section
variable {P:br} {w:bz} {H H':Hp} {h h':cf} {a C dx:aa} {fs fs':List (Str×V)}
theorem zfH (hok:wD P w H h)(e:H a=some (.ins C dx fs)): ∃mA,j6 h a dx C mA/\(∀f,sA (fs.lookup f) (mA f))/\PySem.Within mA (fs.map (·.1))/\fs.length<=1000/\H dx=some (.own a):=by
 obtain⟨d,z,ne,ob,mA,n,r,q⟩:=(show vS P w H h a (.ins C dx fs)from hok a _ e);exact⟨mA,⟨ob,n,ne⟩,r,q,z,d⟩
end
structure sQ (K:Frag)(C:aa):Prop where
 pg:plainGet K C Str.empty=true
 hd:hasDictIn K C=true
 po:plainOver K C=true
 sa:findIn K (.ref C) "__setattr__" =some (some (.builtin "object.__setattr__"))
theorem sQ.get {K:Frag}{C:aa}(c:sQ K C)(f:Str):plainGet K C f=true:=c.pg
def qK (K:Frag)(C:aa)(f:Str):Prop:=findIn K (.ref C) f=some none
theorem qK.taker {K:Frag}{C:aa}{f:Str}(n:qK K C f):takerIn K C f=some none:=by
 unfold takerIn;rw[show findIn K (.ref C) f=some none from n]
 rfl
structure qJ (K:Frag)(C:aa)(m:Str)(f:aa):Prop where
 at_:findIn K (.ref C) m=some (some 8#3)
 fn:isFn K 8#3=true
 kp:keepIn K 8#3=true
section
variable {X:Cx} {mt:List (aa×aj)} {σ:St} {H:Hp} {s:ag} {a C dx:aa} {fs:List (Str×V)} {f:Str} {v:V} {A:ci} {E:ad->ag->Prop}
theorem zsT {b:Bool}{Q:ad->ag->Prop}(I:z9 X mt σ H s)(e:H a=some (.ins C dx fs))(c:sQ X.K C)(n:qK X.K C f)(l:fs.lookup f=some v)
  (h: ∀u s',z9 X mt σ H s'->y4 v u->Q u s'):av 3#2 A (getAttr (.ref a) f b) Q E s:=by
 obtain⟨mA,O,r,_,_,_⟩:=zfH I.hok e;obtain⟨u,hu,ru⟩:=sA.some_of (v:=v) (o:=mA f) (by rw[<- l];exact r f);exact zsP I.kIn O (c.get f) c.hd n hu (zsW ru) (h u _ (I.tok _) ru)
theorem zlK {m:Str}{g:aa}{pl:Sem Bool}{Q:ad×List ad->ag->Prop}(I:z9 X mt σ H s)(e:H a=some (.ins C dx fs))(c:sQ X.K C)(k:qJ X.K C m g)(l:fs.lookup m=none)
  (h:Q (.ref g,[.ref a]) s):av 3#2 A (getMethod (.ref a) m pl) Q E s:=by
 obtain⟨mA,O,r,_,_,_⟩:=zfH I.hok e;have hn:mA m=none:=sA.none_of (by rw[<- l];exact r m);exact zsQ I.kIn O (c.get m) k.at_ k.fn hn h
theorem zyv {y:V}{u:ad}{Q:Unit->ag->Prop}(I:z9 X mt σ H s)(e:H a=some (.ins C dx fs))(c:sQ X.K C)(n:qK X.K C f)(hl:fs.length < 1000)(ry:y4 y u)
  (h: ∀s',z9 X mt σ (zN H a (.ins C dx (tE f y fs))) s'->Q () s'):av 3#2 A (setAttr (.ref a) f u) Q E s:=by
 obtain⟨mA,O,r,wi,_,ho⟩:=zfH I.hok e;have hz:(fs.map (·.1)).length<=am:=by rw[ah,iz];grobner
 refine zyt I.kIn O c.sa c.po n.taker c.hd wi hz λh' O' sb=>h _ ?_;have hd: ∃o,h'.get? dx=some o:=let⟨o,_,_,e',_⟩:=O'.ns;⟨o,e'⟩;refine I.write (x:=a) (e:=dx) (by rw[e];exact True.intro) (.inr ho) (λb q hb z=>(sb.2 b hb).trans z) hd ?_;refine⟨by rw[yJ O.ne];exact ho,?_,O.ne,O'.obj,_,O'.ns,λg=> ?_,λg hg=> ?_⟩
 ·have:=zmu f y fs;grobner
 ·show sA ((tE f y fs).lookup g) (if g=f then some u else mA g)
  rw[zm3];by_cases q:g=f
  ·rw[if_pos q,if_pos q];exact ry
  ·rw[if_neg q,if_neg q];exact r g
 ·by_cases q:g=f
  ·rw[q];exact(zfO f y fs).1
  ·refine(zfO f y fs).2 g (wi g λz=>hg ?_)
   show(if g=f then some u else mA g)=none;rw[if_neg q];exact z
theorem z9.made (I:z9 X mt σ H s):z9 X mt σ (zN (zN H s.heap.objs.size (.own 5#3)) 5#3 (.ins C s.heap.objs.size []))
  {s with heap:=(s.heap.push emptyDict).push (instObj C s.heap.objs.size)} :=by
 have e1:(s.heap.push emptyDict).get? s.heap.objs.size=some emptyDict:=be s.heap rfl;have e2:((s.heap.push emptyDict).push (instObj C s.heap.objs.size)).get? 5#3=some (instObj C s.heap.objs.size):=by
  have:=be (s.heap.push emptyDict) (o:=instObj C s.heap.objs.size) rfl
  rwa [du]at this
 have e3:(s.heap.push emptyDict).Ns s.heap.objs.size (λ_=>none):=⟨emptyDict,#[],_,e1,rfl,(λe he=>absurd he 3#0),λ_=>rfl⟩;have I1:=I.laid (a:=s.heap.objs.size) (o:= .own 5#3) (h':=s.heap.push emptyDict) (t':=s.toks) (λb u q=>ak _ q) (aq _) ⟨_,e1⟩;refine I1.laid (a:=s.heap.objs.size+1) (o:= .ins C s.heap.objs.size []) (t':=s.toks) (λb u q=>ak _ q) (Nat.le_of_eq (du _ _)) ?_;have ne:s.heap.objs.size≠s.heap.objs.size+1:=bo (ia _);refine⟨by rw[yJ ne,xR],db _,ne,e2,λ_=>none,(Heap.Ns1.of_empty e3).at λo q=>ak _ q,λ_=>True.intro,λy hy=>absurd rfl hy⟩
theorem zrp {prog:br}{w:bz}{env:lc}{e:Expr}{f:Str}{pos:di}{s:ag}{Q:ad->ag->Prop}(hb:attributeBase e f env (eval e env)=eval e env)
  (h:av 6#2 A (eval e env) (λo s₁=>av 6#2 A (getAttr o f true) Q E s₁) E s):av 6#2 A (eval (.Attribute e f pos) env) Q E s:=
 Attribute_any_ h (by rw[arm_eval_Attribute,hb])
end
def zzm (K:Frag)(ta:TE)(f:Str):TE:=λσ H Q=>ta σ H λx H1=> ∃a C dx fs v,x= .ref a/\H1 a=some (.ins C dx fs)/\sQ K C/\qK K C f/\fs.lookup f=some v/\Q v H1
def zxZ (K:Frag)(ta tv:TE)(f:Str):TS:=λD σ H=>tv σ H λy H1=>ta σ H1 λx H2=> ∃a C dx fs,x= .ref a/\H2 a=some (.ins C dx fs)/\sQ K C/\qK K C f/\fs.length < 1000/\
 D.nx σ (zN H2 a (.ins C dx (tE f y fs)))
section
variable {X:Cx} {o e value:Expr} {f:Str} {pos pos' tpos:di} {ta tv:TE}
theorem zwo (he:PE X e ta)(hb:attributeBase e f X.env (eval e X.env)=eval e X.env):PE X (.Attribute e f pos) (zzm X.K ta f):=by
 constructor;intro mt s σ H Q I h;refine zrp hb (zY (he mt s σ H _ I h) λu s1 ⟨x,H1,I1,rx,a,C,dx,fs,v,ex,ea,c,n,l,q⟩=> ?_);subst ex;obtain rfl:u=Value.ref a:=rx;exact zsT I1 ea c n l λu' s2 I2 ru=>⟨v,H1,I2,ru,q⟩
theorem zwO (ha:PE X o ta)(hv:PE X value tv)(hs:swapsWith value (some (.Attribute o f pos')) pos.line X.env=pure false):PS X (.Assign [.Attribute o f pos'] value pos) (zxZ X.K ta tv f):=by
 constructor;intro mt s σ H D I h;refine plainObj_wpAny_Assign_Attribute (zY (hv mt s σ H _ I h) λu s1 ⟨y,H1,I1,ry,q⟩=>zY (ha mt s1 σ H1 _ I1 q) λov s2 ⟨x,H2,I2,rx,a,C,dx,fs,ex,ea,c,n,l,q2⟩=> ?_) hs;subst ex;obtain rfl:ov=Value.ref a:=rx;exact zyv I2 ea c n l ry λs3 I3=>⟨σ,_,I3,q2⟩
end
structure zH (k:Nat)(A:ci):Prop where
 hd:A.handled=none
 dp:A.depth+3 * k+5 < recursionLimit
 un:A.units+16 * k+200 < cLine
theorem zH.mono {j k:Nat}{A:ci}(r:zH k A)(h:j<=k):zH j A:=⟨r.hd,by have:=r.dp;grobner,by have:=r.un;grobner⟩
theorem zH.deeper {k:Nat}{A:ci}(r:zH (k+1) A)(env:lc):zH k (A.deeper env):=
 ⟨r.hd,by have:=r.dp;show A.depth+1+3 * k+5 < _;grobner,by have:=r.un;show A.units+3+16 * k+200 < _;grobner⟩
theorem zuj {A:ci}{C:aa}{us:List ad}{kw:List (Str×ad)} :(A.under (.builtin "type.__call__" ⟨.ref C::us,kw⟩)).depth=A.depth+1:=by
 first | rfl | simp[Around.under,Code.weight,Code.isCreation,Code.isGuard,Code.isCaller,Code.frames,Code.isFrame,guardIds]
theorem zul {A:ci}{C:aa}{us:List ad}{kw:List (Str×ad)} :(A.under (.builtin "type.__call__" ⟨.ref C::us,kw⟩)).units=A.units+1:=by
 first | rfl | simp[Around.under,Code.cUnits,Code.frames,Code.isFrame]
theorem zH.make {k:Nat}{A:ci}(r:zH (k+1) A)(C:aa)(us:List ad)(kw:List (Str×ad)):zH k (A.under (.builtin "type.__call__" ⟨.ref C::us,kw⟩)):=
 ⟨r.hd,by have:=r.dp;rw[zuj];grobner,by have:=r.un;rw[zul];grobner⟩
theorem zH.depth {k:Nat}{A:ci}(r:zH k A):A.depth < recursionLimit:=by have:=r.dp;grobner
theorem zH.units {k:Nat}{A:ci}(r:zH k A):A.units+64 < cLine:=by have:=r.un;grobner
def zpc:TA:=λ_ H Q=>Q [] H
def c5 (ta:TE)(tr:TA):TA:=λσ H Q=>ta σ H λx H1=>tr σ H1 λxs H2=>Q (x::xs) H2
section
variable {X:Cx} {e:Expr} {es:List Expr} {te:TE} {t:TA} {pos:di}
theorem qX:PA X [] zpc:=⟨λ_ _ _ _ H Q I h=>qr ⟨[],H,I,.nil,h⟩⟩
theorem qW (ha:PE X e te)(hr:PA X es t)(hs:starEach (e::es) X.env=8#2::starEach es X.env:=by rfl):PA X (e::es) (c5 te t):=by
 constructor;intro pos mt s σ H Q I h;rw[hs];show av _ _ (spliced (8#2::backTo pos 3#3)) _ _ s;refine iu (zY (ha mt s σ H _ I h) λu s1 ⟨x,H1,I1,r1,q1⟩=> ?_);exact zY (hr pos mt s1 σ H1 _ I1 q1) λus s2 ⟨xs,H2,I2,r2,q2⟩=>⟨x::xs,H2,I2,.cons r1 r2,q2⟩
def zzx (t:TA):TE:=λσ H Q=>t σ H λxs H1=>xs.length<=am/\∀p,H1 p=none->Q (.ref p) (zN H1 p 2#6)
def zzo (t:TA):TE:=λσ H Q=>t σ H λxs H1=>xs.length<=am/\∀p,H1 p=none->Q (.ref p) (zN H1 p 2#4)
theorem znA {x1}(h:PA X es t):PE X (.Tuple es x1 pos) (zzx t):=by
 constructor;intro mt s σ H Q I hq;refine wpAny_Tuple_spliced (zY (h pos mt s σ H _ I hq) λus s1 ⟨xs,H1,I1,r,z,q⟩=>⟨by rw[<- r.length];exact z,?_⟩);have hf:H1 s1.heap.objs.size=none:=I1.hok.fresh (aq _);refine⟨.ref s1.heap.objs.size,zN H1 s1.heap.objs.size 2#6,I1.laid (t':=s1.toks) (λb u e=>ak _ e) (aq _) ?_,rfl,q _ hf⟩;exact⟨z,us,r,⟨_,be _ rfl,rfl,_,rfl,rfl⟩⟩
theorem eO (h:PA X es t):PE X (.List es pos) (zzo t):=by
 constructor;intro mt s σ H Q I hq;refine wpAny_List_spliced (zY (h pos mt s σ H _ I hq) λus s1 ⟨xs,H1,I1,r,z,q⟩=>⟨by rw[<- r.length];exact z,?_⟩);have hf:H1 s1.heap.objs.size=none:=I1.hok.fresh (aq _);refine⟨.ref s1.heap.objs.size,zN H1 s1.heap.objs.size 2#4,I1.laid (t':=s1.toks) (λb u e=>ak _ e) (aq _) ?_,rfl,q _ hf⟩;exact⟨z,us,0,r,be _ rfl⟩
end
abbrev Sp:=List V->Hp->VK->XK->Prop
abbrev tY:=List lc->Hp->ag->XK->ad->ag->Prop
structure l8 (P:br)(w:bz)(K:Frag)(mg:Str->Option ad)(base:cf)(A:ci)(outer:List lc)(s:ag)(H:Hp):Prop where
 frames:A.frames=some outer
 mod:Mod K mg base
 bs: ∀b o,base.get? b=some o->s.heap.get? b=some o/\H b=none
 bsz:base.objs.size<=s.heap.objs.size
 funs:s.heap.FunFrames base outer
 frf: ∀b∈tU outer,H b=none
 hok:wD P w H s.heap
 bare:AllBare s.gens
def CE (outer:List lc)(P:br)(w:bz)(H:Hp)(s:ag)(Q:VK)(u:ad)(s':ag):Prop:=
 ∃v H',s'.os=s.os/\AllBare s'.gens/\Un (tU outer) [] H H' s.heap s'.heap/\wD P w H' s'.heap/\y4 v u/\Q v H'
def CR (CX:tY)(outer:List lc)(P:br)(w:bz)(H:Hp)(s:ag)(Q:VK)(E:XK)(r:Result)(s':ag):Prop:=
 match r with
 | .ok (.ret u)=>CE outer P w H s Q u s'
 | .ok _=>False
 | .error e=>CX outer H s E e s'
structure yK (P:br)(w:bz)(K:Frag)(mg:Str->Option ad)(base:cf)(CX:tY)(k:Nat)(f:aa)(fd:bh)(ps:List Str)(sp:Sp):Prop where
 len: ∀vs H Q E,sp vs H Q E->vs.length=ps.length
 run: ∀(A:ci) (outer:List lc) (s:ag) (H:Hp) (args:Args) (us:List ad) (vs:List V) (Q:VK) (E:XK),zH k A->l8 P w K mg base A outer s H->BindsTo s fd args (ps.zip us)->zR vs us->sp vs H Q E->
  jf (bb P w) A (.call 8#3 args) (CR CX outer P w H s Q E) s
theorem l8.make {P:br}{w:bz}{K:Frag}{mg:Str->Option ad}{base:cf}{A:ci}{outer:List lc}{s:ag}{H:Hp}(e:l8 P w K mg base A outer s H)(C:aa)(us:List ad)(kw:List (Str×ad)):
  l8 P w K mg base (A.under (.builtin "type.__call__" ⟨.ref C::us,kw⟩)) outer s H:=⟨by first | exact e.frames | (simpa [Around.under,Code.envs,Code.isFrame,pushEnvs]using e.frames),e.mod,e.bs,e.bsz,e.funs,e.frf,e.hok,e.bare⟩
section
variable {X:Cx} {mt:List (aa×aj)} {σ:St} {H:Hp} {s s':ag}
theorem z9.env0 (I:z9 X mt σ H s):l8 X.prog X.w X.K X.mg X.base X.A X.stack s H:=
 ⟨I.ok.frames,I.ok.mod,I.bs,cb I.ok.bsz I.sz,I.stack,I.stkFree,I.hok,I.bare⟩
theorem z9.after {Q:VK}{u:ad}(I:z9 X mt σ H s)(h:CE X.stack X.prog X.w H s Q u s'):EP X mt σ Q u s':=by
 obtain⟨v,H',os,bare,un,hok,r,q⟩:=h;obtain⟨hh,g,d,t,os'⟩:=s';obtain rfl:os'=s.os:=os;exact⟨v,H',I.call (h':=hh) (g':=g) (d':=d) (t':=t) (ch:= []) un hok bare (λb z=>absurd z 3#0),r,q⟩
end
def zaR (sp:Sp)(dvs:List V)(E:XK)(t:TA):TE:=λσ H Q=>t σ H λvs H1=>sp (vs++dvs) H1 Q E
def zpa (C:aa)(m:Str)(sp:Sp)(dvs:List V)(E:XK)(ta:TE)(t:TA):TE:=λσ H Q=>ta σ H λx H1=> ∃a dx fs,x= .ref a/\H1 a=some (.ins C dx fs)/\fs.lookup m=none/\
 t σ H1 λvs H2=>sp (x::(vs++dvs)) H2 Q E
def zzq (C:aa)(sp:Sp)(dvs:List V)(E:XK)(t:TA):TE:=λσ H Q=>t σ H λvs H1=> ∀x dx,H1 x=none->H1 dx=none->dx≠x->
 sp (.ref x::(vs++dvs)) (zN (zN H1 dx (.own x)) x (.ins C dx [])) (λv H2=>v= .non/\Q (.ref x) H2) E
def y2 (K:Frag)(fd:bh)(ps:List Str)(ds:List ad):Prop:=
 ∀(s:ag) (us:List ad),K.In s.heap->(us++ds).length=ps.length->BindsTo s fd ⟨us,[]⟩ (ps.zip (us++ds))
theorem y2.all {K:Frag}{fd:bh}{ps:List Str}(h: ∀us:List ad,us.length=ps.length->bindArgs fd ⟨us,[]⟩=pure (ps.zip us)):y2 K fd ps []:=λs us _ hl=>by
 rw[cg]at hl⊢
 exact .of_eq (h us hl)
def pP (CX:tY)(X:Cx)(E:XK):Prop:= ∀(mt:List 9#3) (σ:St) (H:Hp) (s:ag) (e:ad) (s':ag),z9 X mt σ H s->CX X.stack H s E e s'->X.xe e s'
section
variable {X:Cx} {CX:tY} {k:Nat} {f C:aa} {fd:bh} {ps:List Str} {sp:Sp} {dvs:List V} {ds:List ad} {E:XK} {x m:Str} {p pos xz:di} {e o:Expr} {es:List Expr} {ta:TE} {t:TA}
theorem dD {mt:List 9#3}{σ:St}{H:Hp}{s:ag}{Q:VK}{us:List ad}{vs:List V}(F:yK X.prog X.w X.K X.mg X.base CX k f fd ps sp)(hr:zH k X.A)(hb:y2 X.K fd ps ds)(hd:zR dvs ds)(hx:pP CX X E)
  (I:z9 X mt σ H s) (r:zR vs us) (h:sp (vs++dvs) H Q E):av 3#2 X.A (call 8#3 us) 2#5 X.xe s:=by
 have r2:zR (vs++dvs) (us++ds):=r.append hd;have hl:(us++ds).length=ps.length:=by rw[<- r2.length];exact F.len _ _ _ _ h
 refine uv (kf (F.run X.A X.stack s H ⟨us,[]⟩ (us++ds) (vs++dvs) Q E hr I.env0 (hb s us I.kIn hl) r2 h) λr s' hq=> ?_);cases r with
 | error e=>exact hx mt σ H s e s' I hq
 | ok fl=>
  cases fl with
  | ret u=>exact I.after hq
  | next=>exact False.elim hq
  | brk=>exact False.elim hq
  | cont=>exact False.elim hq
theorem zwl (F:yK X.prog X.w X.K X.mg X.base CX k f fd ps sp)(hr:zH k X.A)(hg:Gl X x)(hm:X.mg x=some 8#3)(hk:keepIn X.K 8#3=true)(hb:y2 X.K fd ps ds)(hd:zR dvs ds)(hx:pP CX X E)
  (ha:PA X (e::es) t) (hdb:4#4=false:=by decide) (he:starEach (e::es) X.env=8#2::starEach es X.env:=by rfl) (yi:(backTo pos 3#3).any (·.1)=false:=by rfl):
  PE X 4#3 (zaR sp dvs E t):=by
 constructor;intro mt s σ H Q I h;refine gw (hV I hg hm ?_ hdb);refine nh (h₀:=X.base) I.ok.mod.kin hk (zY (ha pos mt s σ H _ I h) λus s1 ⟨vs,H1,I1,r,q⟩=>⟨I1.kIn,?_⟩) he yi;exact dD F hr hb hd hx I1 r q
theorem zwu {pl:Sem Bool}(he:PE X o ta)(c:sQ X.K C)(hm:qJ X.K C m f)(F:yK X.prog X.w X.K X.mg X.base CX k f fd ps sp)(hr:zH k X.A)(hb:y2 X.K fd ps ds)(hd:zR dvs ds)(hx:pP CX X E)(ha:PA X (e::es) t)
  (yx:starEach (e::es) X.env=8#2::starEach es X.env:=by rfl) (yi:(backTo pos 3#3).any (·.1)=false:=by rfl)
  (ht:eval (.Call (.Attribute o m xz) (e::es) [] pos) X.env=(do
   let ov <- eval o X.env
   standAt xz.atName
   let(f,first) <- holding [ov] (getMethod ov m pl)
   callWith pos f first (backTo pos (starEach (e::es) X.env)) (backToKw pos (keywordEach [] X.env))):=by rfl):
  PE X (.Call (.Attribute o m xz) (e::es) [] pos) (zpa C m sp dvs E ta t):=by
 constructor;intro mt s σ H Q I h;refine uk (pl:=pl) (zY (he mt s σ H _ I h) λu s1 ⟨x,H1,I1,rx,a,dx,fs,ex,ea,l,q⟩=> ?_) ht;subst ex;obtain rfl:u=Value.ref a:=rx;refine zlK I1 ea c hm l ?_;refine nh (first:= [.ref a]) (h₀:=X.base) I.ok.mod.kin hm.kp (zY (ha pos mt s1 σ H1 _ I1 q) λus s2 ⟨vs,H2,I2,r,q2⟩=>⟨I2.kIn,?_⟩) yx yi;exact dD (us:= .ref a::us) (vs:= .ref a::vs) F hr hb hd hx I2 (.cons rfl r) q2
theorem zwv {pl:Sem Bool}(he:PE X o ta)(c:sQ X.K C)(hm:qJ X.K C m f)(F:yK X.prog X.w X.K X.mg X.base CX k f fd ps sp)(hr:zH k X.A)(hb:y2 X.K fd ps ds)(hd:zR dvs ds)(hx:pP CX X E)
  (ht:eval (.Call (.Attribute o m xz) [] [] pos) X.env=(do
   let ov <- eval o X.env
   standAt xz.atName
   let(f,first) <- holding [ov] (getMethod ov m pl)
   callWith pos f first (backTo pos (starEach [] X.env)) (backToKw pos (keywordEach [] X.env))):=by rfl):
  PE X (.Call (.Attribute o m xz) [] [] pos) (zpa C m sp dvs E ta zpc):=by
 constructor;intro mt s σ H Q I h;refine uk (pl:=pl) (zY (he mt s σ H _ I h) λu s1 ⟨x,H1,I1,rx,a,dx,fs,ex,ea,l,q⟩=> ?_) ht;subst ex;obtain rfl:u=Value.ref a:=rx;refine zlK I1 ea c hm l ?_;exact PySem.W.callWith_K0 (first:= [.ref a]) I1.kIn hm.kp (dD (us:= [.ref a]) (vs:= [.ref a]) F hr hb hd hx I1 (.cons rfl .nil) q)
structure Mk (K:Frag)(C f:aa):Prop where
 makes:makesIn K C=true
 init:findIn K (.ref C) 66#1 =some (some 8#3)
 fn:isFn K 8#3=true
 kp:keepIn K (.ref C)=true
end
structure PK (X:Cx)(kws:List Keyword)(t:TA):Prop where
 run:
  ∀(pos:di) (mt:List 9#3) (s:ag) (σ:St) (H:Hp) (Q:List V->Hp->Prop),z9 X mt σ H s->t σ H Q->av 3#2 X.A (evalAll ((backToKw pos (keywordEach kws X.env)).map (·.2))) (AP X mt σ Q) X.xe s
instance {X:Cx} {kws:List Keyword} {t:TA} :CoeFun (PK X kws t) λ_=>
 ∀(pos:di) (mt:List 9#3) (s:ag) (σ:St) (H:Hp) (Q:List V->Hp->Prop),z9 X mt σ H s->t σ H Q->av 3#2 X.A (evalAll ((backToKw pos (keywordEach kws X.env)).map (·.2))) (AP X mt σ Q) X.xe s
  :=⟨PK.run⟩
structure yQ (N P:List Str)(sc:kb):Prop where
 kind:sc.kind= .function
 co:sc.isCoroutine=false
 gen:sc.isGenerator=false
 nd:N.Nodup
 pre:N.take P.length=P
 par: ∀x∈P,sc.names.lookup x=some .local∨sc.names.lookup x=some .cell
 nofree: ∀y∈sc.names,y.2≠ .free
theorem ziT {kindOf:Str->Option NameKind}{x:Str} : ∀{binds:List (Str×ad)} {m:Str->Option ad},(∀v,(x,v)∉binds)->bindL kindOf binds m x=m x
 | [],_,_=>rfl
 | (n,v)::r,m,h=>by
  unfold bindL;rw[ziT λw hw=>h w (bc _ hw)]
  split
  ·have:x≠n:=by rintro rfl;exact h v ax
   simp[this]
  ·rfl
theorem ziR {kindOf:Str->Option NameKind}{x:Str} : ∀{binds:List (Str×ad)} {m:Str->Option ad},(∀v,(x,v)∉binds)->bindC kindOf binds m x=m x
 | [],_,_=>rfl
 | (n,v)::r,m,h=>by
  unfold bindC;rw[ziR λw hw=>h w (bc _ hw)]
  split
  ·rfl
  ·have:x≠n:=by rintro rfl;exact h v ax
   simp[this]
theorem ziS {kindOf:Str->Option NameKind}{x:Str}{v:ad} : ∀{P:List Str} {vs:List ad} {i:Nat} {m:Str->Option ad},P.Nodup->P[i]?=some x->vs[i]?=some v->kindOf x=some .local->
  bindL kindOf (P.zip vs) m x=some v
 | [],_,_,_,_,h,_,_=>by simp at h
 | _::_,[],_,_,_,_,h,_=>by simp at h
 | p::P,w::vs,0,m,nd,h1,h2,hk=>by
  simp at h1 h2;subst h1;subst h2;show bindL kindOf ((p,w)::P.zip vs) m p=_;unfold bindL;rw[ziT λv hv=>(ik.mp nd).1 (kt hv).1,if_pos hk];simp
 | p::P,w::vs,i+1,m,nd,h1,h2,hk=>by
  show bindL kindOf ((p,w)::P.zip vs) m x=_;unfold bindL;exact ziS (i:=i) (ik.mp nd).2 (by simpa using h1) (by simpa using h2) hk
theorem ziQ {kindOf:Str->Option NameKind}{x:Str}{v:ad} : ∀{P:List Str} {vs:List ad} {i:Nat} {m:Str->Option ad},P.Nodup->P[i]?=some x->vs[i]?=some v->kindOf x≠some .local->
  bindC kindOf (P.zip vs) m x=some v
 | [],_,_,_,_,h,_,_=>by simp at h
 | _::_,[],_,_,_,_,h,_=>by simp at h
 | p::P,w::vs,0,m,nd,h1,h2,hk=>by
  simp at h1 h2;subst h1;subst h2;show bindC kindOf ((p,w)::P.zip vs) m p=_;unfold bindC;rw[ziR λv hv=>(ik.mp nd).1 (kt hv).1,if_neg hk];simp
 | p::P,w::vs,i+1,m,nd,h1,h2,hk=>by
  show bindC kindOf ((p,w)::P.zip vs) m x=_;unfold bindC;exact ziQ (i:=i) (ik.mp nd).2 (by simpa using h1) (by simpa using h2) hk
def start (N:List Str)(vs:List V):St:=vs.map some++List.replicate (N.length - vs.length) none
def qQ (CX:tY)(P:br)(w:bz)(K:Frag)(mg:Str->Option ad)(base:cf)(N:List Str)(qual:Str)(scope:kb)(f:aa)(cd:ad)(A:ci)(outer:List lc)(s:ag)(H:Hp)(E:XK):Cx where
 prog:=P
 w:=w
 K:=K
 mg:=mg
 base:=base
 A:=A.deeper (envOfC qual scope s.heap.objs.size f cd)
 N:=N
 s₀:=s
 H₀:=H
 env:=envOfC qual scope s.heap.objs.size f cd
 outer:=outer
 stack:=envOfC qual scope s.heap.objs.size f cd::outer
 ex:= []
 calm:=true
 fn:=λ_=>true
 pn:= []
 xe:=λe s'=>av (bb P w) (A.deeper (envOfC qual scope s.heap.objs.size f cd)) (leaving (envOfC qual scope s.heap.objs.size f cd) e) (λ_ s''=>CX outer H s E e s'') (λe' s''=>CX outer H s E e' s'') s'
theorem zjg {sc:kb}{n:Nat}{x:Str}(h:sc.names.lookup x=some .cell): ∃c,(cellsFrom n sc.names []).lookup x=some c:=by
 have q:=ul sc.names n [] (.inl h);exact rq.mp q
theorem zma {CX:tY}{P:br}{w:bz}{K:Frag}{mg:Str->Option ad}{base:cf}{N ps:List Str}{qual:Str}{scope:kb}{f:aa}{cd:ad}{A:ci}{outer:List lc}{s s1:ag}{H:Hp}{E:XK}{us:List ad}{vs:List V}
  (S:yQ N ps scope) (hd:A.handled=none) (e0:l8 P w K mg base A outer s H) (hl:vs.length=ps.length) (r:zR vs us)
  (x:InCallC s s.heap.objs.size (bindL (envOfC qual scope s.heap.objs.size f cd).kindOf (ps.zip us) λ_=>none) (cellsFrom 5#3 scope.names []) (bindC (envOfC qual scope s.heap.objs.size f cd).kindOf (ps.zip us) λ_=>none) s1):
  z9 (qQ CX P w K mg base N qual scope f cd A outer s H E) [] (start N vs) H s1:=by
 have yi:ps.length<=N.length:=by have:=congrArg List.length S.pre;rw[fj]at this;grobner
 obtain⟨h1,tk,rfl,hk⟩:=x.done;have noA: ∀b:aa,b∉(qQ CX P w K mg base N qual scope f cd A outer s H E).ex:=λb z=>absurd (show b∈([]:List aa)from z) 3#0;refine⟨⟨e0.mod,S.kind,rfl,rfl,aq _,λy z c h1 h2=> ?_,λy hy=> ?_,λy c _ h=> ?_,λ_=>hd,Around.frames_deeper e0.frames,.inr ⟨rfl,rfl⟩,λb z=>absurd z (noA b),e0.bs,e0.bsz,λb _ _=>noA b,λb z=>absurd z (noA b),e0.funs,e0.frf⟩,
  rfl,e0.bare,Un.kept hk,⟨_,x.toInCall.ns,λi y v h1 h2 h3=> ?_⟩,λy c h=>⟨_,x.cell y c h⟩,e0.hok.fresh (aq _),λy c h=> ?_,λp hp=>absurd (show p∈([]:List 9#3)from hp) 3#0,e0.hok.kept hk,?_⟩
 ·exact name_of_addr x.apart (gz h1) (gz h2)
 ·have hy:scope.names.lookup y=some .cell∨scope.names.lookup y=some .free:=hy
  rcases hy with hy | hy
  ·exact zjg hy
  ·exact absurd rfl (S.nofree _ (gz hy))
 ·exact ke (x.above y c (gz h))
 ·have hi:i < vs.length:=by
   unfold start at h2;by_cases hi:i < vs.length
   ·exact hi
   ·rw[dg (by simpa using hi)]at h2
    rw[ko]at h2
    split at h2 <;> cases h2
  have ha:vs[i]?=some v:=by
   unfold start at h2;rw[cn (by simpa using hi),dv]at h2;cases e:vs[i]? with
   | none=>rw[e]at h2;cases h2
   | some a=>rw[e]at h2;cases h2;rfl
  obtain⟨u,hu,rv⟩:=r.get ha;have hp:ps[i]?=some y:=by
   rw[<- S.pre,ib 0#0];exact h1
  have ndP:ps.Nodup:=by rw[<- S.pre];exact S.nd.sublist (qt _ _)
  refine⟨u,rv,?_⟩;rcases S.par y (bf hp)with k | k
  ·exact .inl ⟨k,ziS ndP hp hu k⟩
  ·obtain⟨c,e⟩:=zjg (n:=s.heap.objs.size+1) k
   refine .inr ⟨.inl k,c,e,?_⟩;have q:=x.cell y c e;rw[ziQ ndP hp hu (by show scope.names.lookup y≠_;rw[k];decide)]at q;exact q
 ·exact e0.hok.fresh (ke (x.above y c (gz h)))
 ·unfold start
  show _=N.length;rw[af,ah,iw];grobner
theorem zsB {CX:tY}{P:br}{w:bz}{K:Frag}{mg:Str->Option ad}{base:cf}{k:Nat}{f:aa}{name qual:Str}{params:Arguments}{body:List bw}{scope:kb}{dV kV doc pm xw ct oc:ad}{an od:Option aa}
  {yw:Array (Option ad)} {N ps:List Str} {sp:Sp} (lk:K.lookup f=some ⟨oc,od,.func 8#6,yw⟩) (hcd:codeIn K xw qual=true) (S:yQ N ps scope)
  (len: ∀vs H Q E,sp vs H Q E->vs.length=ps.length)
  (hbody: ∀(A:ci) (outer:List lc) (s:ag) (H:Hp) (vs:List V) (Q:VK) (E:XK),zH k (A.deeper (envOfC qual scope s.heap.objs.size f xw))->sp vs H Q E->
   ∃t,xI 6#4 body t/\t {nx:=λ_ H'=>Q .non H',rt:=Q} (start N vs) H):
  yK P w K mg base CX (k+1) f 8#6 ps sp:=by
 refine⟨len,λA outer s H args us vs Q E hr e0 hb r yz=> ?_⟩;have hl:=len _ _ _ _ yz;have KX:K.In s.heap:=e0.mod.kin.keeps λb o e=>(e0.bs b o e).1;have lim:s.heap.NoLimit:=e0.mod.nolimit.keeps λb o e=>(e0.bs b o e).1;have hkind: ∀y∈ps.zip us,scope.names.lookup y.1=some .local∨(scope.names.lookup y.1=some .cell/\((cellsFrom 5#3 scope.names []).lookup y.1).isSome=true):=λ⟨n,v⟩ hy=>by
  rcases S.par n (kt hy).1 with q | q
  ·exact .inl q
  ·exact .inr ⟨q,ul _ _ _ (.inl q)⟩
 refine um hr.depth (KX _ _ lk) rfl S.co S.gen rfl (codeRec_of KX hcd) (hb _ _ _ _ ?_);refine qj S.kind hkind λenv he s1 x=> ?_;subst he;refine⟨lim.keeps x.toInCall.keep,codeAny_func ?_⟩;obtain⟨t,ht,hq⟩:=hbody A outer s H vs Q E (hr.deeper _) yz;have I:z9 6#4 [] (start N vs) H s1:=zma S hr.hd e0 hl r x;refine gu (ht [] s1 (start N vs) H _ I hq) (λfl s' hs=> ?_) λe s' hs=>hs;have fin: ∀{σ':St} {H':Hp} {v:V} {u:ad},z9 6#4 [] σ' H' s'->y4 v u->Q v H'->CE outer P w H s Q u s':=
  λ{σ' H' v u} J rv q=>⟨v,H',J.os,J.bare,J.base,J.hok,rv,q⟩
 cases fl with
 | ret u=>
  obtain⟨v,σ',H',J,rv,q⟩:=hs;exact fin J rv q
 | next=>
  obtain⟨σ',H',J,q⟩:=hs;exact fin (v:=V.non) (u:=Value.none) J rfl q
 | brk=>
  obtain⟨_,_,_,q⟩:=hs;exact False.elim q
 | cont=>
  obtain⟨_,_,_,q⟩:=hs;exact False.elim q
section
variable {X:Cx} {x:Str} {p pos:di} {e:Expr} {es:List Expr} {t:TA} {id T:String} {r:List V->Hp->VK->Prop}
def tCB (r:List V->Hp->VK->Prop)(t:TA):TE:=λσ H Q=>t σ H λvs H1=>r vs H1 Q
theorem zn7 (hc:vF X (.builtin id) r)(hg:Gl X x)(hm:X.mg x=none)(hv:bootBuiltins x=some (.builtin id))(ha:PA X (e::es) t)(hn:x≠ "__name__" :=by decide)(hdb:4#4=false:=by decide)
  (he:starEach (e::es) X.env=8#2::starEach es X.env:=by rfl) (yi:(backTo pos 3#3).any (·.1)=false:=by rfl):PE X 4#3 (tCB r t):=by
 constructor;intro mt s σ H Q I h;refine gw (lT I hg hm hv ?_ hn hdb);exact PyProof.Rows.callWith_builtin1 (zY (ha pos mt s σ H _ I h) λus s1 ⟨vs,H1,I1,r1,q1⟩=>hc mt s1 σ H1 vs us Q I1 r1 q1) he yi
theorem zn8 (hc:vF X (.type T) r)(hg:Gl X x)(hm:X.mg x=none)(hv:bootBuiltins x=some (.type T))(ha:PA X (e::es) t)(hn:x≠ "__name__" :=by decide)(hdb:4#4=false:=by decide)
  (he:starEach (e::es) X.env=8#2::starEach es X.env:=by rfl) (yi:(backTo pos 3#3).any (·.1)=false:=by rfl):PE X 4#3 (tCB r t):=by
 constructor;intro mt s σ H Q I h;refine gw (lT I hg hm hv ?_ hn hdb);exact callWith_type1 (zY (ha pos mt s σ H _ I h) λus s1 ⟨vs,H1,I1,r1,q1⟩=>hc mt s1 σ H1 vs us Q I1 r1 q1) he yi
end
end L2
namespace HT
open PySem PyProof.Rows
section
variable {prog:br} {w:bz} {A:ci} {E:ad->ag->Prop} {s:ag}
theorem cat_tup {t b:aa}{vs ws:List ad}{Q:ad->ag->Prop}(ht:IsTup s.heap t vs.toArray)(hb:IsTup s.heap b ws.toArray)(hv:vs≠ [])
  (h1:ws= []->Q (.ref t) s) (h2:ws≠ []->Q 6#3 {s with heap:=s.heap.push {cls:= .type 22#1,data:= .seq (vs++ws).toArray}})
  (hsz:vs.length+ws.length<=am):av 6#2 A (binaryOp .Add (.ref t) (.ref b)) Q E s:=by
 obtain⟨⟨cls,dd,data,sl⟩,ho,hc,n,hd⟩:=id ht;obtain⟨⟨cls2,dd2,data2,sl2⟩,ho2,hc2,n2,hd2⟩:=id hb;simp only at hc hd hc2 hd2;subst hc hd hc2 hd2;have e:vs.toArray++ws.toArray=(vs++ws).toArray:=3#0
 by_cases hw:ws= []
 ·exact vw ⟨_,ho,rfl⟩ ⟨_,ho2,rfl⟩ rz ve my mm (mf _ _)
   (tuple_addW1 t b vs.toArray ws.toArray n n2 dd dd2 sl sl2 (by simpa using hv) (by simp[hw])) ⟨ho,ho2,h1 hw⟩
 ·refine vw ⟨_,ho,rfl⟩ ⟨_,ho2,rfl⟩ rz ve my mm (mf _ _)
   (tuple_addW2 t b vs.toArray ws.toArray n n2 dd dd2 sl sl2 (by simpa using hv) (by simpa using hw) (by rw[bj,bj];exact hsz)) ⟨ho,ho2,?_⟩
  rw[e];exact h2 hw
def sIx (n d:Nat):Option Int->Nat
 | none=>d
 | some v=>if v < 0 then(v+(n:Int)).toNat else min v.toNat n
theorem zya (n d:Nat)(hd:d<=n)(o:Option Int):sIx n d o<=n:=by
 cases o with
 | none=>exact hd
 | some v=>
  show(if v < 0 then(v+(n:Int)).toNat else min v.toNat n)<=n;by_cases hv:v < 0
  ·rw[if_pos hv];grobner
  ·rw[if_neg hv];exact Nat.min_le_right _ _
theorem zjm (v:Int)(n d:Nat):(if v < 0 then max (v+(n:Int)) 0 else min v (n:Int))=((sIx n d (some v):Nat):Int):=by
 show(if v < 0 then max (v+(n:Int)) 0 else min v (n:Int))=(((if v < 0 then(v+(n:Int)).toNat else min v.toNat n):Nat):Int);by_cases hv:v < 0
 ·simp only[if_pos hv];grobner
 ·simp only[if_neg hv];grobner
theorem zrd (lo hi:Option Int)(n:Nat):Builtin.Slice.sliceAdjust lo hi 1 (n:Int)=(((sIx n 0 lo:Nat):Int),((sIx n n hi:Nat):Int)):=by
 have h1: ¬ ((1:Int) < 0):=0#0
 unfold Builtin.Slice.sliceAdjust;simp only[h1,if_false];refine Prod.ext ?_ ?_
 ·cases lo with
  | none=>rfl
  | some v=>exact zjm v n 0
 ·cases hi with
  | none=>rfl
  | some v=>exact zjm v n n
theorem zwG (i j:Nat):Builtin.Slice.slicePlaces (i:Int) (j:Int) 1=j - i:=by
 unfold Builtin.Slice.slicePlaces;have h1:(1:Int) > 0:=0#0
 simp only[h1,if_true,Int.ediv_one]
 split <;> grobner
theorem zoF {v:ad}{o:Option Int}{Q:Option Int->ag->Prop}(p:IsPart v o)(h:Q o s):av 6#2 A (Builtin.Slice.slicePartIndex v) Q E s:=by
 cases p with
 | none=>exact slicePart_none h
 | int i t=>exact slicePart_int h
theorem sliceApplied_gen {sl:aa}{vl vu:ad}{lo hi:Option Int}{n:Nat}{Q:Int×Int×Nat->ag->Prop}(hs:s.heap.IsSliceOf sl vl vu .none)(pl:IsPart vl lo)(pu:IsPart vu hi)
  (h:Q (((sIx n 0 lo:Nat):Int),1,sIx n n hi - sIx n 0 lo) s):av 6#2 A (Builtin.Slice.sliceApplied (.ref sl) (pure (n:Int))) Q E s:=by
 obtain⟨os,hos,hcs,hds⟩:=id hs;unfold Builtin.Slice.sliceApplied Builtin.Slice.sliceFields;refine ac (ac (dj hos hds (x:=vl) rfl (ac (dj hos hds (x:=vu) rfl (ac (dj hos hds (x:= .none) rfl (al ?_)))))));refine ac (slicePart_none ?_);show av _ _ (if((1:Int)==0)=true then _ else _) _ _ s;rw[if_neg 2#0];refine ac (zoF pl (ac (zoF pu (ac (al ?_)))));show av _ _ (match Builtin.Slice.sliceAdjust lo hi 1 (n:Int)with | (lo,hi)=>pure (lo,(1:Int),Builtin.Slice.slicePlaces lo hi 1)) _ _ s;rw[zrd lo hi n];show av _ _ (pure (((sIx n 0 lo:Nat):Int),(1:Int),Builtin.Slice.slicePlaces ((sIx n 0 lo:Nat):Int) ((sIx n n hi:Nat):Int) 1)) _ _ s;rw[zwG];exact al h
theorem zwB (xs:Array ad)(i k:Nat):((List.range k).filterMap λ(m:Nat)=>xs[((i:Int)+(m:Int) * 1).toNat]?).toArray=((xs.toList.drop i).take k).toArray:=by
 have e:(λ(m:Nat)=>xs[((i:Int)+(m:Int) * 1).toNat]?)=λm=>xs[i+m]?:=by
  funext m
  have:((i:Int)+(m:Int) * 1).toNat=i+m:=0#0
  rw[this]
 rw[e];have:=pick_run xs i k;rw[List.filterMap_map]at this;have e2:((λx=>xs[x]?) ∘ λx=>i+x)=λm=>xs[i+m]?:=rfl;rw[e2]at this;rw[this]
theorem getItem_tuple_cut {t sl:aa}{items:Array ad}{vl vu:ad}{lo hi:Option Int}{Q:ad->ag->Prop}(ht:IsTup s.heap t items)(hs:s.heap.IsSliceOf sl vl vu .none)(pl:IsPart vl lo)(pu:IsPart vu hi)
  (hw: ¬ (sIx items.size 0 lo=0/\sIx items.size items.size hi=items.size))
  (h:Q 6#3 {s with heap:=s.heap.push {cls:= .type 22#1,data:= .seq ((items.toList.drop (sIx items.size 0 lo)).take 6#5).toArray}})
  (hsz:items.size<=am):av 6#2 A (getItem (.ref t) (.ref sl)) Q E s:=by
 have htake:sizeOk (.seq ((items.toList.drop (sIx items.size 0 lo)).take 6#5).toArray):=by
  show((items.toList.drop (sIx items.size 0 lo)).take 6#5).toArray.size<=am;rw[bj,fj,ic,fh];grobner
 have hj:sIx items.size items.size hi<=items.size:=zya _ _ (aq _) hi;obtain⟨os,hos,hcs,hds⟩:=id hs;have hTs:s.TypeIs (.ref sl) "slice" :=⟨os,hos,hcs⟩;unfold getItem
 try with_reducible refine ga ?_
 first | refine ac (al ?_) | skip
 refine ac (wpAny_sequenceKey ht.typeIs 2#0 ?_);refine ac (fc (name:=Str.ofString "__getitem__") ht.typeIs gh
  (gb gh ht.typeIs vh ?_ (args_tuple_getitem _ _)))
 show av _ _ (Builtin.Tuple.tupleItemsOf (.ref t) >>= _) _ _ s;refine ac (tupleItemsOf_ ht ?_);refine ac (ld hTs ?_);rw[if_pos 2#0];refine ac (sliceApplied_gen hs pl pu ?_);have hno: ¬ ((((sIx items.size 0 lo:Nat):Int)==0&&(1:Int)==1&&6#5==items.size)=true):=by
  intro q;rw[bv,bv]at q;have q1:((sIx items.size 0 lo:Nat):Int)=0:=eq_of_beq q.1.1;have q2:sIx items.size items.size hi - sIx items.size 0 lo=items.size:=eq_of_beq q.2;exact hw ⟨0#0,0#0⟩
 show av _ _ (if(((sIx items.size 0 lo:Nat):Int)==0&&(1:Int)==1&&6#5==items.size)=true then _ else _) _ _ s;rw[if_neg hno,zwB]
 first
  | exact ac (m:=Builtin.Tuple.tupleExact _) (dw (al ⟨_,rfl,al h⟩) htake)
  | exact ac (m:=Builtin.Tuple.tupleExact _) (dw (ac (al (al ⟨_,rfl,al h⟩))) htake)
  | exact ac (ac (m:=Builtin.Tuple.tupleExact _) (dw (al (al ⟨_,rfl,al h⟩)) htake))
  | exact ac (ac (m:=Builtin.Tuple.tupleExact _) (dw (al ⟨_,rfl,al h⟩) htake))
end
end HT
namespace L2
open PySem PySem.Spec PyProof.Rows
abbrev TO:=St->Hp->(Option Int->Hp->Prop)->Prop
structure PO (X:Cx)(e:Option Expr)(t:TO):Prop where
 run:
  ∀(mt:List 9#3) (s:ag) (σ:St) (H:Hp) (Q:Option Int->Hp->Prop),z9 X mt σ H s->t σ H Q->
   av 3#2 X.A (evalPart e X.env) (λu s'=> ∃o H',z9 X mt σ H' s'/\IsPart u o/\Q o H') X.xe s
instance {X:Cx} {e:Option Expr} {t:TO} :CoeFun (PO X e t) λ_=>
 ∀(mt:List 9#3) (s:ag) (σ:St) (H:Hp) (Q:Option Int->Hp->Prop),z9 X mt σ H s->t σ H Q->
  av 3#2 X.A (evalPart e X.env) (λu s'=> ∃o H',z9 X mt σ H' s'/\IsPart u o/\Q o H') X.xe s
  :=⟨PO.run⟩
def zzs:TO:=λ_ H Q=>Q none H
def zzt (t:TE):TO:=λσ H Q=>t σ H λx H1=> ∃i,x= .int i/\Q (some i) H1
section
variable {X:Cx} {e:Expr} {te:TE} {lo hi:Option Expr} {tl th:TO} {pos p2:di}
theorem zwH:PO X none zzs:=by
 constructor;intro mt s σ H Q I h;rw[evalPart_none];exact al ⟨none,H,I,.none,h⟩
theorem zwI (h:PE X e te):PO X (some e) (zzt te):=by
 constructor;intro mt s σ H Q I hw;rw[evalPart_some];refine zY (h mt s σ H _ I hw) λu s1 ⟨x,H1,I1,r1,q1⟩=> ?_;obtain⟨i,rfl,q⟩:=q1;obtain⟨t,rfl⟩:=r1;exact⟨some i,H1,I1,.int i t,q⟩
def fF (X:Cx)(r:V->Option Int->Option Int->Hp->VK->Prop):Prop:=
 ∀(mt:List 9#3) (s:ag) (σ:St) (H:Hp) (x:V) (v vl vu:ad) (lo hi:Option Int) (sl:aa) (Q:VK),z9 X mt σ H s->y4 x v->s.heap.IsSliceOf sl vl vu .none->IsPart vl lo->IsPart vu hi->r x lo hi H Q->
  ∃T id,typeLookup (.type T) "__getitem__" =pure (some (.builtin id))/\s.TypeIs v T/\av 3#2 X.A (getItem v (.ref sl)) 2#5 X.xe s
def tSl (r:V->Option Int->Option Int->Hp->VK->Prop)(te:TE)(tl th:TO):TE:=λσ H Q=>te σ H λx H1=>tl σ H1 λl H2=>th σ H2 λu H3=>r x l u H3 Q
theorem zwx {r:V->Option Int->Option Int->Hp->VK->Prop}(hr:fF X r)(he:PE X e te)(hl:PO X lo tl)(hu:PO X hi th):PE X (.Subscript e (.Slice lo hi none p2) pos) (tSl r te tl th):=by
 constructor;intro mt s σ H Q I h;refine Subscript_ (zY (he mt s σ H _ I h) λv s1 ⟨x,H1,I1,r1,q1⟩=> ?_);refine wpAny_Slice (zY (hl mt s1 σ H1 _ I1 q1) λvl s2 ⟨l,H2,I2,pl,q2⟩=>zY (hu mt s2 σ H2 _ I2 q2) λvu s3 ⟨u,H3,I3,pu,q3⟩=> ?_);rw[evalPart_none];refine al ?_;have I4:z9 X mt σ H3 {s3 with heap:=s3.heap.push {cls:= .type "slice",data:= .fields #[vl,vu,.none]}} :=I3.kept (t':=s3.toks) λb ob q=>ak _ q;obtain⟨T,id,hT,ht,hg⟩:=hr mt {s3 with heap:=s3.heap.push {cls:= .type "slice",data:= .fields #[vl,vu,.none]}} σ H3 x v vl vu l u s3.heap.objs.size Q I4 r1 (Heap.IsSliceOf.new ..) pl pu q3;show av 3#2 X.A (subscriptTail e (.Slice lo hi none p2) v (.ref s3.heap.objs.size)) 2#5 X.xe {s3 with heap:=s3.heap.push {cls:= .type "slice",data:= .fields #[vl,vu,.none]}};exact tail_any (ops:= [.ref s3.heap.objs.size,v]) ht hT hg (by with_unfolding_all rfl)
def lM (xs:List V)(lo hi:Option Int):List V:=(xs.drop (HT.sIx xs.length 0 lo)).take 2#7
theorem a8 (xs:List V)(lo hi:Option Int):(lM xs lo hi).length<=xs.length:=by
 unfold lM;rw[fj,ic];grobner
def zxK (K:Frag):V->Option Int->Option Int->Hp->VK->Prop:=λx lo hi H Q=> ∃a xs,x= .ref a/\xV K H a xs/\
 ¬ (HT.sIx xs.length 0 lo=0/\HT.sIx xs.length xs.length hi=xs.length)/\∀p,H p=none->Q (.ref p) (zN H p (.tup (lM xs lo hi)))
theorem zy6:fF X (zxK X.K):=by
 intro mt s σ H x v vl vu lo hi sl Q I rx hs pl pu h;obtain⟨a,xs,rfl,hx,hw,q⟩:=h;cases rx;obtain⟨xn,r,ht,hz⟩:=I.tuple hx;have xx:xn.toArray.size=xs.length:=by rw[bj];exact r.length.symm
 refine⟨22#1,_,gh.lookup,ht.typeIs,?_⟩;refine HT.getItem_tuple_cut ht hs pl pu (by rw[xx];exact hw) ?_ (by rw[xx];exact hz);rw[xx];refine⟨.ref s.heap.objs.size,_,I.laid (t':=s.toks) (o:= .tup (lM xs lo hi)) (λb ob q=>ak _ q) (aq _) ?_,rfl,q _ (I.hok.fresh (aq _))⟩;exact⟨cb (a8 xs lo hi) hz,_,(r.drop (HT.sIx xs.length 0 lo)).take 2#7,oK.new _ _⟩
def zx4 (K:Frag):R2:=λx y H Q=> ∃a b xs ys,x= .ref a/\y= .ref b/\xV K H a xs/\xV K H b ys/\xs≠ []/\xs.length+ys.length<=am/\
 (ys= []->Q (.ref a) H)/\(ys≠ []->∀p,H p=none->Q (.ref p) (zN H p (.tup (xs++ys))))
theorem zR.nil_iff {xs:List V}{us:List ad}(r:zR xs us):us= []↔xs= []:=by
 cases r with
 | nil=>simp
 | cons _ _=>simp
theorem zvE:yW X (binaryOp .Add) (zx4 X.K):=by
 intro mt s σ H x y v u Q I rx ry h;obtain⟨a,b,xs,ys,rfl,rfl,ha,hb,hx,hz,q1,q2⟩:=h;cases rx;cases ry;obtain⟨xn,r1,p1,_⟩:=I.tuple ha;obtain⟨xu,r2,p2,_⟩:=I.tuple hb;refine HT.cat_tup p1 p2 (λz=>hx (r1.nil_iff.mp z)) (λz=>⟨.ref a,H,I,rfl,q1 (r2.nil_iff.mp z)⟩) (λz=> ?_) (by rw[<- r1.length,<- r2.length];exact hz);refine⟨.ref s.heap.objs.size,_,I.laid (t':=s.toks) (o:= .tup (xs++ys)) (λb ob q=>ak _ q) (aq _) ?_,rfl,q2 (λw=>z (r2.nil_iff.mpr w)) _ (I.hok.fresh (aq _))⟩;exact⟨by rw[af];exact hz,_,r1.append r2,oK.new _ _⟩
end
def uH (n:Nat)(i:Int):Option Nat:=if 0<=i then(if i < n then some i.toNat else none)else if -(n:Int)<=i then some (i+n).toNat else none
def atI {α:Type}(xs:List α)(i:Int):Option α:=(uH xs.length i).bind λj=>xs[j]?
theorem zmf {n:Nat}{i:Int}{j:Nat}(h:uH n i=some j):seqIndex? i n=some j/\j < n/\ -(n:Int)<=i/\i < n:=by
 unfold uH at h;by_cases h0:0<=i
 ·rw[if_pos h0]at h
  by_cases h1:i < n
  ·rw[if_pos h1]at h
   have e:i.toNat=j:=ca h;exact⟨by rw[wq h0 h1,e],0#0,0#0,h1⟩
  ·rw[if_neg h1]at h;cases h
 ·rw[if_neg h0]at h
  by_cases h1: -(n:Int)<=i
  ·rw[if_pos h1]at h
   have e:(i+n).toNat=j:=ca h;exact⟨by rw[vx 0#0 h1,e],0#0,h1,0#0⟩
  ·rw[if_neg h1]at h;cases h
theorem zbG {α:Type}{xs:List α}{i:Int}{v:α}(h:atI xs i=some v): ∃j,seqIndex? i xs.length=some j/\xs[j]?=some v/\j < xs.length/\ -(xs.length:Int)<=i/\i < xs.length:=by
 unfold atI at h;cases e:uH xs.length i with
 | none=>rw[e]at h;cases h
 | some j=>
  rw[e]at h;obtain⟨h1,h2,h3,h4⟩:=zmf e;exact⟨j,h1,h,h2,h3,h4⟩
theorem qM {α:Type}{xs:List α}{j:Nat}{v:α}(h:xs[j]?=some v):atI xs (j:Int)=some v:=by
 have hj:j < xs.length:=(ba.mp h).1;have e:uH xs.length (j:Int)=some j:=by
  unfold uH;rw[if_pos 0#0,if_pos 0#0];simp
 unfold atI;rw[e];exact h
def ziD (b:Expr):Prop:= ∀o i,subscripted b false o i=operate [o,i] (getItem o i)
def qG (X:Cx)(r:R2):Prop:=
 ∀(value slice:Expr) (mt:List 9#3) (s:ag) (σ:St) (H:Hp) (x y:V) (v u:ad) (Q:VK),z9 X mt σ H s->y4 x v->y4 y u->r x y H Q->
  subscripted slice false v u=operate [v,u] (getItem v u)->av 3#2 X.A (subscriptTail value slice v u) 2#5 X.xe s
def sW (X:Cx)(id:String)(r:V->List V->Hp->VK->Prop):Prop:=
 ∀(mt:List 9#3) (s:ag) (σ:St) (H:Hp) (x:V) (xs:List V) (v:ad) (us:List ad) (Q:VK),z9 X mt σ H s->y4 x v->zR xs us->r x xs H Q->
  av 3#2 X.A (call (.builtin id) (v::us)) 2#5 X.xe s
section
variable {X:Cx} {a b:Expr} {ta tb:TE} {pos:di}
theorem qG.or {r r':R2}(h:qG X r)(h':qG X r'):qG X (λx y H Q=>r x y H Q∨r' x y H Q):=by
 intro value slice mt s σ H x y v u Q I rx ry q hs;rcases q with q | q
 ·exact h value slice mt s σ H x y v u Q I rx ry q hs
 ·exact h' value slice mt s σ H x y v u Q I rx ry q hs
theorem zgs {r:R2}(hr:qG X r)(ha:PE X a ta)(hb:PE X b tb)(hs:ziD b):PE X (.Subscript a b pos) (c6 r ta tb):=by
 constructor;intro mt s σ H Q I h;exact Subscript_ (zbM ha hb I h λv u s2 x y H2 I2 rx ry q=>hr a b mt s2 σ H2 x y v u Q I2 rx ry q (hs _ _))
def zar (K:Frag):R2:=λx y H Q=> ∃p xs i v,x= .ref p/\y= .int i/\xA K H p xs/\atI xs i=some v/\Q v H
def zor (K:Frag):R2:=λx y H Q=> ∃p xs i v,x= .ref p/\y= .int i/\xV K H p xs/\atI xs i=some v/\Q v H
def zoq:R2:=λx y H Q=> ∃z i c,x= .str z/\y= .int i/\z.length<=am/\atI z.cps.toList i=some c/\Q (.str ⟨#[c]⟩) H
theorem zfN:qG X (zar X.K):=by
 intro value slice mt s σ H x y v u Q I rx ry h hs;obtain⟨p,xs,i,z,rfl,rfl,hq,he,q⟩:=h;cases rx;obtain⟨t,rfl⟩:=ry;obtain⟨xn,r,pl,hz⟩:=I.list hq;obtain⟨j,h1,h2,h3,h4,h5⟩:=zbG he;obtain⟨w,ew,rw'⟩:=r.get h2;have hl:=r.length;have hn:=g7;have fin:EP X mt σ Q w s:=⟨z,H,I,rw',q⟩;by_cases h0:0<=i
 ·have hj:i.toNat=j:=by
   rw[wq h0 h5]at h1;exact ca h1
  exact item_listR pl.isList h0 0#0 (by rw[hj];simpa using ew) fin hs
 ·have hj:(i+(xn.toArray.size:Int)).toNat=j:=by
   rw[vx 0#0 h4]at h1;rw[bj,<- hl];exact ca h1
  exact ua (x:=w) pl.isList.typeIs slot_list_getitem.lookup
   (wpAny_getItem_list_neg (Q:=λr s'=>r=w/\EP X mt σ Q r s') pl.isList 0#0 (by rw[bj] <;> grobner) 0#0 (by rw[hj];simpa using ew) ⟨rfl,fin⟩) hs
theorem zmj:qG X (zor X.K):=by
 intro value slice mt s σ H x y v u Q I rx ry h hs;obtain⟨p,xs,i,z,rfl,rfl,hq,he,q⟩:=h;cases rx;obtain⟨t,rfl⟩:=ry;obtain⟨xn,r,pl,hz⟩:=I.tuple hq;obtain⟨j,h1,h2,h3,h4,h5⟩:=zbG he;obtain⟨w,ew,rw'⟩:=r.get h2;have hl:=r.length;have hn:=g7;have fin:EP X mt σ Q w s:=⟨z,H,I,rw',q⟩;exact ua (x:=w) pl.typeIs slot_tuple_getitem.lookup
  (getItem_tuple (j:=j) (Q:=λr s'=>r=w/\EP X mt σ Q r s') pl 0#0 0#0 (by rw[bj,<- hl];exact h1) (by simpa using ew) ⟨rfl,fin⟩) hs
theorem zmi:qG X zoq:=by
 intro value slice mt s σ H x y v u Q I rx ry h hs;obtain⟨z,i,c,rfl,rfl,hz,he,q⟩:=h;obtain⟨t,rfl⟩:=rx;obtain⟨t',rfl⟩:=ry;obtain⟨j,h1,h2,h3,h4,h5⟩:=zbG he;have hl:z.cps.toList.length=z.length:=by simp[Str.length]
 rw[hl]at h1 h4 h5;have hn:=g7;exact tail_any (ni s z t) slot_str_getitem.lookup (getItem_str (c:=c) (by
  have e1:decide (i < -(2 ^ 63:Int))=false:=decide_eq_false 0#0;have e2:decide (i≥2 ^ 63)=false:=decide_eq_false 0#0;rw[e1,e2,iq]) (by rw[h1];simpa using h2) ⟨.str ⟨#[c]⟩,H,I.tok _,⟨_,rfl⟩,q⟩) hs
def rIx (K:Frag):R2:=λx y H Q=>zar K x y H Q∨zor K x y H Q∨zoq x y H Q
theorem zmh:qG X (rIx X.K):=zfN.or (zmj.or zmi)
theorem zun (xn:List ad)(n j:Nat)(u:ad):Obj.mapSeq (·.setIfInBounds j u) {cls:= .type 9#1,data:= .seq xn.toArray n} = {cls:= .type 9#1,data:= .seq (xn.set j u).toArray n} :=by
 simp[Obj.mapSeq]
theorem z9.lst {mt:List 9#3}{σ:St}{H:Hp}{s:ag}{p:aa}{xs:List V}(I:z9 X mt σ H s)(h:H p=some 2#4):
  ∃(xn:List ad) (n:Nat),zR xs xn/\s.heap.get? p=some {cls:= .type 9#1,data:= .seq xn.toArray n} /\xs.length<=am:=by
 obtain⟨z,xn,n,r,e⟩:=I.hok p _ h;exact⟨xn,n,r,e,z⟩
theorem z9.lstUpd {mt:List 9#3}{σ:St}{H:Hp}{s:ag}{p:aa}{xs ys:List V}{xn its':List ad}{n n':Nat}{f:aj->aj}(I:z9 X mt σ H s)(h:H p=some 2#4)
  (ho:s.heap.get? p=some {cls:= .type 9#1,data:= .seq xn.toArray n}) (hf:f {cls:= .type 9#1,data:= .seq xn.toArray n} = {cls:= .type 9#1,data:= .seq its'.toArray n'}) (r:zR ys its') (hz:ys.length<=am) (t:Nat):
  z9 X mt σ (zN H p (.lst ys)) {s with heap:=s.heap.update p f,toks:=t} :=by
 have e:(s.heap.update p f).get? p=some {cls:= .type 9#1,data:= .seq its'.toArray n'} :=by
  rw[ck f ho (by rw[hf] <;> rfl),hf]
 refine I.write (x:=p) (e:=p) (by rw[h];trivial) (.inl rfl) (λb u hb q=>(cm _ _ (dh hb)).trans q) ⟨_,e⟩ ?_;exact⟨hz,its',n',r,e⟩
def zxH:V->V->V->Hp->(Hp->Prop)->Prop:=λo i v H Q=> ∃p xs k j,o= .ref p/\i= .int k/\H p=some 2#4/\uH xs.length k=some j/\Q (zN H p (.lst (xs.set j v)))
theorem set_list:zb9 X zxH:=by
 intro mt s σ H o i v ov iv u Q I ro ri rv h;obtain⟨p,xs,k,j,rfl,rfl,hp,hj,q⟩:=h;cases ro;obtain⟨t,rfl⟩:=ri;obtain⟨xn,n,r,ho,hz⟩:=I.lst hp;obtain⟨h1,h2,h3,h4⟩:=zmf hj;have hl:=r.length;have hn:=g7;have I':z9 X mt σ (zN H p (.lst (xs.set j v))) {s with heap:=s.heap.update p (Obj.mapSeq (·.setIfInBounds j u))} :=
  I.lstUpd hp ho (zun xn n j u) (r.set rv j) (by rw[fq];exact hz) s.toks
 by_cases h0:0<=k
 ·have hk:k.toNat=j:=by
   rw[wq h0 h4]at h1;exact ca h1
  exact PySem.W.ki_setAt ho h0 0#0 (by rw[bj,<- hl];exact h4) (by rw[hk];exact⟨_,I',q⟩)
 ·have hk:(k+(xn.toArray.size:Int)).toNat=j:=by
   rw[vx 0#0 h3]at h1;rw[bj,<- hl];exact ca h1
  exact PySem.W.ki_setBack ho 0#0 (by rw[bj,<- hl];exact h3) 0#0 (by rw[hk];exact⟨_,I',q⟩)
theorem zy8 (lo hi:Option Int)(n:Nat):(sliceBounds lo hi none n).1=((HT.sIx n 0 lo:Nat):Int)/\(sliceBounds lo hi none n).2.1=((HT.sIx n n hi:Nat):Int)/\(sliceBounds lo hi none n).2.2=1:=by
 refine⟨?_,?_,rfl⟩
 ·cases lo with
  | none=>simp[sliceBounds,HT.sIx]
  | some i=>
   simp only[sliceBounds,HT.sIx,wv,show(1:Int) > 0 by decide,if_true];by_cases h:i < 0
   ·simp only[h,if_true] <;> grobner
   ·simp only[h,if_false] <;> grobner
 ·cases hi with
  | none=>simp[sliceBounds,HT.sIx]
  | some i=>
   simp only[sliceBounds,HT.sIx,wv,show(1:Int) > 0 by decide,if_true];by_cases h:i < 0
   ·simp only[h,if_true] <;> grobner
   ·simp only[h,if_false] <;> grobner
theorem zy7 (xn:List ad)(lo hi:Option Int):slicePick xn.toArray lo hi none=((xn.drop (HT.sIx xn.length 0 lo)).take (HT.sIx xn.length xn.length hi - HT.sIx xn.length 0 lo)).toArray:=by
 obtain⟨h1,h2,h3⟩:=zy8 lo hi xn.toArray.size;unfold slicePick;rw[h1,h2,h3];simp only[sliceRange_one,pick_run,bj] <;> rfl
def zxI (K:Frag):V->Option Int->Option Int->Hp->VK->Prop:=λx lo hi H Q=> ∃a xs,x= .ref a/\xA K H a xs/\∀p,H p=none->Q (.ref p) (zN H p (.lst (lM xs lo hi)))
theorem zy4:fF X (zxI X.K):=by
 intro mt s σ H x v vl vu lo hi sl Q I rx hs pl pu h;obtain⟨a,xs,rfl,hx,q⟩:=h;cases rx;obtain⟨xn,r,ht,hz⟩:=I.list hx;have xx:=r.length;refine⟨9#1,_,slot_list_getitem.lookup,ht.isList.typeIs,?_⟩;refine wpAny_getItem_list_slice ht.isList hs pl pu .none 3#0 ?_ (by rw[bj] <;> grobner);rw[zy7,<- xx];refine⟨.ref s.heap.objs.size,_,I.laid (t':=s.toks) (o:= .lst (lM xs lo hi)) (λb ob q=>ak _ q) (aq _) ?_,rfl,q _ (I.hok.fresh (aq _))⟩;exact⟨cb (a8 xs lo hi) hz,_,0,(r.drop (HT.sIx xs.length 0 lo)).take 2#7,be _ rfl⟩
def r9:V->Bool
 | .non=>true
 | .bl _=>true
 | .int _=>true
 | .str _=>true
 | _=>false
def r0:V->V->Bool
 | .non,.non=>true
 | .bl a,.bl b=>a==b
 | .bl a,.int b=>(if a then 1 else 0)==b
 | .int a,.bl b=>a==(if b then 1 else 0)
 | .int a,.int b=>a==b
 | .str a,.str b=>a==b
 | _,_=>false
theorem zj3 {A:ci}{s:ag}{y x:V}{u v:ad}(ry:y4 y u)(rx:y4 x v)(fy:r9 y=true)(fx:r9 x=true):SeqAt.EqAt A s u v (r0 y x):=by
 cases y with
 | non=>
  cases ry;cases x with
  | non=>cases rx;exact ly _
  | bl b=>cases rx;exact SeqAt.EqAt.none_bool b
  | int b=>obtain⟨t,rfl⟩:=rx;exact SeqAt.EqAt.none_int b t
  | str b=>obtain⟨t,rfl⟩:=rx;exact SeqAt.EqAt.none_str b t
  | _=>exact absurd (show false=true from fx) cr
 | bl a=>
  cases ry;cases x with
  | non=>cases rx;exact SeqAt.EqAt.bool_none a
  | bl b=>cases rx;exact SeqAt.EqAt.bool_bool a b
  | int b=>obtain⟨t,rfl⟩:=rx;exact SeqAt.EqAt.bool_int a b t
  | str b=>obtain⟨t,rfl⟩:=rx;exact SeqAt.EqAt.bool_str a b t
  | _=>exact absurd (show false=true from fx) cr
 | int a=>
  obtain⟨t',rfl⟩:=ry;cases x with
  | non=>cases rx;exact SeqAt.EqAt.int_none a t'
  | bl b=>cases rx;exact SeqAt.EqAt.int_bool a t' b
  | int b=>obtain⟨t,rfl⟩:=rx;exact SeqAt.EqAt.int_int a t' b t
  | str b=>obtain⟨t,rfl⟩:=rx;exact vn a t' b t
  | _=>exact absurd (show false=true from fx) cr
 | str a=>
  obtain⟨t',rfl⟩:=ry;cases x with
  | non=>cases rx;exact SeqAt.EqAt.str_none a t'
  | bl b=>cases rx;exact SeqAt.EqAt.str_bool a t' b
  | int b=>obtain⟨t,rfl⟩:=rx;exact vo a t' b t
  | str b=>obtain⟨t,rfl⟩:=rx;exact SeqAt.EqAt.str_str a t' b t
  | _=>exact absurd (show false=true from fx) cr
 | _=>exact absurd (show false=true from fy) cr
def mL (x:V)(u:ad):Bool:=match u with
 | .none=>r0 .non x
 | .bool b=>r0 (.bl b) x
 | .int i _=>r0 1#5 x
 | .str z _=>r0 (.str z) x
 | _=>false
theorem zj5 {x y:V}{u:ad}(r:y4 y u)(f:r9 y=true):mL x u=r0 y x:=by
 cases y with
 | non=>cases r;rfl
 | bl b=>cases r;rfl
 | int i=>obtain⟨t,rfl⟩:=r;rfl
 | str z=>obtain⟨t,rfl⟩:=r;rfl
 | _=>exact absurd (show false=true from f) cr
theorem zbF {x:V} : ∀{xs:List V} {us:List ad},zR xs us->xs.all r9=true->us.any (mL x)=xs.any λy=>r0 y x
 | _,_,.nil,_=>rfl
 | y::xs,u::us,.cons r t,f=>by
  rw[jg,bv]at f;rw[ir,ir,zj5 r f.1,zbF t f.2]
theorem zgd {A:ci}{s:ag}{x:V}{v:ad}(rx:y4 x v)(fx:r9 x=true): ∀{xs:List V} {us:List ad},zR xs us->xs.all r9=true->∀u∈us,SeqAt.EqAt A s u v (mL x u)
 | _,_,.nil,_=>λu hu=>by cases hu
 | y::xs,u::us,.cons r t,f=>λu' hu=>by
  rw[jg,bv]at f;rcases ar.mp hu with rfl | hu
  ·rw[zj5 r f.1];exact zj3 r rx f.1 fx
  ·exact zgd rx fx t f.2 u' hu
def iZ (x:V)(xs:List V):Bool:=xs.any λy=>r0 y x
def rIn (K:Frag)(neg:Bool):R2:=λx y H Q=> ∃p xs,y= .ref p/\(xA K H p xs∨xV K H p xs)/\r9 x=true/\xs.all r9=true/\Q (.bl (if neg then !iZ x xs else iZ x xs)) H
theorem zvI:yW X (compareOp .In) (rIn X.K false):=by
 intro mt s σ H x y v u Q I rx ry h;obtain⟨p,xs,rfl,hq,fx,fs,q⟩:=h;cases ry;rcases hq with hq | hq
 ·obtain⟨xn,r,pl,hz⟩:=I.list hq
  refine SeqAt.in_listAt (mL x) pl.isList (λw hw=>zgd rx fx r fs w (by simpa using hw)) ⟨.bl _,H,I,rfl,?_⟩;rw[show xn.toArray.any (mL x)=xn.any (mL x) by simp,zbF r fs];exact q
 ·obtain⟨xn,r,pl,hz⟩:=I.tuple hq
  refine SeqAt.in_tupleAt (mL x) pl (λw hw=>zgd rx fx r fs w (by simpa using hw)) ⟨.bl _,H,I,rfl,?_⟩;rw[show xn.toArray.any (mL x)=xn.any (mL x) by simp,zbF r fs];exact q
theorem zbR:vF X (.type 9#1) (λxs H Q=> ∃p ys,xs= [.ref p]/\(xA X.K H p ys∨xV X.K H p ys)/\∀l,H l=none->Q (.ref l) (zN H l (.lst ys))):=by
 intro mt s σ H xs us Q I r h;obtain⟨p,ys,rfl,hq,q⟩:=h;obtain⟨u,rfl,rx⟩:=pF r;cases rx;have fin: ∀(xn:List ad),zR ys xn->ys.length<=am->∀(h':cf) (c':Nat),(∀b o',s.heap.get? b=some o'->h'.get? b=some o')->
   h'.get? s.heap.objs.size=some {cls:= .type 9#1,dict:=none,data:= .seq xn.toArray c',slots:= #[]} ->EP X mt σ Q 6#3 {s with heap:=h'} :=λxn r' hz h' c' kp e=>
  ⟨.ref s.heap.objs.size,_,I.laid (t':=s.toks) kp (aq _) (show vS X.prog X.w _ h' _ (.lst ys)from⟨hz,xn,c',r',e⟩),rfl,q _ (I.hok.fresh (aq _))⟩
 rcases hq with hq | hq
 ·obtain⟨xn,r',pl,hz⟩:=I.list hq
  have xx:=r'.length;obtain⟨o,ho,hc,n,hd⟩:=pl.isList;exact call_list_seq p (.inl rfl) ho hc hd (λh' c' kp e=>fin xn r' hz h' c' kp e) (by simp only[bj] <;> grobner)
 ·obtain⟨xn,r',pl,hz⟩:=I.tuple hq
  have xx:=r'.length;obtain⟨o,ho,hc,n,hd⟩:=pl;exact call_list_seq p (.inr rfl) ho hc hd (λh' c' kp e=>fin xn r' hz h' c' kp e) (by simp only[bj] <;> grobner)
theorem zbS:vF X (.type 22#1) (λxs H Q=> ∃p ys,xs= [.ref p]/\((xA X.K H p ys/\∀l,H l=none->Q (.ref l) (zN H l (.tup ys)))∨(xV X.K H p ys/\Q (.ref p) H))):=by
 intro mt s σ H xs us Q I r h;obtain⟨p,ys,rfl,h⟩:=h;obtain⟨u,rfl,rx⟩:=pF r;cases rx;rcases h with⟨hq,q⟩ | ⟨hq,q⟩
 ·obtain⟨xn,r',pl,hz⟩:=I.list hq
  have xx:=r'.length;refine call_tuple_list pl.isList (λh' kp=> ?_) (by simp only[bj] <;> grobner);have I1:z9 X mt σ H {s with heap:=h'} :=I.kept (t':=s.toks) kp;have I2:z9 X mt σ (zN H h'.objs.size (.tup ys)) {s with heap:=h'.push {cls:= .type 22#1,data:= .seq xn.toArray}} :=
   I1.laid (t':=s.toks) (λb o e=>ak _ e) (aq _) (show vS X.prog X.w _ _ _ (.tup ys)from⟨hz,xn,r',oK.new _ _⟩)
  exact⟨.ref h'.objs.size,_,I2,rfl,q _ (I1.hok.fresh (aq _))⟩
 ·obtain⟨xn,r',pl,hz⟩:=I.tuple hq
  exact call_tuple_same pl ⟨.ref p,H,I,rfl,q⟩
def tyV (K:Frag)(T:String)(x:V)(H:Hp):Prop:=match x with
 | .str _=>T= "str"
 | .int _=>T= "int"
 | .ref p=>(T= 9#1 /\∃xs,xA K H p xs)∨(T= 22#1 /\∃o,K.lookup p=some o/\o.cls= .type 22#1 /\o.dict=none)∨
   (T= "dict" /\((∃kvs,H p=some (.dK kvs))∨∃kvs,H p=some (.dT kvs)))∨(T= "set" /\∃S n,H p=some (.set S n))
 | _=>False
theorem zh_ {mt:List 9#3}{σ:St}{H:Hp}{s:ag}{T:String}{x:V}{v:ad}(I:z9 X mt σ H s)(r:y4 x v)(ty:tyV X.K T x H):
  s.TypeIs v T/\∀a,v= .ref a->∃ob,s.heap.get? a=some ob/\ob.dict=none:=by
 cases x with
 | str z=>
  obtain⟨t,rfl⟩:=r;cases(show T= "str" from ty);exact⟨ni s z t,λ_ e=>nomatch e⟩
 | int i=>
  obtain⟨t,rfl⟩:=r;cases(show T= "int" from ty);exact⟨typeIs_int s i t,λ_ e=>nomatch e⟩
 | ref p=>
  cases r;rcases ty with⟨rfl,xs,hq⟩ | ⟨rfl,o,hk,hc,hd⟩ | ⟨rfl,hk⟩ | ⟨rfl,S,n,hk⟩
  ·obtain⟨xn,_,pl,_⟩:=I.list hq
   refine⟨pl.isList.typeIs,λa e=> ?_⟩;cases e;obtain⟨o,n,e,c,hd,_⟩:=pl;exact⟨o,e,hd⟩
  ·refine⟨⟨o,I.kIn p o hk,hc⟩,λa e=> ?_⟩
   cases e;exact⟨o,I.kIn _ o hk,hd⟩
  ·have z: ∃o,s.heap.get? p=some o/\o.ExactDict:=by
    rcases hk with⟨kvs,hk⟩ | ⟨kvs,hk⟩
    ·obtain⟨_,_,_,_,o,_,_,e,ex,_⟩:=I.hok p _ hk
     exact⟨o,e,ex⟩
    ·obtain⟨_,_,_,_,o,_,_,e,ex,_⟩:=I.hok p _ hk
     exact⟨o,e,ex⟩
   obtain⟨o,e,ex⟩:=z;refine⟨⟨o,e,ex.1⟩,λa e2=> ?_⟩;cases e2;exact⟨o,e,ex.2.1⟩
  ·obtain⟨o,_,_,_,e,ex,_⟩:=I.hok p _ hk
   refine⟨⟨o,e,ex.1⟩,λa e2=> ?_⟩;cases e2;exact⟨o,e,ex.2.1⟩
 | _=>exact False.elim ty
def zzl (K:Frag)(T:String)(r:V->List V->Hp->VK->Prop)(to:TE):TE:=λσ H Q=>to σ H λx H1=>tyV K T x H1/\r x [] H1 Q
def tBM (K:Frag)(T:String)(r:V->List V->Hp->VK->Prop)(to:TE)(t:TA):TE:=λσ H Q=>to σ H λx H1=>tyV K T x H1/\t σ H1 λxs H2=>r x xs H2 Q
variable {o e:Expr} {es:List Expr} {to:TE} {t:TA} {name:Str} {xz xy:di} {T id:String} {r:V->List V->Hp->VK->Prop}
theorem zwk (pa:PlainAttrs T)(slot:Slot T name id)(hty:typeOf (.builtin id)=pure (.type "method_descriptor"))(hm:sW X id r)(ho:PE X o to)
  (yh:attributeBase o name X.env (eval o X.env)=eval o X.env:=by rfl) (yg:(xz.endLine==xy.line)=true:=by rfl):PE X (.Call (.Attribute o name xz) [] [] xy) (zzl X.K T r to):=by
 constructor;intro mt s σ H Q I h;refine wpAny_Call_method0_late yh yg (zY (ho mt s σ H _ I h) λv s1 ⟨x,H1,I1,r1,ty,q1⟩=> ?_);obtain⟨h1,h2⟩:=zh_ I1 r1 ty;exact⟨T,id,pa,slot,hty,h1,h2,mz rfl (PySem.evalArgs_none (hm mt s1 σ H1 x [] v [] Q I1 r1 .nil q1))⟩
theorem zam (pa:PlainAttrs T)(slot:Slot T name id)(hty:typeOf (.builtin id)=pure (.type "method_descriptor"))(hm:sW X id r)(ho:PE X o to)(ha:PA X (e::es) t)
  (yh:attributeBase o name X.env (eval o X.env)=eval o X.env:=by rfl)
  (hfew:((backTo xy (starEach (e::es) X.env)).all (λx=> !x.1)&&(backToKw xy (keywordEach [] X.env)).all (λx=>x.1.isSome)
   &&decide ((e::es).length+([]:List Keyword).length+(if([]:List Keyword).isEmpty then 0 else 1) < 30))=true:=by rfl)
  (yg:(xz.endLine==xy.line)=true:=by rfl) (hs:starEach (e::es) X.env=8#2::starEach es X.env:=by rfl) (hplain:(backTo xy 3#3).any (·.1)=false:=by rfl):
  PE X (.Call (.Attribute o name xz) (e::es) [] xy) (tBM X.K T r to t):=by
 constructor;intro mt s σ H Q I h;refine ub yh hfew yg rfl (zY (ho mt s σ H _ I h) λv s1 ⟨x,H1,I1,r1,ty,q1⟩=> ?_);obtain⟨h1,h2⟩:=zh_ I1 r1 ty;refine⟨T,id,pa,slot,hty,h1,h2,?_⟩;have hA:=ha xy mt s1 σ H1 _ I1 q1;rw[hs]at hA⊢
 refine mz (by show(false||(backTo xy 3#3).any (·.1))=false;rw[hplain] <;> rfl) (uw ?_);exact zY hA λus s2 ⟨vs,H2,I2,r2,q2⟩=>hm mt s2 σ H2 x vs v us Q I2 r1 r2 q2
end
def MtM (X:Cx)(id:String)(r:V->List V->Hp->VK->Prop):Prop:=
 ∀(mt:List 9#3) (s:ag) (σ:St) (H:Hp) (x:V) (xs:List V) (v:ad) (us:List ad) (Q:VK),z9 X mt σ H s->y4 x v->zR xs us->r x xs H Q->
  av 3#2 X.A (call (.builtin id) (v::us)) 2#5 X.xe s
theorem zR.one: ∀{x:V} {us:List ad},zR [x] us->∃u,us= [u]/\y4 x u
 | _,_,.cons r .nil=>⟨_,rfl,r⟩
theorem zR.two {x y:V}{us:List ad}(h:zR [x,y] us): ∃u v,us= [u,v]/\y4 x u/\y4 y v:=by
 cases h with | cons r t=>cases t with | cons q t2=>cases t2;exact⟨_,_,rfl,r,q⟩
theorem zR.zero: ∀{us:List ad},zR [] us->us= []
 | _,.nil=>rfl
theorem zR.dropLast {xs:List V}{us:List ad}(h:zR xs us):zR xs.dropLast us.dropLast:=by
 induction h with
 | nil=>exact .nil
 | cons r t ih=>
  cases t with
  | nil=>exact .nil
  | cons q t'=>exact .cons r ih
theorem zss {α:Type}(l:List α):l.eraseIdx (l.length - 1)=l.dropLast:=by
 induction l with
 | nil=>rfl
 | cons a r ih=>
  cases r with
  | nil=>rfl
  | cons b r=>
   have e:(a::b::r).length - 1=((b::r).length - 1)+1:=by
    have h1:(a::b::r).length=r.length+2:=rfl;have h2:(b::r).length=r.length+1:=rfl;grobner
   rw[e,List.eraseIdx_cons_succ,ih]
   all_goals rfl
section
variable {X:Cx} {mt:List (aa×aj)} {σ:St} {H:Hp} {s:ag} {l b:aa} {xs ys zs:List V}
theorem z9.lset {xn its':List ad}{n:Nat}{f:Array ad->Array ad}{t':Nat}(I:z9 X mt σ H s)(hH:H l=some 2#4)
  (e:s.heap.get? l=some {cls:= .type 9#1,data:= .seq xn.toArray n}) (hf:f xn.toArray=its'.toArray) (hv:zR ys its') (hz:ys.length<=am):
  z9 X mt σ (zN H l (.lst ys)) {s with heap:=s.heap.update l (Obj.mapSeq f),toks:=t'} :=by
 have q:=sd e f;rw[hf]at q;refine I.write (x:=l) (e:=l) (by rw[hH];exact trivial) (.inl rfl) (λb' u hb hu=>(cm s.heap (Obj.mapSeq f) (dh hb)).trans hu) ⟨_,q⟩ ?_;exact⟨hz,its',_,hv,q⟩
theorem z9.lnew {xn:List ad}{t':Nat}(I:z9 X mt σ H s)(hv:zR ys xn)(hz:ys.length<=am):
  z9 X mt σ (zN H s.heap.objs.size (.lst ys)) {s with heap:=s.heap.push {cls:= .type 9#1,data:= .seq xn.toArray},toks:=t'} :=
 I.laid (λ_ _ q=>ak _ q) (aq _) ⟨hz,xn,0,hv,be _ rfl⟩
theorem z9.fresh (I:z9 X mt σ H s):H s.heap.objs.size=none:=I.hok.fresh (aq _)
theorem z9.lstM (I:z9 X mt σ H s)(hH:H l=some 2#4):xs.length<=am/\∃(xn:List ad) (n:Nat),zR xs xn/\xs.length=xn.length/\s.heap.get? l=some {cls:= .type 9#1,data:= .seq xn.toArray n} :=by
 obtain⟨z,xn,n,r,e⟩:=I.hok l _ hH;exact⟨z,xn,n,r,r.length,e⟩
theorem zuW {n:Nat}(h:n<=am):Builtin.List.listTooLong n=false:=by
 unfold Builtin.List.listTooLong;exact decide_eq_false 0#0
end
section
variable {X:Cx}
def zx3:V->List V->Hp->VK->Prop:=λx vs H Q=> ∃l xs y,x= .ref l/\vs= [y]/\H l=some 2#4/\xs.length < am/\Q .non (zN H l (.lst (xs++ [y])))
theorem zaa:MtM X "list.append" zx3:=by
 intro mt s σ H x vs v us Q I rx rv h;obtain⟨l,xs,y,rfl,rfl,hH,hz,q⟩:=h;cases rx;obtain⟨u,rfl,ru⟩:=rv.one;obtain⟨z,xn,n,r,hl,e⟩:=I.lstM hH;refine ll qa ⟨_,e,rfl⟩ om (nj _ _) (qu l xn.toArray n u (by rw[bj];grobner)) ⟨e,?_⟩;refine⟨.non,_,I.lset (its':=xn++ [u]) hH e 3#0 (r.append (.cons ru .nil)) ?_,rfl,q⟩;rw[af,gf];grobner
def zxF:V->List V->Hp->VK->Prop:=λx vs H Q=> ∃l xs y,x= .ref l/\vs= []/\H l=some 2#4/\xs[xs.length - 1]?=some y/\Q y (zN H l (.lst xs.dropLast))
theorem zu2:MtM X "list.pop" zxF:=by
 intro mt s σ H x vs v us Q I rx rv h;obtain⟨l,xs,y,rfl,rfl,hH,hy,q⟩:=h;cases rx;have hus:=rv.zero;subst hus;obtain⟨z,xn,n,r,hl,e⟩:=I.lstM hH;obtain⟨u,hu,ru⟩:=r.get hy;have hy':xn.toArray[xn.toArray.size - 1]?=some u:=by
  show xn.toArray[xn.length - 1]?=some u;rw[<- jx,<- hl];exact hu
 refine ll F.slot_list_pop ⟨_,e,rfl⟩ F.entry_list_pop (F.args_list_pop_1 _) (MeetsSeq.list_pop_last l xn.toArray n u hy' (by rw[bj];grobner)) ⟨e,?_⟩;refine⟨y,_,I.lset (its':=xn.dropLast) hH e ?_ r.dropLast ?_,ru,q⟩
 ·show xn.toArray.eraseIdxIfInBounds (xn.toArray.size - 1)=xn.dropLast.toArray
  rw[bj,List.eraseIdxIfInBounds_toArray,zss]
 ·rw[nk]
  grobner
end
end L2
namespace Att
open PySem PySem.W PySem.Calls PyProof.Rows
theorem ztt {P:jb}{h:cf} : ∀(ns:List Int) (vs:List ad),WellAll P h vs (ns.map WData.int)->IntsAre vs ns:=by
 intro ns
 induction ns with
 | nil=>
  intro vs w;rw[kg]at w;cases w;exact .nil
 | cons n ns ih=>
  intro vs w;rw[cc]at w;cases w with
  | cons a b=>
   cases a;exact .cons _ _ (ih _ b)
theorem zym {l:OpenLaw}{n:Nat}(hn:l.most=some n){P:jb}{h:cf}{args:List WData}{yb:List ad}
  (hpre:l.row.toRowW.claim.pre args=true) (hwl:WellAll P h yb args):
  ∃a vs ns,yb= [Value.ref a]/\args= [WData.list (ns.map WData.int)]/\h.get? a=some {cls:= .type 9#1,data:= .seq vs.toArray} /\IntsAre vs ns/\ns.length<=n:=by
 have hsh:WShape.hasAll [] args [.list .int]=true:=(pre_splitW hpre).1;have hc:l.pre.holds [] {args:=args} =true:=(pre_splitW hpre).2;obtain⟨d,r,rfl,h1,h2⟩:=hasAllW_cons hsh;obtain rfl:=hasAllW_nil h2;obtain⟨xs,rfl,h3⟩:=hasW_list h1;obtain⟨ns,rfl⟩:=items_int h3;have xx:ns.length<=n:=by
  unfold OpenLaw.pre at hc;have h4:(WTm.not (.lt (.lit (.int (n:Int))) (.len (.arg 0)))).holds [] {args:= [.list (ns.map .int)]} =true:=by
   have h4:=(holds_andW hc).1;rw[hn]at h4;exact h4
  have h5:=condW_of h4 (w_not (w_lt w_lit (w_len_list (w_arg rfl))));rw[ah]at h5;refine Nat.le_of_not_lt λq=> ?_;have q':(n:Int) < ((ns.length:Nat):Int):=0#0
  first
   | (rw[decide_eq_true q']at h5;exact absurd h5 2#0)
   | (simp at h5;grobner)
 cases hwl with
 | cons w1 w2=>
  cases w2;cases w1 with
  | list ho hall=>exact⟨_,_,ns,rfl,rfl,ho,ztt ns _ hall,xx⟩
theorem zwJ (l:OpenLaw)(args:List WData):l.row.toRowW.claim.post args (.bool true) args=true:=
 postW_of (r:=l.row.toRowW) (X:=(true==true))
  (show WShape.has [] (.bool true) .bool=true by first | rfl | decide | simp[WShape.has,WShape.arms,WShape.armsAll])
  (show(WTm.eq .res (.lit (.bool true))).value [] {args:=args,res:=some (.bool true),after:=args} =some (.bool (true==true))from w_eq_bool (w_res rfl) w_lit) rfl
theorem attach_call {l:OpenLaw}{n:Nat}{q:br}{loose:List Str}{XP:(Str->Option ad)->cf->Prop}{YP:bz->cf->Prop}{d:DefRec}
  (hn:l.most=some n) (hdf:d.params.defaults= [])
  (call: ∀(w:bz) (s₀ s₁:ag) (mg mb:Str->Option ad) (fa:aa) (o:aj) (pm cd doc:ad) (a:aa) (vs:List ad) (ns:List Int),
   Ground q loose [] XP w s₀ mg mb s₁.heap->YP w s₁.heap->
   s₁.heap.get? fa=some o->o.data= .func (docDef d.name d.params d.body d.scope pm cd doc)->s₁.heap.CodeRec cd d.name->mg d.name=some (.ref fa)->
   s₁.heap.get? a=some {cls:= .type 9#1,data:= .seq vs.toArray} ->IntsAre vs ns->ns.length<=n->s₁.gens= #[]->
   jf (bb l.prog w) callerA (.call (.ref fa) ⟨[.ref a],[]⟩) 1#6 s₁):
  WalkO q loose XP YP l.row.toRowW d [] (λf vs=>PySem.call f vs):=by
 intro w s₀ s₁ mg mb G Y fa o pm cd doc dV kV ho hd hcd hD hmg hg args yb as hpre hlay hrd hwl hlo;obtain rfl:dV= .none:=Dflts.none hD hdf;obtain rfl:kV= .none:=Dflts.noKw hD;obtain⟨a,vs,ns,rfl,rfl,hobj,hints,xx⟩:=zym hn hpre hwl;refine enter_call (kf (call w s₀ s₁ mg mb fa o pm cd doc a vs ns G Y ho (fd_plain hd) hcd hmg hobj hints xx hg) λr s' hq=> ?_);obtain⟨rfl,h2,h3,h4⟩:=hq;exact⟨.inl ⟨.bool true,.bool true,[],rfl,λ_=>rfl,.bool true,zwJ l _,λ_=>⟨List.Pairwise.nil,λ_ hm=>(nomatch hm)⟩⟩,h2,h3,h4⟩
end Att
namespace L2
open PySem PySem.Spec PyProof.Rows
theorem zpI: ∀{vs:List ad} {ns:List Int},IntsAre vs ns->zR (ns.map V.int) vs
 | _,_,.nil=> .nil
 | _,_,.cons n t h=> .cons ⟨t,rfl⟩ (zpI h)
def zb8 (H:Hp):Prop:= ∀b,H b=none∨∃o xs,H b=some (.frz o 2#4)
theorem ztL {P:br}{w:bz}{K:Frag}{mg mb:Str->Option ad}{CX:tY}{k:Nat}{fa a:aa}{fd:bh}{x:Str}{sp:Sp}{s₁:ag}{vs:List ad}{ns:List Int}
  (KX:K.In s₁.heap) (hns:s₁.heap.Ns da mg) (hb:s₁.heap.Ns builtinsNs mb) (hbb: ∀x:Str,x≠ "__name__" ->mb x=bootBuiltins x) (hlim:s₁.heap.NoLimit) (hg:s₁.gens= #[])
  (ha:s₁.heap.get? a=some {cls:= .type 9#1,data:= .seq vs.toArray}) (hi:IntsAre vs ns) (hl:ns.length<=am) (hr:zH k callerA)
  (F: ∀base:cf,K.In base->base.Ns da mg->yK P w K mg base CX k fa fd [x] sp) (hbind: ∀(s:ag) (u:ad),BindsTo s fd ⟨[u],[]⟩ [(x,u)])
  (yz: ∀H:Hp,zb8 H->xA K H a (ns.map V.int)->sp [.ref a] H (λv _=>v= .bl true) λ_ _ _=>False)
  (hCX: ∀H e s',CX [] H s₁ (λ_ _ _=>False) e s'->False):
  jf (bb P w) callerA (.call (.ref fa) ⟨[.ref a],[]⟩) 1#6 s₁:=by
 have rv:=zpI hi;have lenV:=hi.length;have core: ∀H:Hp,zb8 H->xA K H a (ns.map V.int)->wD P w H s₁.heap->(∀b,H b≠none->b=a)->(H a≠none->K.lookup a=none)->
   jf (bb P w) callerA (.call (.ref fa) ⟨[.ref a],[]⟩) 1#6 s₁:=by
  intro H hO hS hok hA hK;have base_of: ∀{b:aa} {o:aj},s₁.heap.get? b=some o->H b=none->(mO s₁.heap H).get? b=some o:=λe n=>zsZ e n;have noA: ∀{b:aa} {o:aj} {es:Array DictEntry} {ep:Nat},s₁.heap.get? b=some o->o.data= .dict es ep->H b=none:=λ{b o es ep} e d=>by
   cases q:H b with
   | none=>rfl
   | some u=>
    have e':b=a:=hA b (by rw[q];simp);subst e';rw[ha]at e;cases e;have d':Data.seq vs.toArray _=Data.dict es ep:=d;cases d'
  have nsK: ∀{b:aa} {m:Str->Option ad},s₁.heap.Ns b m->(mO s₁.heap H).Ns b m:=λ{b m} ⟨o,es,ep,e,d,r⟩=>⟨o,es,ep,base_of e (noA e d),d,r⟩;have hKb:K.In (mO s₁.heap H):=λb o e=>base_of (KX b o e) (by
   cases q:H b with
   | none=>rfl
   | some u=>
    have e':b=a:=hA b (by rw[q];simp);subst e';rw[hK (by rw[q];simp)]at e;cases e)
  have hM:Mod K mg (mO s₁.heap H):=⟨hKb,nsK hns,⟨mb,nsK hb,hbb⟩,let⟨mc,h1,h2⟩:=hlim;⟨mc,nsK h1,h2⟩⟩;have e0:l8 P w K mg (mO s₁.heap H) callerA [] s₁ H:=⟨rfl,hM,λb o e=>zvk e,Nat.le_of_eq (zta _ _),trivial,λb hb=>absurd (show b∈([]:List aa)from hb) 3#0,hok,.of_eq hg⟩;refine kf ((F _ hKb (nsK hns)).run callerA [] s₁ H ⟨[.ref a],[]⟩ [.ref a] [.ref a] _ _ hr e0 (hbind s₁ (.ref a)) (.cons rfl .nil) (yz H hO hS)) λr s' h=> ?_;cases r with
  | error e=>exact(hCX H e s' h).elim
  | ok fl=>
   cases fl with
   | next=>exact False.elim h
   | brk=>exact False.elim h
   | cont=>exact False.elim h
   | ret u=>
    obtain⟨v,H',os,bare,un,hok',r',q⟩:=h;have q':v= .bl true:=q;subst q';obtain rfl:u=Value.bool true:=r';refine⟨rfl,OldK.of_keep λb o e=> ?_,os,bare⟩;cases q:H b with
    | none=>exact un.keep b o e q (by intro z;exact absurd (show b∈([]:List aa)from z) 3#0) 3#0
    | some u=>
     rcases hO b with z | ⟨ob,xs,z⟩
     ·rw[q]at z;cases z
     ·have z2:=un.frzs b ob _ z
      obtain⟨e1,_⟩:=hok b _ z;obtain⟨e2,_⟩:=hok' b _ z2;rw[e]at e1;cases e1;exact e2
 cases hk:K.lookup a with
 | some o=>
  have e:=KX a o hk;rw[ha]at e;cases e;refine core (λ_=>none) (λ_=> .inl rfl) (.inr ⟨_,vs.toArray,_,hk,rfl,rfl,rfl,by rw[bj,lenV];exact hl,by simpa using rv,rfl⟩) (λb u z=>by have z':(none:Option HO)=some u:=z;cases z') (λb z=>absurd rfl z) λz=>absurd rfl z
 | none=>
  refine core (λb=>if b=a then some (.frz {cls:= .type 9#1,data:= .seq vs.toArray} (.lst (ns.map V.int)))else none) (λb=> ?_) (.inl (.inr ⟨{cls:= .type 9#1,data:= .seq vs.toArray},if_pos rfl⟩)) (λb u z=> ?_) (λb z=> ?_) λ_=>hk
  ·by_cases hb:b=a
   ·exact .inr ⟨_,_,if_pos hb⟩
   ·exact .inl (if_neg hb)
  ·by_cases hb:b=a
   ·have z':=(if_pos hb).symm.trans z
    cases z';subst hb;exact⟨ha,by rw[ah];exact hl,vs,_,rv,ha⟩
   ·have z':=(if_neg hb).symm.trans z
    cases z'
  ·by_cases hb:b=a
   ·exact hb
   ·exact absurd (if_neg hb) z
theorem walk_of {l:PySem.W.OpenLaw}{n k:Nat}{q:br}{loose:List Str}{XP:(Str->Option ad)->cf->Prop}{YP:bz->cf->Prop}{d:DefRec}{K:jb->Frag}{CX:bz->tY}{sp:bz->Sp}{x:Str}
  (hn:l.most=some n) (hn2:n<=am) (hdf:d.params.defaults= []) (hr:zH k callerA)
  (hY: ∀(w:bz) (h:cf),YP w h->(K w.params).In h)
  (F: ∀(w:bz) (mg:Str->Option ad) (fa:aa) (h:cf),(K w.params).In h->h.Ns da mg->mg d.name=some (.ref fa)->
   ∃fd:bh,(∀(s:ag) (u:ad),BindsTo s fd ⟨[u],[]⟩ [(x,u)])/\
    ∀base:cf,(K w.params).In base->base.Ns da mg->yK l.prog w (K w.params) mg base (CX w) k fa fd [x] (sp w))
  (yz: ∀(w:bz) (H:Hp) (a:aa) (ns:List Int),ns.length<=n->zb8 H->xA (K w.params) H a (ns.map V.int)->sp w [.ref a] H (λv _=>v= .bl true) λ_ _ _=>False)
  (hCX: ∀(w:bz) (H:Hp) (s:ag) (e:ad) (s':ag),CX w [] H s (λ_ _ _=>False) e s'->False):
  PySem.W.WalkO q loose XP YP l.row.toRowW d [] (λf vs=>PySem.call f vs):=by
 refine Att.attach_call hn hdf λw s₀ s₁ mg mb fa o pm cd doc a vs ns G Y ho hd hcd hmg hobj hints xx hg=> ?_;have KX:=hY w _ Y;obtain⟨fd,hb,hF⟩:=F w mg fa _ KX G.T.g hmg;exact ztL KX G.T.g G.T.b G.T.builtins G.T.nolimit hg hobj hints (cb xx hn2) hr hF hb (λH hO hS=>yz w H a ns xx hO hS) λH e s'=>hCX w H s₁ e s'
def ztn (s:bw)(j:Nat):bw:=match s with
 | .ClassDef _ _ _ body _ _ _ _ _ _ _=>body.getD j (.Pass ⟨0,0,0,0⟩)
 | _=> .Pass ⟨0,0,0,0⟩
def jE (s:bw):Arguments:=match s with
 | .FunctionDef _ a _ _ _ _ _ _ _ _=>a
 | _=> {posonlyargs:= [],args:= [],vararg:=none,kwonlyargs:= [],kw_defaults:= [],kwarg:=none,defaults:= []}
def pU (s:bw):List bw:=match s with
 | .FunctionDef _ _ b _ _ _ _ _ _ _=>b
 | _=> []
def zX (s:bw):kb:=match s with
 | .FunctionDef _ _ _ _ _ _ sc _ _ _=>sc
 | _=> {kind:= .function,names:= [],isGenerator:=false,isCoroutine:=false}
abbrev yG:tY:=λ_ _ _ _ _ _=>False
abbrev E0:XK:=λ_ _ _=>False
theorem lZ {X:Cx} :pP yG X E0:=λ_ _ _ _ _ _ _ h=>h.elim
structure zS (K:Frag)(x qual:Str)(st:bw)(f:aa)(fd:bh):Prop where
 ex: ∃(oc:ad) (od:Option aa) (kV doc pm:ad) (an:Option aa) (xw ct:ad) (yw:Array (Option ad)),
  fd=fnOf x qual (jE st) (pU st) (zX st) .none kV doc pm an xw ct/\K.lookup f=some ⟨oc,od,.func fd,yw⟩/\codeIn K xw qual=true
 kp:keepIn K 8#3=true
section
variable {P:br} {w:bz} {K:Frag} {mg:Str->Option ad} {base:cf}
theorem zS.ok {x qual:Str}{st:bw}{f:aa}{fd:bh}{N ps:List Str}{k:Nat}{sp:Sp}(F:zS K x qual st f fd)(S:yQ N ps (zX st))(len: ∀vs H Q E,sp vs H Q E->vs.length=ps.length)
  (hbody: ∀(xw:ad) (A:ci) (outer:List lc) (s:ag) (H:Hp) (vs:List V) (Q:VK) (E:XK),zH k 5#7->sp vs H Q E->
   ∃t,xI (qQ yG P w K mg base N qual (zX st) f xw A outer s H E).nox (pU st) t/\t {nx:=λ_ H'=>Q .non H',rt:=Q} (start N vs) H):yK P w K mg base yG (k+1) f fd ps sp:=by
 obtain⟨oc,od,kV,doc,pm,an,xw,ct,yw,rfl,lk,hcd⟩:=F.ex;refine zsB lk hcd S len λA outer s H vs Q E hr yz=> ?_;obtain⟨t,h,q⟩:=hbody xw A outer s H vs Q E hr yz;exact⟨t,h.nox,q⟩
theorem zS.binds {x qual:Str}{st:bw}{f:aa}{fd:bh}{ps:List Str}(F:zS K x qual st f fd)
  (h: ∀(kV doc pm:ad) (an:Option aa) (xw ct:ad) (us:List ad),us.length=ps.length->bindArgs (fnOf x qual (jE st) (pU st) (zX st) .none kV doc pm an xw ct) ⟨us,[]⟩=pure (ps.zip us)):y2 K fd ps []:=by
 obtain⟨oc,od,kV,doc,pm,an,xw,ct,yw,rfl,lk,hcd⟩:=F.ex;exact .all (h kV doc pm an xw ct)
theorem e7 {x qual:Str}{st:bw}{f:aa}{oc:ad}{od an:Option aa}{yw:Array (Option ad)}{kV doc pm xw ct:ad}(l:K.lookup f=some ⟨oc,od,.func (fnOf x qual (jE st) (pU st) (zX st) .none kV doc pm an xw ct),yw⟩)
  (c:codeIn K xw qual=true) (k:keepIn K 8#3=true):zS K x qual st f (fnOf x qual (jE st) (pU st) (zX st) .none kV doc pm an xw ct):=⟨⟨oc,od,kV,doc,pm,an,xw,ct,yw,rfl,l,c⟩,k⟩
end
theorem uG {c A B:Prop}[Decidable c](h1:c->A)(h2: ¬ c->B):if c then A else B:=by
 by_cases h:c
 ·rw[if_pos h]
  exact h1 h
 ·rw[if_neg h]
  exact h2 h
section
variable {κ:Type} [DecidableEq κ]
def rH (kvs:List (κ×V))(k:κ):Option V:=(kvs.find? λkv=>decide (kv.1=k)).map (·.2)
def qZ (kvs:List (κ×V))(k:κ)(v:V):List (κ×V):=
 if 5#6=true then kvs.map (λkv=>if kv.1=k then(kv.1,v)else kv)else kvs++ [(k,v)]
theorem zba {p:κ×V}{r:List (κ×V)}{k:κ}(e:p.1=k):rH (p::r) k=some p.2:=by simp[rH,im,e]
theorem zaZ {p:κ×V}{r:List (κ×V)}{k:κ}(e: ¬ p.1=k):rH (p::r) k=rH r k:=by simp[rH,im,e]
theorem zpG (k:κ): ∀kvs:List (κ×V),5#6=(rH kvs k).isSome
 | []=>rfl
 | p::r=>by
  rw[ir];by_cases e:p.1=k
  ·simp only[zba e,decide_eq_true e,Bool.true_or,Option.isSome_some]
  ·rw[zaZ e,decide_eq_false e,Bool.false_or];exact zpG k r
theorem zfV (kvs:List (κ×V))(k:κ)(v:V):(qZ kvs k v).length<=kvs.length+1:=by
 unfold qZ
 split
 ·rw[ah];grobner
 ·rw[af,ao,cz];grobner
theorem sA.isSome_eq {o:Option V}{u:Option ad}(r:sA o u):o.isSome=u.isSome:=by
 cases o with
 | none=>cases u with
  | none=>rfl
  | some _=>exact(show False from r).elim
 | some _=>cases u with
  | none=>exact(show False from r).elim
  | some _=>rfl
theorem KV.val {kvs:List (κ×V)}{vs:List (κ×ad)}(r:KV kvs vs)(k:κ):sA (rH kvs k) (valueAt vs k):=by
 unfold KV at r
 induction r with
 | nil=>exact True.intro
 | @cons p q ps qs h t ih=>
  obtain⟨h1,h2⟩:=h;by_cases e:p.1=k
  ·have e':q.1=k:=h1.symm.trans e
   have b:valueAt (q::qs) k=some q.2:=by simp[valueAt,im,e']
   rw[zba e,b];exact h2
  ·have e': ¬ q.1=k:=λz=>e (h1.trans z)
   have b:valueAt (q::qs) k=valueAt qs k:=by simp[valueAt,im,e']
   rw[zaZ e,b];exact ih
theorem KV.any {kvs:List (κ×V)}{vs:List (κ×ad)}(r:KV kvs vs)(k:κ):5#6=vs.any λkv=>decide (kv.1=k):=by
 unfold KV at r
 induction r with
 | nil=>rfl
 | cons h t ih=>rw[ir,ir,ih,h.1]
theorem KV.repl {kvs:List (κ×V)}{vs:List (κ×ad)}(r:KV kvs vs)(k:κ){y:V}{u:ad}(ry:y4 y u):
  KV (kvs.map λkv=>if kv.1=k then(kv.1,y)else kv) (vs.map λkv=>if kv.1=k then(kv.1,u)else kv):=by
 unfold KV at r⊢
 induction r with
 | nil=>exact .nil
 | @cons p q ps qs h t ih=>
  rw[cc,cc];refine .cons ?_ ih;obtain⟨h1,h2⟩:=h;by_cases e:p.1=k
  ·rw[if_pos e,if_pos (h1.symm.trans e)];exact⟨h1,ry⟩
  ·rw[if_neg e,if_neg (λz=>e (h1.trans z))];exact⟨h1,h2⟩
theorem KV.put {kvs:List (κ×V)}{vs:List (κ×ad)}(r:KV kvs vs)(k:κ){y:V}{u:ad}(ry:y4 y u):KV (qZ kvs k y) (stored vs k u):=by
 unfold qZ stored;rw[r.any k];by_cases e:(vs.any λkv=>decide (kv.1=k))=true
 ·rw[if_pos e,if_pos e];exact r.repl k ry
 ·rw[if_neg e,if_neg e];exact Paired.snoc r ⟨rfl,ry⟩
theorem KV.length {kvs:List (κ×V)}{vs:List (κ×ad)}(r:KV kvs vs):kvs.length=vs.length:=gx r
end
theorem aQ {P:br}{w:bz}{k:zK}{u:ad}(r:y4 (kV k) u):(uO P w).is k u=true:=by
 cases k with
 | inl i=>obtain⟨t,e⟩:=(show ∃t,u=Value.int i t from r);subst e;exact zup P w i t
 | inr x=>obtain⟨t,e⟩:=(show ∃t,u=Value.str x t from r);subst e;exact zuq P w x t
theorem zme {P:br}{w:bz} : ∀{ks:List zK} {us:List ad},zR (ks.map kV) us->ItemsAre (uO P w) ks us
 | [],_,r=>by rw[kg]at r;cases r;exact .nil
 | k::ks,_,r=>by
  rw[cc]at r;cases r with
  | cons h t=>exact .cons (aQ h) (zme t)
abbrev KT (H:Hp):List (List zK×V)->List (List zK×aa×ad)->Prop:=Paired λp q=>p.1=q.1/\H q.2.1=some (.tup (p.1.map kV))/\y4 p.2 q.2.2
theorem KT.val {H:Hp}{kvs:List (List zK×V)}{xs:List (List zK×aa×ad)}(r:KT H kvs xs)(k:List zK):sA (rH kvs k) ((atKey xs k).map (·.2)):=by
 induction r with
 | nil=>exact True.intro
 | @cons p q ps qs h t ih=>
  obtain⟨h1,_,h2⟩:=h;by_cases e:p.1=k
  ·have e':q.1=k:=h1.symm.trans e
   have b:atKey (q::qs) k=some q.2:=by simp[atKey,im,e']
   rw[zba e,b];exact h2
  ·have e': ¬ q.1=k:=λz=>e (h1.trans z)
   have b:atKey (q::qs) k=atKey qs k:=by simp[atKey,im,e']
   rw[zaZ e,b];exact ih
theorem KT.repl {H:Hp}{kvs:List (List zK×V)}{xs:List (List zK×aa×ad)}(r:KT H kvs xs)(k:List zK){y:V}{u:ad}(ry:y4 y u):
  KT H (kvs.map λkv=>if kv.1=k then(kv.1,y)else kv) (xs.map (putAt k u)):=by
 induction r with
 | nil=>exact .nil
 | @cons p q ps qs h t ih=>
  rw[cc,cc];refine .cons ?_ ih;obtain⟨h1,h2,h3⟩:=h;unfold putAt;by_cases e:p.1=k
  ·rw[if_pos e,if_pos (h1.symm.trans e)];exact⟨h1,h2,ry⟩
  ·rw[if_neg e,if_neg (λz=>e (h1.trans z))];exact⟨h1,h2,h3⟩
theorem KT.put {H:Hp}{kvs:List (List zK×V)}{xs:List (List zK×aa×ad)}(r:KT H kvs xs)(k:List zK){b:aa}{y:V}{u:ad}(hb:H b=some (.tup (k.map kV)))(ry:y4 y u):
  KT H (qZ kvs k y) (storedH xs k b u):=by
 have e:5#6=(atKey xs k).isSome:=by
  rw[zpG,(r.val k).isSome_eq,wg]
 unfold qZ storedH;rw[e];by_cases q:(atKey xs k).isSome=true
 ·rw[if_pos q,if_pos q];exact r.repl k ry
 ·rw[if_neg q,if_neg q];exact Paired.snoc r ⟨rfl,hb,ry⟩
theorem KT.keeps {H H':Hp}{kvs:List (List zK×V)}{xs:List (List zK×aa×ad)}(r:KT H kvs xs)(ht: ∀b ys,H b=some (.tup ys)->H' b=some (.tup ys)):KT H' kvs xs:=
 Paired.mapP r λ_ _ z=>⟨z.1,ht _ _ z.2.1,z.2.2⟩
section
variable {P:br} {w:bz} {H:Hp} {h:cf} {a:aa}
theorem zot {u:HO}(ok:wD P w H h)(e:Rd H a u):vS P w H h a u:=e.ok ok
theorem fU {kvs:List (zK×V)}(ok:wD P w H h)(e:Rd H a (.dK kvs)):kvs.length<=am/\(a==sysModules)=false/\∃vs,KV kvs vs/\h.DictOf (uO P w) a vs:=
 show vS P w H h a (.dK kvs)from zot ok e
theorem zjt {kvs:List (zK×V)}(ok:wD P w H h)(e:H a=some (.dK kvs)):kvs.length<=am/\(a==sysModules)=false/\∃vs,KV kvs vs/\h.DictOf (uO P w) a vs:=fU ok (.inl e)
theorem aR {ks:List zK}(ok:wD P w H h)(e:H a=some (.tup (ks.map kV))):(tupleKind (uO P w)).is h ks a:=by
 obtain⟨_,xn,r,o,h1,h2,n,h3,_⟩:=(show vS P w H h a (.tup (ks.map kV))from ok a _ e);exact⟨o,xn.toArray,n,h1,h2,h3,by simpa using zme r⟩
theorem a9 {kvs:List (List zK×V)}(ok:wD P w H h)(e:Rd H a (.dT kvs)):kvs.length<=am/\(a==sysModules)=false/\
  ∃xs,KT H kvs xs/\h.DictOfH (tupleKind (uO P w)) a xs:=by
 obtain⟨z,y,xs,r,o,es,ep,h1,h2,h3,h4,h5⟩:=(show vS P w H h a (.dT kvs)from zot ok e);refine⟨z,y,xs,r,o,es,ep,h1,h2,h3,h4,λx hx=> ?_,h5⟩;have all: ∀{l:List (List zK×V)} {m:List (List zK×aa×ad)},KT H l m->∀x∈m,(tupleKind (uO P w)).is h x.1 x.2.1:=by
  intro l m q
  induction q with
  | nil=>intro x hx;exact nomatch hx
  | @cons p q ps qs hq t ih=>
   intro x hx;rcases ar.mp hx with e | hx
   ·subst e
    exact aR ok (by rw[<- hq.1];exact hq.2.1)
   ·exact ih x hx
 exact all r x hx
theorem zsm {kvs:List (List zK×V)}(ok:wD P w H h)(e:H a=some (.dT kvs)):kvs.length<=am/\(a==sysModules)=false/\
  ∃xs,KT H kvs xs/\h.DictOfH (tupleKind (uO P w)) a xs:=a9 ok (.inl e)
end
def cA (H:Hp)(a:aa)(y:V)(r:Option V):Prop:=
 (∃kvs k,Rd H a (.dK kvs)/\y=kV k/\r=rH kvs k)∨∃kvs k b,Rd H a (.dT kvs)/\y= .ref b/\H b=some (.tup (k.map kV))/\r=rH kvs k
def zpS (H:Hp)(a:aa)(y v:V)(H':Hp):Prop:=
 (∃kvs k,H a=some (.dK kvs)/\y=kV k/\kvs.length < am/\H'=zN H a (.dK (qZ kvs k v)))∨
 ∃kvs k b,H a=some (.dT kvs)/\y= .ref b/\H b=some (.tup (k.map kV))/\kvs.length < am/\H'=zN H a (.dT (qZ kvs k v))
section
variable {X:Cx} {mt:List (aa×aj)} {σ:St} {H:Hp} {s:ag} {a:aa} {y v:V} {u r:ad} {o:Option V} {A:ci} {E:ad->ag->Prop}
theorem zrZ {Q:ad->ag->Prop}(hu:A.units+1 < cLine)(I:z9 X mt σ H s)(g:cA H a y (some v))(ry:y4 y u)(h: ∀w' s',z9 X mt σ H s'->y4 v w'->Q w' s'):
  av 3#2 A (getItem (.ref a) u) Q E s:=by
 rcases g with⟨kvs,k,e,ey,l⟩ | ⟨kvs,k,b,e,ey,eb,l⟩
 ·subst ey
  obtain⟨z,hd,vs,xo,dd⟩:=fU I.hok e;obtain⟨w',hw,rw'⟩:=sA.some_of (v:=v) (o:=valueAt vs k) (by rw[l];exact xo.val k);exact wpAny_getItem_of (aQ ry) dd.mapOf hw (h w' _ (I.tok _) rw')
 ·subst ey
  cases(show u=Value.ref b from ry);obtain⟨z,hd,xs,xo,dd⟩:=a9 I.hok e;obtain⟨w',hw,rw'⟩:=sA.some_of (v:=v) (o:=(atKey xs k).map (·.2)) (by rw[l];exact xo.val k);obtain⟨p,hp,hp2⟩:=ky.mp hw;refine wpAny_getItem_heap (qb hu) (aR I.hok eb) dd hp ?_;rw[hp2];exact h w' _ (I.tok _) rw'
theorem zsa {Q:ad->ag->Prop}(hu:A.units+1 < cLine)(I:z9 X mt σ H s)(g:cA H a y o)(ry:y4 y u)(h: ∀s',z9 X mt σ H s'->Q (.bool o.isSome) s'):
  av 3#2 A (compareOp .In u (.ref a)) Q E s:=by
 rcases g with⟨kvs,k,e,ey,l⟩ | ⟨kvs,k,b,e,ey,eb,l⟩
 ·subst ey
  obtain⟨z,hd,vs,xo,dd⟩:=fU I.hok e;refine wpAny_in_of (aQ ry) hd dd.mapOf ?_;rw[<- (xo.val k).isSome_eq,<- l];exact h _ (I.tok _)
 ·subst ey
  cases(show u=Value.ref b from ry);obtain⟨z,hd,xs,xo,dd⟩:=a9 I.hok e;refine wpAny_in_heap (qb hu) (aR I.hok eb) hd dd ?_;have q:=(xo.val k).isSome_eq;rw[wg]at q;rw[<- q,<- l];exact h _ (I.tok _)
theorem zjr {h':cf}{t':Nat}{ob:HO}(I:z9 X mt σ H s)(mu:fD (H a))(hs:Heap.SameBut a s.heap h')(he: ∃q,h'.get? a=some q)(new:vS X.prog X.w (zN H a ob) h' a ob):
  z9 X mt σ (zN H a ob) {s with heap:=h',toks:=t'} :=
 I.write (x:=a) (e:=a) mu (.inl rfl) (λb q hb z=>(hs.2 b hb).trans z) he new
theorem zsl {P:br}{w:bz}{H':Hp}{h':cf}{kvs:List (zK×V)}{vs:List (zK×ad)}(z:kvs.length<=am)(hd:(a==sysModules)=false)(xo:KV kvs vs)(dd:h'.DictOf (uO P w) a vs):
  vS P w H' h' a (.dK kvs):=⟨z,hd,vs,xo,dd⟩
theorem zsc {H':Hp}{Q:Unit->ag->Prop}(hu:A.units+1 < cLine)(I:z9 X mt σ H s)(g:zpS H a y v H')(ry:y4 y u)(rv:y4 v r)(h: ∀s',z9 X mt σ H' s'->Q () s'):
  av 3#2 A (setItem (.ref a) u r) Q E s:=by
 rcases g with⟨kvs,k,e,ey,l,eH⟩ | ⟨kvs,k,b,e,ey,eb,l,eH⟩
 ·subst ey eH
  obtain⟨z,hd,vs,xo,dd⟩:=zjt I.hok e;have hz:vs.length<=am:=by rw[<- xo.length];exact z
  have hl:(qZ kvs k v).length<=am:=by have:=zfV kvs k v;grobner
  refine wpAny_setItem_pairs (hsz:=hz) (aQ ry) dd λh' dd' hs=>h _ ?_;have he: ∃q,h'.get? a=some q:=let⟨q,_,_,hq,_⟩:=dd';⟨q,hq⟩;exact zjr I (by rw[e];exact True.intro) hs he (zsl hl hd (xo.put k rv) dd')
 ·subst ey eH
  cases(show u=Value.ref b from ry);obtain⟨z,hd,xs,xo,dd⟩:=zsm I.hok e;have hz:xs.length<=am:=by rw[<- gx xo];exact z
  have hl:(qZ kvs k v).length<=am:=by have:=zfV kvs k v;grobner
  refine wpAny_setItem_heap (hsz:=hz) (qb hu) (aR I.hok eb) dd λh' dd' hs=>h _ ?_;obtain⟨q,es,ep,hq,h2,h3,h4,_,h5⟩:=dd';refine zjr I (by rw[e];exact True.intro) hs ⟨q,hq⟩ ⟨hl,hd,_,(xo.put k eb rv).keeps λc ys ec=> ?_,q,es,ep,hq,h2,h3,h4,h5⟩;rw[yJ (zuR ec e (λz=>nomatch z))];exact ec
end
section
variable {X:Cx} {mt:List (aa×aj)} {σ:St} {H:Hp} {s:ag} {a:aa} {kvs:List (zK×V)} {k:zK} {u:ad} {A:ci} {E:ad->ag->Prop}
theorem zsb {Q:ad->ag->Prop}(I:z9 X mt σ H s)(e:Rd H a (.dK kvs))(h: ∀t s',z9 X mt σ H s'->Q (.int kvs.length t) s'):av 3#2 A (call (.builtin "len") [.ref a]) Q E s:=by
 obtain⟨z,hd,vs,xo,dd⟩:=fU I.hok e;refine call_len_dict hd dd (by rw[<- xo.length];rw[iz]at z;grobner) ?_;rw[<- xo.length];exact h _ _ (I.tok _)
end
theorem zsk {X:Cx}{mt:List 9#3}{σ:St}{H:Hp}{s:ag}{a:aa}{y:V}{o:Option V}(I:z9 X mt σ H s)(g:cA H a y o):s.TypeIs (.ref a) "dict" :=by
 rcases g with⟨kvs,k,e,_,_⟩ | ⟨kvs,k,b,e,_,_,_⟩
 ·obtain⟨_,_,vs,_,dd⟩:=fU I.hok e
  exact dd.typeIs
 ·obtain⟨_,_,xs,_,dd⟩:=a9 I.hok e
  exact dd.typeIs
section
variable {X:Cx}
theorem zrF:vF X (.builtin "len") (λxs H Q=> ∃a kvs,xs= [V.ref a]/\H a=some (.dK kvs)/\Q (.int kvs.length) H):=by
 intro mt s σ H xs us Q I r h;obtain⟨a,kvs,rfl,ha,q⟩:=h;obtain⟨u,rfl,ru⟩:=pF r;cases ru;exact zsb I (.inl ha) λt s' I'=>⟨.int kvs.length,H,I',⟨t,rfl⟩,q⟩
end
theorem aM {X:Cx}{mt:List 9#3}{σ:St}{H:Hp}{s:ag}{D:aa}{o:HO}(I:z9 X mt σ H s)(hn:H D=none)(hs:X.s₀.heap.objs.size<=D)(hL:D≠X.env.locals)
  (hc: ∀x c,X.env.cells.lookup x=some c->c≠D) (hp: ∀p∈X.pn++mt,p.1≠D) (new:vS X.prog X.w (zN H D o) s.heap D o):z9 X mt σ (zN H D o) s:=by
 have low: ∀{b:aa} {u:aj},X.s₀.heap.get? b=some u->b≠D:=λe=>bo (bp (aw e) hs);refine⟨I.ok,I.os,I.bare,⟨I.base.keep,I.base.slot,λb u e n hx=> ?_,I.base.there,λb xs e=> ?_,λb u v e=> ?_,λb ps e=> ?_⟩,I.loc,I.cell,?_,λx c e=> ?_,λp hm=> ?_,λb u e=> ?_,I.len⟩
 ·rw[yJ (low e)];exact I.base.free b u e n hx
 ·have q:=I.base.tups b xs e
  rw[yJ (pZ q hn)];exact q
 ·have q:=I.base.frzs b u v e
  rw[yJ (pZ q hn)];exact q
 ·obtain⟨more,q⟩:=I.base.tbls b ps e
  exact⟨more,by rw[yJ (pZ q hn)];exact q⟩
 ·rw[yJ (dh hL)];exact I.free
 ·rw[yJ (hc x c e)];exact I.freeC x c e
 ·obtain⟨e,n,r⟩:=I.pin p hm
  exact⟨e,by rw[yJ (hp p hm)];exact n,r⟩
 ·by_cases hb:b=D
  ·subst hb;rw[xR]at e;cases e;exact new
  ·rw[yJ hb]at e
   exact(I.hok b u e).stay (λc v _ q=>q) (λc q=>by rw[yJ (pZ q hn)];exact q) λc xs q=>by rw[yJ (pZ q hn)];exact q
theorem zsD {α β:Type}{l:List α}{f:α->β->Sem (ForInStep β)}{g:α->β->β}(h: ∀x∈l,∀b,f x b=pure (.yield (g x b)))(b:β):forIn l b f=pure (l.foldl (λb x=>g x b) b):=by
 induction l generalizing b with
 | nil=>rfl
 | cons x l ih=>
  rw[ma,h x ax,pure_bind];exact ih (λy hy=>h y (bc _ hy)) _
def jD (cells:List (Str×aa))(p:Str×NameKind)(cs:List (Str×aa)):List (Str×aa):=if p.2== .free then(p.1,(cells.lookup p.1).getD 0)::cs else cs
def sZ (names:List (Str×NameKind))(cells:List (Str×aa)):List (Str×aa):=names.foldl (λcs p=>jD cells p cs) []
theorem zjn {scope:kb}{env:lc}(h: ∀p∈scope.names,p.2= .free->∃c,env.cells.lookup p.1=some c):closureFor scope env=pure (sZ scope.names env.cells):=by
 unfold closureFor;dsimp only;rw[zsD (g:=λp cs=>jD env.cells p cs) (λp hp cs=> ?_)]
 ·rfl
 ·obtain⟨n,k⟩:=p
  unfold jD;by_cases hk:k= .free
  ·obtain⟨c,e⟩:=h _ hp hk
   subst hk;simp only[cellOf,e,beq_self_eq_true,if_true,wx]
   rfl
  ·have:(k==NameKind.free)=false:=by simpa using hk
   simp only[this,gk,if_false]
theorem zm9 {cells:List (Str×aa)} : ∀(names:List (Str×NameKind)) (yc:List (Str×aa)) (p:Str×aa),p∈names.foldl (λcs q=>jD cells q cs) yc->p∈yc∨((p.1,NameKind.free)∈names/\p.2=(cells.lookup p.1).getD 0)
 | [],yc,p,h=> .inl h
 | q::r,yc,p,h=>by
  rw[nn]at h;rcases zm9 r _ p h with h | ⟨h1,h2⟩
  ·unfold jD at h
   obtain⟨n,k⟩:=q
   split at h
   ·rename_i hk
    rcases ar.mp h with e | h
    ·refine .inr ⟨?_,by rw[e]⟩
     have hk':k= .free:=by simpa using hk
     rw[e,hk'];exact ax
    ·exact .inl h
   ·exact .inl h
  ·exact .inr ⟨bc _ h1,h2⟩
theorem zjj {cells:List (Str×aa)}{x:Str} : ∀(names:List (Str×NameKind)) (yc:List (Str×aa)),((x,NameKind.free)∈names∨∃c,(x,c)∈yc)->∃c,(x,c)∈names.foldl (λcs q=>jD cells q cs) yc
 | [],yc,h=>by
  rcases h with h | h
  ·cases h
  ·exact h
 | q::r,yc,h=>by
  rw[nn];refine zjj r _ ?_;rcases h with h | ⟨c,h⟩
  ·rcases ar.mp h with e | h
   ·refine .inr ⟨(cells.lookup x).getD 0,?_⟩
    rw[<- e];show _∈(if(NameKind.free==NameKind.free)=true then _ else _);rw[if_pos 4#0];exact ax
   ·exact .inl h
  ·refine .inr ⟨c,?_⟩
   unfold jD
   split
   ·exact bc _ h
   ·exact h
theorem zm2 {β:Type}{x:Str} : ∀{l:List (Str×β)} {c:β},(x,c)∈l->∃d,l.lookup x=some d
 | [],_,h=>nomatch h
 | (y,d)::r,c,h=>by
  rw[gc];by_cases e:x=y
  ·subst e;exact⟨d,3#0⟩
  ·rcases ar.mp h with q | q
   ·cases q;exact absurd rfl e
   ·obtain⟨d',q'⟩:=zm2 q
    have:(x==y)=false:=by simpa using e
    rw[this];exact⟨d',q'⟩
theorem zjk {names:List (Str×NameKind)}{cells:List (Str×aa)}{x:Str}{c:aa}(h:(sZ names cells).lookup x=some c):(x,NameKind.free)∈names/\c=(cells.lookup x).getD 0:=by
 rcases zm9 names [] (x,c) (gz h)with h | h
 ·cases h
 ·exact h
theorem zjl {names:List (Str×NameKind)}{cells:List (Str×aa)}{x:Str}(h:(x,NameKind.free)∈names):(sZ names cells).lookup x=some ((cells.lookup x).getD 0):=by
 obtain⟨c,hc⟩:=zjj (cells:=cells) names [] (.inl h);obtain⟨d,hd⟩:=zm2 hc;rw[show(sZ names cells).lookup x=some d from hd,(zjk hd).2]
abbrev wQ (X:Cx)(scope:kb)(Nc:List Str)(C:aa)(s:ag)(H:Hp)(fp:List aa)(mt:List 9#3):Cx:=
 {X with N:=Nc,s₀:=s,H₀:=H,env:=compEnvC scope 3#6 C X.env,outer:=X.stack,stack:=X.stack,ex:=fp,fn:=λ_=>false,pn:=X.pn++mt,xe:=λ_ _=>False}
structure oJ (X:Cx)(scope:kb)(N' own:List Str):Prop where
 kind:scope.kind= .function
 nocell: ∀y∈scope.names,y.2≠ .cell
 names: ∀y∈scope.names,y.2= .local->scope.names.lookup y.1=some .local
 frees: ∀y∈scope.names,y.2= .free->X.env.scope.names.lookup y.1=some .cell∨X.env.scope.names.lookup y.1=some .free
 len:N'.length=X.N.length
 pre: ∀(i:Nat) (y:Str),N'[i]?=some y->X.N[i]?=some y∨(y,NameKind.free)∉scope.names
 nol: ∀y∈N',scope.names.lookup y≠some .local
theorem zau {env:lc}{x:Str} : ∀{names:List (Str×NameKind)} {k:NameKind},
  (names.map λ(n,k)=>if(k==NameKind.free&&env.scope.kind== .function&&env.kindOf n==some .cell)then(n,NameKind.cell)else(n,k)).lookup x=some k->
  names.lookup x=some k∨(k= .cell/\names.lookup x=some .free)
 | [],k,h=>by simp at h
 | (n,j)::r,k,h=>by
  have h':List.lookup x ((if(j==NameKind.free&&env.scope.kind== .function&&env.kindOf n==some .cell)=true then(n,NameKind.cell)else(n,j))::
   r.map λ(n,k)=>if(k==NameKind.free&&env.scope.kind== .function&&env.kindOf n==some .cell)then(n,NameKind.cell)else(n,k))=some k:=h
  cases hx:x==n with
  | true=>
   by_cases hc:(j==NameKind.free&&env.scope.kind== .function&&env.kindOf n==some .cell)=true
   ·rw[if_pos hc]at h'
    simp only[gc,hx]at h'⊢
    simp only[bv,beq_iff_eq]at hc;cases h';exact .inr ⟨rfl,by rw[hc.1.1]⟩
   ·rw[if_neg hc]at h'
    simp only[gc,hx]at h'⊢
    exact .inl h'
  | false=>
   have q:(r.map λ(n,k)=>if(k==NameKind.free&&env.scope.kind== .function&&env.kindOf n==some .cell)then(n,NameKind.cell)else(n,k)).lookup x=some k:=by
    by_cases hc:(j==NameKind.free&&env.scope.kind== .function&&env.kindOf n==some .cell)=true
    ·rw[if_pos hc]at h';simpa only[gc,hx]using h'
    ·rw[if_neg hc]at h';simpa only[gc,hx]using h'
   simp only[gc,hx];exact zau q
section
variable {X:Cx} {mt:List (aa×aj)} {σ:St} {H:Hp} {s:ag} {scope:kb} {N' own:List Str}
theorem oJ.cells (S:oJ X scope N' own)(I:z9 X mt σ H s): ∀p∈scope.names,p.2= .free->∃c,X.env.cells.lookup p.1=some c:=λp hp hk=>I.ok.has p.1 (S.frees p hp hk)
theorem mJ (S:oJ X scope N' own)(I:z9 X mt σ H s){x:Str}{c:aa}(h:(sZ scope.names X.env.cells).lookup x=some c):X.env.cells.lookup x=some c:=by
 obtain⟨hm,e⟩:=zjk h;obtain⟨d,hd⟩:=S.cells I _ hm rfl;rw[hd]at e;rw[hd,e]
 rfl
theorem zlZ (S:oJ X scope N' own)(I:z9 X mt σ H s){C D:aa}{oD:aj}{fp:List aa}{h4:cf}{tk:Nat}{m:Str->Option ad}(k: ∀b u,s.heap.get? b=some u->h4.get? b=some u)(hC:s.heap.objs.size<=C)(hD:s.heap.objs.size<=D)(hDC:D≠C)(eD:h4.get? D=some oD)(cD: ∀v,oD.data≠ .cell v)
  (ns:h4.Ns C m) (ff: ∀b∈fp,pG X mt H b) (fl: ∀b∈fp,b < s.heap.objs.size):
  z9 1#3 [(D,oD)] (σ++List.replicate own.length none) H {s with heap:=h4,toks:=tk} :=by
 have nostk: ∀{b:aa},s.heap.objs.size<=b->b∉tU X.stack:=λ{b} hb hm=>by
  rcases ar.mp (I.stkSub b hm)with e | hm
  ·rw[e]at hb;exact absurd (bp I.lt hb) (cy _)
  ·exact I.nofs hb hm
 have lk: ∀x,((compEnvC scope 3#6 C X.env).kindOf x=some .cell∨(compEnvC scope 3#6 C X.env).kindOf x=some .free)->(x,NameKind.free)∈scope.names:=λx hx=>by
  have q:scope.names.lookup x=some .cell∨scope.names.lookup x=some .free:=by
   rcases hx with hx | hx
   ·rcases zau (env:=X.env) (names:=scope.names) hx with q | ⟨_,q⟩
    ·exact .inl q
    ·exact .inr q
   ·rcases zau (env:=X.env) (names:=scope.names) hx with q | ⟨z,_⟩
    ·exact .inr q
    ·cases z
  rcases q with q | q
  ·exact absurd rfl (S.nocell _ (gz q))
  ·exact gz q
 refine⟨⟨I.ok.mod,S.kind,I.ok.glob,I.ok.blt,hC,λx y c h1 h2=> ?_,λx hx=> ?_,λx c h=> ?_,I.ok.hd,I.ok.frames,.inl rfl,λb hb=>⟨?_,λx c h=> ?_⟩,I.bs,cb I.ok.bsz I.sz,λb o e hb=> ?_,λb hb hm=> ?_,I.stack,I.stkFree⟩,
  rfl,I.bare,Un.kept k,⟨m,ns,λi x v e1 e2 e3=> ?_⟩,λx c h=> ?_,I.hok.fresh hC,λx c h=> ?_,λp hp=> ?_,I.hok.kept k,?_⟩
 ·exact I.ok.inj x y c (mJ S I h1) (mJ S I h2)
 ·exact⟨_,zjl (lk x hx)⟩
 ·cases h
 ·have:=fl b hb;intro e;rw[e]at this;exact absurd (bp this hC) (cy _)
 ·exact(ff b hb).2.2.2.2.1 x c (mJ S I h)
 ·rcases(ff b hb).2.2.2.1 with z | z
  ·exact I.ok.noex b o e z
  ·exact absurd (bp (aw e) (cb I.ok.bsz z)) (cy _)
 ·rcases ar.mp (I.stkSub b hm)with e | hm
  ·exact(ff b hb).2.1 e
  ·exact(ff b hb).2.2.1 hm
 ·-- names
  have hi:i < σ.length:=by
   by_cases hi:i < σ.length
   ·exact hi
   ·rw[dg 0#0,ko]at e2
    split at e2 <;> cases e2
  rw[cn hi]at e2;have hN:N'[i]?=some x:=by
   have e1':(N'++own)[i]?=some x:=e1;rw[cn (by rw[S.len,<- I.len];exact hi)]at e1';exact e1'
  have e3':((compEnvC scope 3#6 C X.env).kindOf x=some .cell∨(compEnvC scope 3#6 C X.env).kindOf x=some .free)∨(compEnvC scope 3#6 C X.env).kindOf x=some .local:=by
   rcases e3 with z | z | z
   ·exact .inr z
   ·exact .inl (.inl z)
   ·exact .inl (.inr z)
  rcases e3' with e3' | e3'
  ·have hm:=lk x e3'
   rcases S.pre i x hN with hX | hX
   ·have fr:=S.frees _ hm rfl
    obtain⟨m0,hn0,hl0⟩:=I.loc;obtain⟨u,r,l⟩:=hl0 i x v hX e2 (by rcases fr with z | z;exact .inr (.inl z);exact .inr (.inr z));refine⟨u,r,.inr ⟨e3',?_⟩⟩;rcases l with⟨z,_⟩ | ⟨_,c,ec,⟨o,ho,hd⟩⟩
    ·rcases fr with f | f <;> (have z':X.env.scope.names.lookup x=some .local:=z;rw[f]at z';cases z')
    ·refine⟨c,?_,⟨o,k _ _ ho,hd⟩⟩
     show(sZ scope.names X.env.cells).lookup x=some c;rw[zjl hm,ec]
     rfl
   ·exact absurd hm hX
  ·-- a local of the block among the outer names:hidden
   rcases zau (env:=X.env) (names:=scope.names) e3' with q | ⟨z,_⟩
   ·exact absurd q (S.nol x (bf hN))
   ·cases z
 ·obtain⟨v,o,ho,hd⟩:=I.cell x c (mJ S I h)
  exact⟨v,o,k _ _ ho,hd⟩
 ·exact I.freeC x c (mJ S I h)
 ·have hp':p∈(X.pn++mt)++ [(D,oD)]:=hp
  rcases bi.mp hp' with hp' | hp'
  ·obtain⟨e,n,ne,nf,d⟩:=I.pin p hp'
   refine⟨k _ _ e,n,bo (bp (aw e) hC),λhm=> ?_,d⟩;rcases ar.mp (I.stkSub p.1 hm)with z | z
   ·exact ne z
   ·exact nf z
  ·have e:p=(D,oD):=by simpa using hp'
   subst e;exact⟨eD,I.hok.fresh hD,hDC,nostk hD,cD⟩
 ·show(σ++List.replicate own.length none).length=(N'++own).length
  rw[af,af,iw,S.len,I.len]
abbrev zbW (yl:List Expr)(env:lc):Sem Bool:=forIn yl true λc r=>if r=true then do let ok <- isTrue c env (eval c env);pure (ForInStep.yield ok)else pure (ForInStep.yield r)
theorem zjo {prog:br}{w:bz}{A:ci}{R:Result->ag->Prop}{s:ag}{yn xq iter:Expr}{yl:List Expr}{scope:kb}{pos:di}{it yc:ad}{env:lc}(I:Nat->ag->Prop)
  (turn: ∀n s,I n s->av 6#2 A (pyNext it) (λr s₁=>match r with
   | none=>R (.ok .next) s₁
   | some v=>av 6#2 A (letOwnedTupleGo xq it v) (λ_ s₁'=>av 6#2 A (assign xq env v) (λ_ s₂=>
     av 6#2 A (zbW yl env) (λok s₃=>
      if ok=true then av 6#2 A (eval yn env) (λx s₄=>
       av 6#2 A (call (.builtin "list.append") [yc,x]) (λ_ s₅=> ∃m,m < n/\I m s₅) 5#5 s₄) 5#5 s₃
      else ∃m,m < n/\I m s₃) 5#5 s₂) 5#5 s₁') 5#5 s₁) 5#5 s)
  (n:Nat) (h:I n s):
  jf 6#2 A (.compLoop 9#2 0 it yc env) R s:=by
 refine codeAny_loop rfl I (λn s hI=> ?_) n h;show av _ A ((compTurn 9#2 0 it yc env).onRaise (λx=>do noteFrame x env;theTreesLotGoes x)) _ _ s;refine wpAny_noted ?_;rw[compTurn_list];refine ac (qi (ac (gu (turn n s hI) (λr s₁ h₁=> ?_) λ_ _ h'=>h')));cases r with
 | none=>exact al h₁
 | some v=>
  refine ac (gu h₁ (λ_ s₁' h₁'=> ?_) λ_ _ h'=>h');refine ac (gu h₁' (λ_ s₂ h₂=>ac (gu h₂ (λok s₃ h₃=> ?_) λ_ _ h'=>h')) λ_ _ h'=>h');cases ok with
  | false=>exact al ⟨rfl,h₃⟩
  | true=>
   exact ac (ac (gu h₃ (λx s₄ h₄=>ac (gu h₄ (λ_ s₅ h₅=>al (al ⟨rfl,h₅⟩)) λ_ _ h'=>h')) λ_ _ h'=>h'))
structure PF (X:Cx)(yl:List Expr)(t:TT):Prop where
 run:
  ∀(mt:List 9#3) (s:ag) (σ:St) (H:Hp) (Q:Bool->Hp->Prop),z9 X mt σ H s->t σ H Q->av 3#2 X.A (zbW yl X.env) (TP X mt σ Q) X.xe s
instance {X:Cx} {yl:List Expr} {t:TT} :CoeFun (PF X yl t) λ_=>
 ∀(mt:List 9#3) (s:ag) (σ:St) (H:Hp) (Q:Bool->Hp->Prop),z9 X mt σ H s->t σ H Q->av 3#2 X.A (zbW yl X.env) (TP X mt σ Q) X.xe s
  :=⟨PF.run⟩
def zzz:TT:=λ_ H Q=>Q true H
theorem zw3 {X:Cx} :PF X [] zzz:=⟨λ_ _ _ H _ I h=>wpAny_tests_nil ⟨H,I,h⟩⟩
theorem zw4 {X:Cx}{c:Expr}{t:TT}(h:PT X c t):PF X [c] t:=⟨λmt s σ H Q I q=>wpAny_tests_one (h mt s σ H Q I q)⟩
theorem gD {α:Type}{M:Model}{A:ci}{E:ad->ag->Prop}{s:ag}{t:Sem α}{Q Q':α->ag->Prop}(h:av M A t Q (λ_ _=>False) s)(k: ∀a s,Q a s->Q' a s):av M A t Q' E s:=gu h k λ_ _ z=>z.elim
def zhK (own:Nat)(J:It)(g:TG)(tt:TT)(te:TE)(Q:VK)(σ:St)(H1:Hp):Prop:= ∃W:Nat->Nat->List V->St->Hp->Prop,(∃m,W 0 m [] (σ++List.replicate own none) H1)/\∀i m ys σ' H',W i m ys σ' H'->
 (J.stop i H'/\ys.length<=am/\∀D,H' D=none->Q (.ref D) (zN H' D (.lst ys)))∨
 (J.go i H'/\ys.length < am/\∃N:List V->St->Hp->Prop,(∀ys σ3 H3,N ys σ3 H3->∃m',m' < m/\W (i+1) m' ys σ3 H3)/\
  ∀x H2,J.yld i H' x H2->g x σ' H2 λσ3 H3=>tt σ3 H3 λb H4=>if b=true then te σ3 H4 λy H5=>N (ys++ [y]) σ3 H5 else N ys σ3 H4)
def zaS (own:Nat)(wi:TI)(g:TG)(tt:TT)(te:TE):TE:=λσ H Q=>wi σ H λJ H1=>zhK own J g tt te Q σ H1
theorem zwn {yn xq iter:Expr}{yl:List Expr}{pos:di}{wi:TI}{g:TG}{tt:TT}{te:TE}(S:oJ X scope N' own)(hc:X.calm=true)(hi:PI X xq iter wi)
  (hg: ∀C s H fp mt,PG 1#3 xq g) (ht: ∀C s H fp mt,PF 1#3 yl tt) (he: ∀C s H fp mt,PE 1#3 yn te)
  (hs: ∀x,foldedSetIterable iter X.env x=pure x:=by intro _;rfl):
  PE X 9#2 (zaS own.length wi g tt te):=by
 constructor;intro mt s σ H Q I h;rw[eval_ListComp];refine se (use:=none) rfl hs (zjn (S.cells I)) S.kind S.names ?_;refine zY (hi mt s σ H _ I h) λv s1 h1=>zY h1 λitv s2 h2=> ?_;obtain⟨it,fp,tn,J,H2,e,I2,T,xr,f2,W,⟨m0,w0⟩,turn⟩:=h2;subst e;have fl: ∀b∈fp,b < s2.heap.objs.size:=λb hb=>by obtain⟨o,e,_⟩:=T.obj _ _ xr b hb;exact aw e
 refine dw (ux S.nocell (by intro y hy;simp at hy) (λh4 ns4 sb4=> ?_) S.kind);dsimp only at ns4 sb4⊢
 generalize hH3:s2.heap.push {cls:= .type 9#1,dict:=none,data:= .seq ([]:List ad).toArray} =h3 at ns4 sb4⊢
 have hC:h3.objs.size=s2.heap.objs.size+1:=by rw[<- hH3,du]
 have hDC:s2.heap.objs.size≠h3.objs.size:=by rw[hC];exact bo (ia _)
 have hCle:s2.heap.objs.size<=h3.objs.size:=by rw[hC];exact jt _
 have eD3:h3.get? s2.heap.objs.size=some {cls:= .type 9#1,data:= .seq ([]:List ad).toArray} :=hH3▸be _ rfl;have k4: ∀b u,s2.heap.get? b=some u->h4.get? b=some u:=λb u e=>
  (sb4.2 b (bo (bp (aw e) hCle))).trans (ak _ (hH3▸ak _ e))
 have eD4:h4.get? s2.heap.objs.size=some {cls:= .type 9#1,data:= .seq ([]:List ad).toArray} :=(sb4.2 _ hDC).trans (ak _ eD3);generalize hDd:s2.heap.objs.size=D at *;generalize hCd:h3.objs.size=C at *;have I4:=zlZ S I2 (C:=C) (D:=D) (fp:=fp) (h4:=h4) (tk:=s2.toks+([]:List (Str×ad)).length) k4 (by rw[hDd];exact hCle) (by rw[hDd];exact aq _) hDC eD4 (by intro v z;cases z) ns4 f2 (by rw[hDd];exact fl);have lowC: ∀(b:aa) (u:aj),s2.heap.get? b=some u->b≠C:=λb u e=>bo (bp (aw e) (by rw[hDd];exact hCle));have nofp: ∀b∈fp,b∉tU X.stack:=λb hb hm=>by
  rcases ar.mp (I2.stkSub b hm)with z | z
  ·exact(f2 b hb).2.1 z
  ·exact(f2 b hb).2.2.1 z
 have fpD: ∀b∈fp,b≠D:=λb hb=>bo (fl b hb);have yk: ∀{H':Hp} {o:aj},0#7->∀b∈fp,pG 2#3 [(D,o)] H' b:=λ{H' o} hn b hb=>
  ⟨hn b hb,bo (bp (fl b hb) hCle),nofp b hb,.inl hb,λx c e=>(f2 b hb).2.2.2.2.1 x c (mJ S I2 e),λp hp=>by
   have hp':p∈(X.pn++mt)++ [(D,o)]:=hp;rcases bi.mp hp' with z | z
   ·exact(f2 b hb).2.2.2.2.2 p z
   ·have e:p=(D,o):=by simpa using z
    rw[e];exact dh (fpD b hb)⟩
 have loop: ∀s3:ag,z9 2#3 [(D,{cls:= .type 9#1,data:= .seq ([]:List ad).toArray})] (σ++List.replicate own.length none) H2 s3->tn 0 s3.heap->
   jf 3#2 X.A (.compLoop 9#2 0 (.ref it) (.ref D) (compEnvC scope 3#6 C X.env))
    (compPost 3#2 X.A X.xe none 2#5 (.ref D) C) s3:=by
  intro s3 I3 yd;refine zjo (λn s'=> ∃(i:Nat) (ys:List V) (σ':St) (H':Hp) (yb:List ad) (cnt:Nat),z9 2#3 [(D,{cls:= .type 9#1,data:= .seq yb.toArray cnt})] σ' H' s'/\
   tn i s'.heap/\0#7/\zR ys yb/\W i n ys σ' H') ?_ m0 ⟨0,[],_,H2,[],0,I3,yd,λb hb=>(f2 b hb).1,.nil,w0⟩
  rintro n s3 ⟨i,ys,σ3,H3,yb,cnt,I3,yd,fr3,rv,w3⟩;rcases turn i n ys σ3 H3 w3 with⟨stop,hz,q⟩ | ⟨go,hz,N,hN,step⟩
  ·refine zY (T.done 2#3 rfl rfl rfl hc i _ s3 σ3 H3 _ I3 (yk fr3) yd stop) λr s4 ⟨hr,I4⟩=> ?_
   subst hr;obtain⟨m,ns,_⟩:=id I4.loc;refine⟨m,ns,λh' sb=> ?_⟩;have u4:Un (tU X.stack) fp H2 H3 s2.heap s4.heap:=I4.base;have nC:H3 C=none:=I4.free;have keepC: ∀(b:aa) (u:aj),b≠C->s4.heap.get? b=some u->h'.get? b=some u:=λb u hb e=>(sb.2 b hb).trans e;have u':Un (tU X.stack) fp H2 H3 s2.heap h':=
    ⟨λb o e n hb hx=>keepC b o (lowC b o e) (u4.keep b o e n hb hx),λb o e n hb hx=>let⟨sl,q⟩:=u4.slot b o e n hb hx;⟨sl,keepC _ _ (lowC b o e) q⟩,u4.free,λb o e hx=>let⟨o',q⟩:=u4.there b o e hx;⟨o',keepC _ _ (lowC b o e) q⟩,u4.tups,u4.frzs,u4.tbls⟩
   have hok':wD X.prog X.w H3 h':=λb u e=>(I4.hok b u e).stay (λc v hc' q=>keepC c v (by
    rintro rfl;rcases hc' with z | z
    ·rw[<- z,nC]at e;cases e
    ·rw[nC]at z;cases z) q) (λ_ q=>q) λ_ _ q=>q
   have I5:z9 X mt σ H3 {s4 with heap:=h'} :=I2.call' (ch:=fp) (s':= {s4 with heap:=h'}) I4.os u' hok' I4.bare λb hb=>⟨(f2 b hb).2.2.2.1,(f2 b hb).2.1,(f2 b hb).2.2.2.2.1,(f2 b hb).2.2.2.2.2⟩;obtain⟨eD,nD,_⟩:=I4.pin (D,_) (bm _ ax);refine⟨.ref D,zN H3 D (.lst ys),aM I5 nD (by rw[<- hDd];exact I2.sz) ?_ ?_ ?_ ⟨hz,yb,cnt,rv,keepC D _ hDC eD⟩,rfl,q D nD⟩
   ·have:=I2.lt;rw[hDd]at this;exact cp this
   ·intro x c e z
    obtain⟨v,o,ho,_⟩:=I2.cell x c e;have:=aw ho;rw[hDd,z]at this;exact cy _ this
   ·intro p hp z
    have:=aw (I2.pin p hp).1;rw[hDd,z]at this;exact cy _ this
  ·refine zY (T.item 2#3 rfl rfl rfl hc i _ s3 σ3 H3 _ I3 (yk fr3) yd go) λr s4 ⟨u,hr,h4⟩=> ?_
   subst hr;refine zY h4 λ_ s5 ⟨x,H5,I5,r5,y5,st5,fr5⟩=> ?_;have I5':=I5.pinned (yk fr5) (T.obj _ _ st5);have keepT: ∀{σ7:St} {H7:Hp} {s7:ag} {pl:List 9#3},z9 2#3 (pl++o5 fp s5.heap) σ7 H7 s7->tn (i+1) s7.heap/\∀b∈fp,H7 b=none:=λ{σ7 H7 s7 pl} I7=>
    ⟨T.keep _ _ _ st5 λb hb o e=>(I7.pin (b,o) (bm _ (bm _ (lV hb e)))).1,λb hb=>by
     obtain⟨o,e,d⟩:=T.obj _ _ st5 b hb;exact(I7.pin (b,o) (bm _ (bm _ (lV hb e)))).2.1⟩
   refine gD (hg C s2 H2 fp mt _ s5 σ3 H5 x u _ I5' r5 (step x H5 y5)) λ_ s6 ⟨σ6,H6,I6,q6⟩=> ?_;refine gD (ht C s2 H2 fp mt _ s6 σ6 H6 _ I6 q6) λb s7 ⟨H7,I7,q7⟩=> ?_;cases b with
   | false=>
    obtain⟨m',hm,w7⟩:=hN _ _ _ q7;obtain⟨t7,fr7⟩:=keepT I7;exact⟨m',hm,i+1,ys,σ6,H7,yb,cnt,I7.unpinned,t7,fr7,rv,w7⟩
   | true=>
    refine gD (he C s2 H2 fp mt _ s7 σ6 H7 _ I7 q7) λy s8 ⟨yv,H8,I8,r8,q8⟩=> ?_;obtain⟨m',hm,w8⟩:=hN _ _ _ q8;obtain⟨eD,nD,neD,nfD,cD⟩:=I8.pin (D,_) (bm _ (ja _ ax));have hvl:=rv.length;refine ll qa ⟨_,eD,rfl⟩ om (nj _ _) (qu D yb.toArray cnt y (by rw[bj];grobner)) ⟨eD,?_⟩;have I8':z9 2#3 (o5 fp s5.heap) σ6 H8 s8:=I8.pins_of λp hp=>I8.pin p (bm _ (bm _ hp));have hno: ∀p∈(X.pn++mt)++o5 fp s5.heap,p.1≠D:=λp hp=>by
     rcases bi.mp hp with z | z
     ·intro q
      have:=aw (I2.pin p z).1;rw[hDd,q]at this;exact cy _ this
     ·exact fpD _ (zgn z).1
    have I9:=I8'.turned (t':=s8.toks) (it:=D) (h':=s8.heap.update D (Obj.mapSeq λx=>x.push y)) (λb o hb e=>(cm s8.heap _ (dh hb)).trans e) nD neD (.inr (by show s2.heap.objs.size<=D;rw[hDd];exact aq _))
     (λx c e z=>by
      obtain⟨v,o,ho,_⟩:=I2.cell x c (mJ S I2 e);have:=aw ho;rw[hDd,z]at this;exact cy _ this) hno
    obtain⟨t9,fr9⟩:=keepT (pl:= []) I9;have qD: ∃n',(s8.heap.update D (Obj.mapSeq λx=>x.push y)).get? D=some {cls:= .type 9#1,data:= .seq (yb++ [y]).toArray n'} :=by
     have q:=sd (l:=D) (items:=yb.toArray) (n:=cnt) (h:=s8.heap) eD λx=>x.push y;have e:yb.toArray.push y=(yb++ [y]).toArray:=3#0
     rw[<- e];exact⟨_,q⟩
    obtain⟨n',qD⟩:=qD;refine⟨m',hm,i+1,ys++ [yv],σ6,H8,yb++ [y],n',I9.pins_of λp hp=> ?_,t9,fr9,rv.append (.cons r8 .nil),w8⟩;have e:=au.mp hp;rw[e];exact⟨qD,nD,neD,nfD,by intro v z;cases z⟩
 have t4:tn 0 h4:=T.keep _ _ _ xr λb _ o e=>k4 b o e;exact uc (loop _ I4 t4) (T.self _ 0 _ _ _ t4 (loop _ I4 t4))
end
def cM (x:Str):It:=⟨λi _=>i < x.cps.size,λi H v H'=>H'=H/\∃c,x.cps[i]?=some c/\v= .str ⟨#[c]⟩,λi _=>i=x.cps.size⟩
theorem zpw {P:br}{w:bz}{K:Frag}{tg:Expr}{n:String}(it:aa)(x:Str)(t:lx)(hn: [14#1,"zip","dict_itemiterator","dict_reverseitemiterator","odict_iterator","itertools.zip_longest","itertools.pairwise"].contains n=false)
  (W: ∀A:ci,A.handled=none->Walks P w A it [it] [it] x.cps.size (SignAt x) (λi h=>h.IsStrIter it n x t i))
  (hself: ∀(A:ci) (i:Nat) (s:ag) (Q:ad->ag->Prop) (E:ad->ag->Prop),s.heap.IsStrIter it n x t i->Q (.ref it) s->av (bb P w) A (pyIter (.ref it)) Q E s):
  lH P w K tg (cM x) [it] it (λi h=>h.IsStrIter it n x t i) where
 mem:=3#0
 obj:=λi h st b hb=>by
  have e:b=it:=by simpa using hb
  subst e;obtain⟨o,e,c,d⟩:=st;exact⟨o,e,λv z=>by rw[d]at z;cases z⟩
 keep:=λi h h' st k=>by
  obtain⟨o,e,r⟩:=st;exact⟨o,k it 3#0 o e,r⟩
 item:=by
  intro X hP hw hK hc i mt s σ H E I hf st hg;subst hP hw hK;obtain⟨f0,f1,f2,f3,f4,f5⟩:=hf it 3#0;refine(W X.A (I.ok.hd hc)).item i s _ _ hg st λv h' tk hv xp kk=> ?_;obtain⟨c,u,ec,rfl⟩:=hv;have I1:z9 X mt σ H {s with heap:=h',toks:=tk} :=I.turned (λb o hb e=>kk b o (by simpa using hb) e) f0 f1 f3 f4 f5;obtain⟨o,e,c',d⟩:=id xp;exact⟨_,rfl,aI (s:= {s with heap:=h',toks:=tk}) e c' d hn ⟨.str ⟨#[c]⟩,H,I1,⟨u,rfl⟩,⟨rfl,c,ec,rfl⟩,xp,λb hb=>(hf b hb).1⟩⟩
 done:=by
  intro X hP hw hK hc i mt s σ H E I hf st hg;subst hP hw hK;obtain⟨f0,f1,f2,f3,f4,f5⟩:=hf it 3#0;have hg':i=x.cps.size:=hg;subst hg';exact(W X.A (I.ok.hd hc)).done s _ _ st λh' tk kk=>⟨rfl,I.turned (λb o hb e=>kk b o (by simpa using hb) e) f0 f1 f3 f4 f5⟩
 self:=hself
section
variable {X:Cx} {tg:Expr}
theorem ziV {bs:List Bool} : ∀{us:List ad},zR (bs.map V.bl) us->LSm.BoolsAre us bs:=by
 induction bs with
 | nil=>intro us r;rw[kg]at r;cases r;exact .nil
 | cons n ns ih=>
  intro us r;rw[cc]at r;cases r with
  | cons r1 r2=>
   have e:_=Value.bool n:=r1;subst e;exact .cons n (ih r2)
theorem zoW {bs:List Str} : ∀{us:List ad},zR (bs.map V.str) us->StrsAre us bs:=by
 induction bs with
 | nil=>intro us r;rw[kg]at r;cases r;exact .nil
 | cons n ns ih=>
  intro us r;rw[cc]at r;cases r with
  | cons r1 r2=>
   obtain⟨t,e⟩:=r1;subst e;exact .cons n t (ih r2)
theorem zrD (hc:X.calm=true):vF X (.builtin "all") (λxs H Q=> ∃(l:aa) (bs:List Bool),xs= [.ref l]/\xA X.K H l (bs.map V.bl)/\Q (.bl (bs.all id)) H):=by
 intro mt s σ H xs us Q I r h;obtain⟨l,bs,rfl,hl,q⟩:=h;obtain⟨u,rfl,ru⟩:=pF r;cases ru;obtain⟨xn,rv,p,_⟩:=I.list hl;have yf:l < s.heap.objs.size:=p.lt;refine call_all_walk (qw p.isList ?_);refine⟨s.heap.objs.size,[s.heap.objs.size,l],[s.heap.objs.size],xn.toArray.size,_,_,λi=>(bs[i]?).getD true,rfl,Walks.list (A:=X.A.in1) (I.ok.hd hc) _ l (bo yf) xn.toArray,
  ⟨⟨_,be _ rfl,rfl,rfl⟩,p.isList.push _⟩,λi v s' Q' E' hP hQ=> ?_,λh' tk hk=> ?_⟩
 ·obtain⟨b,e,rfl⟩:=(ziV rv).get i v (by simpa using hP)
  simp only[e,wx]at hQ;exact qq hQ
 ·have e:((List.range xn.toArray.size).all λi=>(bs[i]?).getD true)=bs.all id:=by
   rw[bj,(ziV rv).length];exact LSm.range_all bs
  rw[e];exact⟨.bl (bs.all id),H,I.kept (LSm.kept_iter hk),rfl,q⟩
def zxA (K:Frag):V->List V->Hp->VK->Prop:=λx vs H Q=> ∃(sep:Str) (l:aa) (ys:List Str),x= .str sep/\vs= [.ref l]/\xA K H l (ys.map V.str)/\(ys.map (·.length)).sum+ys.length * sep.length<=16777216/\Q (.str (Txt.join sep ys)) H
theorem zu1:sW X "str.join" (zxA X.K):=by
 intro mt s σ H x xs v us Q I rx rv h;obtain⟨sep,l,ys,rfl,rfl,hl,hz,q⟩:=h;obtain⟨t,rfl⟩:=rx;obtain⟨u,rfl,ru⟩:=zR.one rv;cases ru;obtain⟨xn,r,p,_⟩:=I.list hl;exact join_list p.isList (by simpa using zoW r) hz λt' k=>⟨.str (Txt.join sep ys),H,I.tok _,⟨t',rfl⟩,q⟩
def zxJ:V->Option Int->Option Int->Hp->VK->Prop:=λx lo hi H Q=> ∃z,x= .str z/\z.length<=am/\((Txt.slice z lo hi).length<=z.length->Q (.str (Txt.slice z lo hi)) H)
theorem zy5:fF X zxJ:=by
 intro mt s σ H x v vl vu lo hi sl Q I rx hs pl pu h;obtain⟨z,rfl,hz,q⟩:=h;obtain⟨t,rfl⟩:=rx;obtain⟨o,e,c,d⟩:=hs;have fin: ∀t' k,EP X mt σ Q (.str (Txt.slice z lo hi) t') {s with toks:=k} :=λt' k=>⟨.str (Txt.slice z lo hi),H,I.tok k,⟨t',rfl⟩,q (nq z _ _)⟩;refine⟨"str",_,F.slot_str_getitem.lookup,ni _ _ _,?_⟩;cases pl with
 | none=>
  cases pu with
  | none=>exact kq (l:=none) (u:=none) (st:=none) ⟨o,e,c,d⟩ rfl (nr ⟨cb (nq z _ _) hz,fin⟩)
  | int j uj=>exact kq (l:=none) (u:=some (j,uj)) (st:=none) ⟨o,e,c,d⟩ rfl (nr ⟨cb (nq z _ _) hz,fin⟩)
 | int i ui=>
  cases pu with
  | none=>exact kq (l:=some (i,ui)) (u:=none) (st:=none) ⟨o,e,c,d⟩ rfl (nr ⟨cb (nq z _ _) hz,fin⟩)
  | int j uj=>exact kq (l:=some (i,ui)) (u:=some (j,uj)) (st:=none) ⟨o,e,c,d⟩ rfl (nr ⟨cb (nq z _ _) hz,fin⟩)
end
def zji (fsc scope:kb)(N N':List Str):Bool:=
 scope.kind== .function&&scope.names.all (λy=>y.2 != .cell&&(y.2 != .local||scope.names.lookup y.1==some .local)&&(y.2 != .free||(fsc.names.lookup y.1==some .cell||fsc.names.lookup y.1==some .free)))
  &&N'.length==N.length&&(N'.zip N).all (λp=>p.1==p.2|| !(scope.names.any λq=>q.1==p.1&&q.2== .free))&&N'.all (λy=>scope.names.lookup y !=some .local)
theorem vV {X:Cx}{scope fsc:kb}{N N' own:List Str}(hX:X.env.scope=fsc)(hN:X.N=N)(h:zji fsc scope N N'=true):oJ X scope N' own:=by
 unfold zji at h;simp only[bv,dk,beq_iff_eq,bne_iff_ne,xf,ne_eq]at h;obtain⟨⟨⟨⟨h1,h2⟩,h3⟩,h4⟩,h5⟩:=h;subst hX hN;refine⟨h1,λy hy=>(h2 y hy).1.1,λy hy e=> ?_,λy hy e=> ?_,h3,λi y e=> ?_,λy hy=>h5 y hy⟩
 ·rcases(h2 y hy).1.2 with z | z
  ·exact absurd e z
  ·exact z
 ·rcases(h2 y hy).2 with z | z
  ·exact absurd e z
  ·exact z
 ·have hi:i < N'.length:=(ba.mp e).1
  have e2:X.N[i]?=some X.N[i]:=bn 0#0;have m:(y,X.N[i])∈N'.zip X.N:=by
   refine List.mem_iff_getElem?.mpr ⟨i,?_⟩;rw[rj];exact⟨e,e2⟩
  rcases h4 _ m with z | z
  ·left
   rw[e2];have z':y=X.N[i]:=z;rw[<- z']
  ·right
   intro q;have z':(!(scope.names.any λq=>q.1==y&&q.2== .free))=true:=z;rw[qx,wf]at z';exact z' _ q 3#0
theorem zrl {α:Type}(xs:List α){d:Int}(h0:0<=d)(h1:d < xs.length): ∃y,y∈xs/\atI xs d=some y:=by
 have hn:d.toNat < xs.length:=0#0
 refine⟨xs[d.toNat],lm hn,?_⟩;unfold atI uH;rw[if_pos h0,if_pos h1];exact bn hn
theorem zpH: ∀{xs:List V} {us:List ad},xs.length=us.length->(∀(j:Nat) (v:ad) (x:V),us[j]?=some v->xs[j]?=some x->y4 x v)->zR xs us
 | [],[],_,_=> .nil
 | x::xs,u::us,h,r=> .cons (r 0 u x rfl rfl) (zpH (by simpa using h) λj v y a b=>r (j+1) v y a b)
theorem ztF {kvs:List (zK×V)}{vs:List (zK×ad)}(r:KV kvs vs):kvs.length=vs.length:=gx r
theorem zmr: ∀{kvs:List (zK×V)} {vs:List (zK×ad)} {i:Nat} {k:zK} {x:ad},KV kvs vs->vs[i]?=some (k,x)->∃y,kvs[i]?=some (k,y)
 | _,_,0,k,x,.cons (a:=p) r _,h=>by
  rw[kr]at h;rw[ca h]at r;have e:p.1=k:=r.1;exact⟨p.2,by rw[kr,<- e]⟩
 | _,_,i+1,k,x,.cons _ r,h=>by
  obtain⟨y,e⟩:=zmr (i:=i) r (by simpa using h);exact⟨y,by simpa using e⟩
def gV (K:Frag)(H:Hp):Nat->V->V->Prop
 | 0,x,y=>x=y/\(r9 x=true∨∃a,x= .ref a)
 | n+1,x,y=>(x=y/\(r9 x=true∨∃a,x= .ref a))∨∃a b xs ys,x= .ref a/\y= .ref b/\((xV K H a xs/\xV K H b ys)∨(xA K H a xs/\xA K H b ys))/\Paired (gV K H n) xs ys
theorem zsA {x:V}(h:r9 x=true):r0 x x=true:=by
 cases x with
 | non=>rfl
 | bl b=>simp[r0]
 | int i=>simp[r0]
 | str z=>simp[r0]
 | _=>cases h
section
variable {X:Cx} {mt:List (aa×aj)} {σ:St} {H:Hp} {s:ag}
theorem zj7 {A:ci}{x y:V}{u v:ad}(h:x=y/\(r9 x=true∨∃a,x= .ref a))(ru:y4 x u)(rv:y4 y v):SeqAt.EqAt A s u v true:=by
 obtain⟨rfl,h | ⟨a,rfl⟩⟩:=h
 ·rw[<- zsA h];exact zj3 ru rv h h
 ·cases ru;cases rv;exact ly _
theorem zn0 {α β:Type}{R:α->β->Prop}{l:List α}{m:List β}(h:Paired R l m):l.length=m.length:=gx h
theorem zgq {α β:Type}{R:α->β->Prop} : ∀{l:List α} {m:List β} {j:Nat} {a:α} {b:β},Paired R l m->l[j]?=some a->m[j]?=some b->R a b
 | _,_,0,a,b,.cons r _,h1,h2=>by
  rw[kr]at h1 h2;rw[<- ca h1,<- ca h2];exact r
 | _,_,j+1,a,b,.cons _ r,h1,h2=>zgq (j:=j) r (by simpa using h1) (by simpa using h2)
theorem zbb {xs:List V}{xn:List ad}(r:zR xs xn){j:Nat}(h:j < xn.toArray.size): ∃x,xs[j]?=some x/\y4 x xn.toArray[j]:=by
 have hj:j < xs.length:=by rw[r.length];simpa using h
 obtain⟨u,e,ru⟩:=r.get (i:=j) (x:=xs[j]) (by simp[hj]);refine⟨xs[j],by simp[hj],?_⟩;have:xn[j]?=some xn.toArray[j]:=3#0
 rw[this]at e;rw[ca e];exact ru
theorem aN {n:Nat}{A:ci}{xs ys:List V}{xn xu:List ad}(ih: ∀(x y:V) (u v:ad),gV X.K H n x y->y4 x u->y4 y v->SeqAt.EqAt A s u v true)(r:zR xs xn)(r2:zR ys xu)(hp:Paired (gV X.K H n) xs ys):
  ∀j (h1:j < xn.toArray.size) (h2:j < xu.toArray.size),SeqAt.EqAt A s xn.toArray[j] xu.toArray[j] ((λ_=>true) j):=λj h1 h2=>by
 obtain⟨x,ex,rx⟩:=zbb r h1;obtain⟨y,ey,ry⟩:=zbb r2 h2;exact ih x y _ _ (zgq hp ex ey) rx ry
theorem zj8 (I:z9 X mt σ H s): ∀(n:Nat) (A:ci) (x y:V) (u v:ad),A.units+n < cLine->gV X.K H n x y->y4 x u->y4 y v->SeqAt.EqAt A s u v true
 | 0,A,x,y,u,v,_,h,ru,rv=>zj7 h ru rv
 | n+1,A,x,y,u,v,hu,h,ru,rv=>by
  rcases h with h | ⟨a,b,xs,ys,rfl,rfl,h,hp⟩
  ·exact zj7 h ru rv
  ·cases ru
   cases rv;by_cases hab:a=b
   ·subst hab;exact ly _
   have hl:=zn0 hp;have ih:=λ(x y:V) (u v:ad)=>zj8 I n A.in1 x y u v (by show A.units+1+n < cLine;grobner);have hu':A.units < cLine:=0#0
   rcases h with⟨h1,h2⟩ | ⟨h1,h2⟩
   ·obtain⟨xn,r,p,_⟩:=I.tuple h1
    obtain⟨xu,r2,p2,_⟩:=I.tuple h2;have:=qy (A:=A) (e:=λ_=>true) (show s.heap.IsTuple a xn.toArray from p) (show s.heap.IsTuple b xu.toArray from p2) hu' (aN ih r r2 hp);have e:((List.range (min xn.toArray.size xu.toArray.size)).all (λ_=>true)&&xn.toArray.size==xu.toArray.size)=true:=by
     have l1:=r.length;have l2:=r2.length;simp;grobner
    rw[e]at this;exact mh hab this
   ·obtain⟨xn,r,p,_⟩:=I.list h1
    obtain⟨xu,r2,p2,_⟩:=I.list h2;have l1:=r.length;have l2:=r2.length;have:=sg (A:=A) (e:=λ_=>true) p.isList p2.isList (by simp;grobner) hu' (aN ih r r2 hp);have e:(List.range xn.toArray.size).all (λ_=>true)=true:=3#0
    rw[e]at this;exact mh hab this
def zpU (K:Frag)(H:Hp)(n:Nat)(x y:V):Prop:= ∃a b xs ys,x= .ref a/\y= .ref b/\((xV K H a xs/\xV K H b ys)∨(xA K H a xs/\xA K H b ys))/\Paired (gV K H n) xs ys
theorem zvQ (n:Nat)(hu:X.A.units+1+n < cLine):yW X (compareOp .NotEq) (λx y H Q=>zpU X.K H n x y/\Q (.bl false) H):=by
 intro mt s σ H x y v u Q I rx ry h;obtain⟨⟨a,b,xs,ys,rfl,rfl,h,hp⟩,q⟩:=h;cases rx;cases ry;have hl:=zn0 hp;have ih:=λ(x y:V) (u v:ad)=>zj8 I n X.A.in1 x y u v hu;have fin:EP X mt σ Q (.bool false) s:=⟨.bl false,H,I,rfl,q⟩;rcases h with⟨h1,h2⟩ | ⟨h1,h2⟩
 ·obtain⟨xn,r,p,_⟩:=I.tuple h1
  obtain⟨xu,r2,p2,_⟩:=I.tuple h2;refine(SeqAt.RcNeAt.tuples (e:=λ_=>true) (show s.heap.IsTuple a xn.toArray from p) (show s.heap.IsTuple b xu.toArray from p2) 0#0 (aN ih r r2 hp)) _ _ _ _ ?_;have e:((List.range (min xn.toArray.size xu.toArray.size)).all (λ_=>true)&&xn.toArray.size==xu.toArray.size)=true:=by
   have l1:=r.length;have l2:=r2.length;simp;grobner
  rw[e];exact fin
 ·obtain⟨xn,r,p,_⟩:=I.list h1
  obtain⟨xu,r2,p2,_⟩:=I.list h2;have l1:=r.length;have l2:=r2.length;refine(SeqAt.RcNeAt.lists (e:=λ_=>true) p.isList p2.isList (by simp;grobner) 0#0 (aN ih r r2 hp)) _ _ _ _ ?_;have e:(List.range xn.toArray.size).all (λ_=>true)=true:=3#0
  rw[e];exact fin
theorem zvP (hu:X.A.units+1 < cLine):yW X (compareOp .NotEq) (λx y H Q=> ∃a b xs,x= .ref a/\y= .ref b/\xA X.K H a xs/\xA X.K H b []/\Q (.bl (!xs.isEmpty)) H):=by
 intro mt s σ H x y v u Q I rx ry h;obtain⟨a,b,xs,rfl,rfl,h1,h2,q⟩:=h;cases xs with
 | nil=>exact zvQ 0 0#0 mt s σ H _ _ v u Q I rx ry ⟨⟨a,b,[],[],rfl,rfl,.inr ⟨h1,h2⟩,.nil⟩,q⟩
 | cons z r'=>
  cases rx;cases ry;obtain⟨xn,r,p,_⟩:=I.list h1;obtain⟨xu,r2,p2,_⟩:=I.list h2;have l1:=r.length;have l2:=r2.length;have ne:xn.length≠xu.length:=by rw[<- l1,<- l2];simp
  exact(qk p.isList p2.isList (by simpa using ne) 0#0) _ _ _ _ ⟨.bl true,H,I,rfl,q⟩
end
section
variable {X:Cx}
theorem zpJ: ∀{us:List ad} {ss:List Str},StrsAre us ss->zR (ss.map V.str) us
 | _,_,.nil=> .nil
 | _,_,.cons _ t r=> .cons ⟨t,rfl⟩ (zpJ r)
theorem znr:yW X (binaryOp .Mult) (λx y H Q=> ∃(z:Str) (n:Int),x= .str z/\y= .int n/\((n=0/\Q (.str Str.empty) H)∨(n=1/\Q (.str z) H))):=by
 intro mt s σ H x y v u Q I rx ry h;obtain⟨z,n,rfl,rfl,h⟩:=h;obtain⟨t,rfl⟩:=rx;obtain⟨t',rfl⟩:=ry;rcases h with⟨rfl,q⟩ | ⟨rfl,q⟩
 ·exact PySem.P.mul_str_none 2#0 2#0 ⟨.str Str.empty,H,I.tok _,⟨_,rfl⟩,q⟩
 ·refine PySem.P.mul_str 2#0 (λ_ h=>by cases h) (λ_ h=>by cases h) ?_
  rw[if_neg 2#0,if_pos (show((1:Int)==1||z.length==0)=true from rfl)];exact⟨.str z,H,I,⟨_,rfl⟩,q⟩
end
section
variable {prog:br} {w:bz} {A:ci} {E:ad->ag->Prop} {s:ag}
theorem zsO {t sl:aa}{items:Array ad}{vl vu:ad}{lo hi:Option Int}{Q:ad->ag->Prop}(ht:IsTup s.heap t items)(hs:s.heap.IsSliceOf sl vl vu .none)(pl:IsPart vl lo)(pu:IsPart vu hi)
  (hw:HT.sIx items.size 0 lo=0/\HT.sIx items.size items.size hi=items.size) (h:Q (.ref t) s):av 6#2 A (getItem (.ref t) (.ref sl)) Q E s:=by
 obtain⟨os,hos,hcs,hds⟩:=id hs;have hTs:s.TypeIs (.ref sl) "slice" :=⟨os,hos,hcs⟩;unfold getItem
 try with_reducible refine ga ?_
 first | refine ac (al ?_) | skip
 refine ac (wpAny_sequenceKey ht.typeIs 2#0 ?_);refine ac (fc (name:=Str.ofString "__getitem__") ht.typeIs gh
  (gb gh ht.typeIs vh ?_ (args_tuple_getitem _ _)))
 show av _ _ (Builtin.Tuple.tupleItemsOf (.ref t) >>= _) _ _ s;refine ac (tupleItemsOf_ ht ?_);refine ac (ld hTs ?_);rw[if_pos 2#0];refine ac (HT.sliceApplied_gen hs pl pu ?_);have hyes:((((HT.sIx items.size 0 lo:Nat):Int)==0&&(1:Int)==1&&(HT.sIx items.size items.size hi - HT.sIx items.size 0 lo)==items.size)=true):=by
  rw[hw.1,hw.2];simp
 show av _ _ (if(((HT.sIx items.size 0 lo:Nat):Int)==0&&(1:Int)==1&&(HT.sIx items.size items.size hi - HT.sIx items.size 0 lo)==items.size)=true then _ else _) _ _ s;rw[if_pos hyes];unfold Builtin.Tuple.tupleIsExact;refine ac (ac (ld ht.typeIs (al ?_)));rw[if_pos 2#0];refine ac (ju ?_)
 first
  | exact al ⟨_,rfl,al h⟩
  | exact ac (al (al ⟨_,rfl,al h⟩))
  | exact ac (al ⟨_,rfl,al h⟩)
end
section
variable {X:Cx}
def zsI (K:Frag)(n:Nat)(t:qL):TG:=λv σ H Q=> ∃a xs,v= .ref a/\xA K H a xs/\xs.length=n/\t xs σ H Q
theorem zw7 {es:List Expr}{k:Nat}{t:qL}{n:Nat}{pos:di}(hc:X.calm=true)(h:rQ X es t)
  (hn:(assignEach es X.env).length=n:=by rfl) (yx:(assignEach es X.env).findIdx? (·.1)=none:=by rfl):PG X (.Tuple es k pos) (zsI X.K n t):=⟨by
 intro mt s σ H v u Q I r hw;obtain⟨a,xs,e1,hq,hl,hw⟩:=hw;subst e1;cases r;obtain⟨xn,rv,ht,hz⟩:=I.list hq;rw[assign_Tuple];refine ac (qi ?_);unfold unpack;rw[show(assignEach es X.env).length=xn.toArray.size from by simp[hn,<- hl,rv.length],yx];refine ac (ga (PySem.W.kun_itemsOf (I.ok.hd hc) ht.isList λh' hx=> ?_));have I1:z9 X mt σ H {s with heap:=h'} :=I.kept (t':=s.toks) λb o e=>hx b o (bo (aw e)) e;exact h mt _ σ H xs _ Q I1 (by simpa using rv) hw⟩
variable {a b c d:Expr} {ta tb tc td:TE} {pos:di}
end
def zhS (f:aa)(o:aj):cf->Prop:=λh=>h.get? f=some o
def zhJ (c:aa)(q:Str):cf->Prop:=λh=> ∃o vs t,h.get? c=some o/\o.data= .fields vs/\vs[1]?=some (.str q t)
def less (H:Hp)(c:aa):Hp:=λb=>if b=c then none else H b
def z01 (H K:Hp)(c:aa):Hp:=λb=>if b=c then K c else H b
section
variable {X:Cx} {mt:List (aa×aj)} {σ:St} {H:Hp} {s:ag} {scope:kb} {N' own:List Str}
theorem znN {yn xq iter:Expr}{yl:List Expr}{pos spos pos':di}{i0:Nat}{x:Str}{wi:TI}{g:TG}{tt:TT}{te:TE}(hN:X.N.Nodup)(hi0:X.N[i0]?=some x)(hx:rP X.env.scope x)(S:oJ X scope N' own)(hc:X.calm=true)(hi:PI X xq iter wi)
  (hg: ∀C s H fp mt,PG 1#3 xq g) (ht: ∀C s H fp mt,PF 1#3 yl tt) (he: ∀C s H fp mt,PE 1#3 yn te)
  (hs: ∀x,foldedSetIterable iter X.env x=pure x:=by intro _;rfl) (hsw:swapsWith 9#2 (some (.Name x pos')) spos.line X.env=pure true:=by rfl)
  (hf:X.fn x=true∨X.env.scope.names.lookup x=some .local:=by first | exact .inl rfl | exact .inr rfl | assumption):
  PS X (.Assign [.Name x pos'] 9#2 spos) (gQ (zaS own.length wi g tt te) (iX i0)):=by
 refine⟨?_⟩;intro mt s σ H D0 I h;rw[exec_Assign_Name_used _ _ _ _ hsw];refine ac (qi (ac ?_));show av _ X.A (do let _ <- comprehension 9#2 scope X.env _ (newList []) false (eval iter X.env) (some (assign (.Name x pos') X.env))) _ _ s;refine ac (gu (se (use:=some (assign (.Name x pos') X.env)) (Q:=λ_ s'=>SP X mt D0 .next s') rfl hs (zjn (S.cells I)) S.kind S.names ?_) (λ_ s' hq=>al (al hq)) λ_ _ e=>e);refine zY (hi mt s σ H _ I h) λv s1 h1=>zY h1 λitv s2 h2=> ?_;obtain⟨it,fp,tn,J,H2,e,I2,T,xr,f2,W,⟨m0,w0⟩,turn⟩:=h2;subst e;have fl: ∀b∈fp,b < s2.heap.objs.size:=λb hb=>by obtain⟨o,e,_⟩:=T.obj _ _ xr b hb;exact aw e
 refine dw (ux S.nocell (by intro y hy;simp at hy) (λh4 ns4 sb4=> ?_) S.kind);dsimp only at ns4 sb4⊢
 generalize hH3:s2.heap.push {cls:= .type 9#1,dict:=none,data:= .seq ([]:List ad).toArray} =h3 at ns4 sb4⊢
 have hC:h3.objs.size=s2.heap.objs.size+1:=by rw[<- hH3,du]
 have hDC:s2.heap.objs.size≠h3.objs.size:=by rw[hC];exact bo (ia _)
 have hCle:s2.heap.objs.size<=h3.objs.size:=by rw[hC];exact jt _
 have eD3:h3.get? s2.heap.objs.size=some {cls:= .type 9#1,data:= .seq ([]:List ad).toArray} :=hH3▸be _ rfl;have k4: ∀b u,s2.heap.get? b=some u->h4.get? b=some u:=λb u e=>
  (sb4.2 b (bo (bp (aw e) hCle))).trans (ak _ (hH3▸ak _ e))
 have eD4:h4.get? s2.heap.objs.size=some {cls:= .type 9#1,data:= .seq ([]:List ad).toArray} :=(sb4.2 _ hDC).trans (ak _ eD3);generalize hDd:s2.heap.objs.size=D at *;generalize hCd:h3.objs.size=C at *;have I4:=zlZ S I2 (C:=C) (D:=D) (fp:=fp) (h4:=h4) (tk:=s2.toks+([]:List (Str×ad)).length) k4 (by rw[hDd];exact hCle) (by rw[hDd];exact aq _) hDC eD4 (by intro v z;cases z) ns4 f2 (by rw[hDd];exact fl);have lowC: ∀(b:aa) (u:aj),s2.heap.get? b=some u->b≠C:=λb u e=>bo (bp (aw e) (by rw[hDd];exact hCle));have nofp: ∀b∈fp,b∉tU X.stack:=λb hb hm=>by
  rcases ar.mp (I2.stkSub b hm)with z | z
  ·exact(f2 b hb).2.1 z
  ·exact(f2 b hb).2.2.1 z
 have fpD: ∀b∈fp,b≠D:=λb hb=>bo (fl b hb);have yk: ∀{H':Hp} {o:aj},0#7->∀b∈fp,pG 2#3 [(D,o)] H' b:=λ{H' o} hn b hb=>
  ⟨hn b hb,bo (bp (fl b hb) hCle),nofp b hb,.inl hb,λx c e=>(f2 b hb).2.2.2.2.1 x c (mJ S I2 e),λp hp=>by
   have hp':p∈(X.pn++mt)++ [(D,o)]:=hp;rcases bi.mp hp' with z | z
   ·exact(f2 b hb).2.2.2.2.2 p z
   ·have e:p=(D,o):=by simpa using z
    rw[e];exact dh (fpD b hb)⟩
 have loop: ∀s3:ag,z9 2#3 [(D,{cls:= .type 9#1,data:= .seq ([]:List ad).toArray})] (σ++List.replicate own.length none) H2 s3->tn 0 s3.heap->
   jf 3#2 X.A (.compLoop 9#2 0 (.ref it) (.ref D) (compEnvC scope 3#6 C X.env))
    (compPost 3#2 X.A X.xe (some (assign (.Name x pos') X.env)) (λ_ s'=>SP X mt D0 .next s') (.ref D) C) s3:=by
  intro s3 I3 yd;refine zjo (λn s'=> ∃(i:Nat) (ys:List V) (σ':St) (H':Hp) (yb:List ad) (cnt:Nat),z9 2#3 [(D,{cls:= .type 9#1,data:= .seq yb.toArray cnt})] σ' H' s'/\
   tn i s'.heap/\0#7/\zR ys yb/\W i n ys σ' H') ?_ m0 ⟨0,[],_,H2,[],0,I3,yd,λb hb=>(f2 b hb).1,.nil,w0⟩
  rintro n s3 ⟨i,ys,σ3,H3,yb,cnt,I3,yd,fr3,rv,w3⟩;rcases turn i n ys σ3 H3 w3 with⟨stop,hz,q⟩ | ⟨go,hz,N,hN,step⟩
  ·refine zY (T.done 2#3 rfl rfl rfl hc i _ s3 σ3 H3 _ I3 (yk fr3) yd stop) λr s4 ⟨hr,I4⟩=> ?_
   subst hr;obtain⟨m,ns,_⟩:=id I4.loc;have u4:Un (tU X.stack) fp H2 H3 s2.heap s4.heap:=I4.base;have nC:H3 C=none:=I4.free;have I5:z9 X mt σ H3 s4:=I2.call' (ch:=fp) I4.os u4 I4.hok I4.bare λb hb=>⟨(f2 b hb).2.2.2.1,(f2 b hb).2.1,(f2 b hb).2.2.2.2.1,(f2 b hb).2.2.2.2.2⟩;obtain⟨eD,nD,_⟩:=I4.pin (D,_) (bm _ ax);have lL:X.env.locals < D:=by have:=I2.lt;rw[hDd]at this;exact this
   have lcl: ∀x c,X.env.cells.lookup x=some c->c < D:=λx c e=>by
    obtain⟨v,o,ho,_⟩:=I2.cell x c e;have:=aw ho;rw[hDd]at this;exact this
   have lp: ∀p∈X.pn++mt,p.1 < D:=λp hp=>by have:=aw (I2.pin p hp).1;rw[hDd]at this;exact this
   have lDC:D < C:=Nat.lt_of_le_of_ne hCle hDC;have I6:z9 X mt σ (zN H3 D (.lst ys)) s4:=aM I5 nD (by rw[<- hDd];exact I2.sz) (cp lL) (λx c e=>bo (lcl x c e)) (λp hp=>bo (lp p hp)) ⟨hz,yb,cnt,rv,eD⟩;refine wpAny_assign_Name (zoT I6 hN hi0 hx (v:= .ref D) rfl (λs5 I7 ⟨a,sba,ha⟩=> ?_) hf);have nCa:C≠a:=by
    rcases ha with z | z
    ·rw[z];exact cp (mi lL lDC)
    ·exact cp (mi (lcl _ _ z) lDC)
   obtain⟨oC,esC,epC,eC,rC⟩:=ns;refine⟨m,⟨oC,esC,epC,(sba.2 C nCa).trans eC,rC⟩,λh' sb=> ?_⟩;refine⟨_,_,I7.turned (t':=s5.toks) (it:=C) (λb o hb e=>(sb.2 b hb).trans e) (by rw[yJ (cp lDC)];exact nC) (cp (mi lL lDC)) (.inr (cb (by rw[<- hDd];exact I2.sz) (ke lDC))) (λx c e=>bo (mi (lcl x c e) lDC)) (λp hp=>bo (mi (lp p hp) lDC)),q D nD⟩
  ·refine zY (T.item 2#3 rfl rfl rfl hc i _ s3 σ3 H3 _ I3 (yk fr3) yd go) λr s4 ⟨u,hr,h4⟩=> ?_
   subst hr;refine zY h4 λ_ s5 ⟨x,H5,I5,r5,y5,st5,fr5⟩=> ?_;have I5':=I5.pinned (yk fr5) (T.obj _ _ st5);have keepT: ∀{σ7:St} {H7:Hp} {s7:ag} {pl:List 9#3},z9 2#3 (pl++o5 fp s5.heap) σ7 H7 s7->tn (i+1) s7.heap/\∀b∈fp,H7 b=none:=λ{σ7 H7 s7 pl} I7=>
    ⟨T.keep _ _ _ st5 λb hb o e=>(I7.pin (b,o) (bm _ (bm _ (lV hb e)))).1,λb hb=>by
     obtain⟨o,e,d⟩:=T.obj _ _ st5 b hb;exact(I7.pin (b,o) (bm _ (bm _ (lV hb e)))).2.1⟩
   refine gD (hg C s2 H2 fp mt _ s5 σ3 H5 x u _ I5' r5 (step x H5 y5)) λ_ s6 ⟨σ6,H6,I6,q6⟩=> ?_;refine gD (ht C s2 H2 fp mt _ s6 σ6 H6 _ I6 q6) λb s7 ⟨H7,I7,q7⟩=> ?_;cases b with
   | false=>
    obtain⟨m',hm,w7⟩:=hN _ _ _ q7;obtain⟨t7,fr7⟩:=keepT I7;exact⟨m',hm,i+1,ys,σ6,H7,yb,cnt,I7.unpinned,t7,fr7,rv,w7⟩
   | true=>
    refine gD (he C s2 H2 fp mt _ s7 σ6 H7 _ I7 q7) λy s8 ⟨yv,H8,I8,r8,q8⟩=> ?_;obtain⟨m',hm,w8⟩:=hN _ _ _ q8;obtain⟨eD,nD,neD,nfD,cD⟩:=I8.pin (D,_) (bm _ (ja _ ax));have hvl:=rv.length;refine ll qa ⟨_,eD,rfl⟩ om (nj _ _) (qu D yb.toArray cnt y (by rw[bj];grobner)) ⟨eD,?_⟩;have I8':z9 2#3 (o5 fp s5.heap) σ6 H8 s8:=I8.pins_of λp hp=>I8.pin p (bm _ (bm _ hp));have hno: ∀p∈(X.pn++mt)++o5 fp s5.heap,p.1≠D:=λp hp=>by
     rcases bi.mp hp with z | z
     ·intro q
      have:=aw (I2.pin p z).1;rw[hDd,q]at this;exact cy _ this
     ·exact fpD _ (zgn z).1
    have I9:=I8'.turned (t':=s8.toks) (it:=D) (h':=s8.heap.update D (Obj.mapSeq λx=>x.push y)) (λb o hb e=>(cm s8.heap _ (dh hb)).trans e) nD neD (.inr (by show s2.heap.objs.size<=D;rw[hDd];exact aq _))
     (λx c e z=>by
      obtain⟨v,o,ho,_⟩:=I2.cell x c (mJ S I2 e);have:=aw ho;rw[hDd,z]at this;exact cy _ this) hno
    obtain⟨t9,fr9⟩:=keepT (pl:= []) I9;have qD: ∃n',(s8.heap.update D (Obj.mapSeq λx=>x.push y)).get? D=some {cls:= .type 9#1,data:= .seq (yb++ [y]).toArray n'} :=by
     have q:=sd (l:=D) (items:=yb.toArray) (n:=cnt) (h:=s8.heap) eD λx=>x.push y;have e:yb.toArray.push y=(yb++ [y]).toArray:=3#0
     rw[<- e];exact⟨_,q⟩
    obtain⟨n',qD⟩:=qD;refine⟨m',hm,i+1,ys++ [yv],σ6,H8,yb++ [y],n',I9.pins_of λp hp=> ?_,t9,fr9,rv.append (.cons r8 .nil),w8⟩;have e:=au.mp hp;rw[e];exact⟨qD,nD,neD,nfD,by intro v z;cases z⟩
 have t4:tn 0 h4:=T.keep _ _ _ xr λb _ o e=>k4 b o e;exact uc (loop _ I4 t4) (T.self _ 0 _ _ _ t4 (loop _ I4 t4))
end
open PySem.W
theorem tri (a b:List Nat):a < b∨a=b∨b < a:=by
 by_cases h1:a < b
 ·exact .inl h1
 ·by_cases h2:b < a
  ·exact .inr (.inr h2)
  ·exact .inr (.inl (strKind.total a b (decide_eq_false h1) (decide_eq_false h2)))
section
variable {X:Cx} {mt:List (aa×aj)} {σ:St} {H H':Hp} {s:ag} {h':cf}
theorem z9.laidM {t':Nat}(I:z9 X mt σ H s)(k: ∀b u,s.heap.get? b=some u->h'.get? b=some u)(keepH: ∀b o,H b=some o->H' b=some o)(free: ∀b o,s.heap.get? b=some o->H b=none->H' b=none)
  (new: ∀b o,H b=none->H' b=some o->vS X.prog X.w H' h' b o):z9 X mt σ H' {s with heap:=h',toks:=t'} :=by
 refine I.un ⟨λb u q _ _ _=>k b u q,λb u q _ _ _=>⟨u.slots,k b u q⟩,λb u q n _=>free b u q n,λb u q _=>⟨u,k b u q⟩,λb xs q=>keepH b _ q,λb o u q=>keepH b _ q,λb ps q=>⟨#[],by rw[keepH b _ q];simp⟩⟩ ?_;intro b o e;cases hb:H b with
 | some u=>
  have e2:=keepH b u hb;rw[e2]at e;cases e;exact(I.hok b _ hb).stay (λc v _ q=>k c v q) (λc q=>keepH c _ q) λc xs q=>keepH c _ q
 | none=>exact new b o hb e
theorem zn1 {α β γ:Type}{R:β->γ->Prop}{f:α->β}{g:α->γ} : ∀l:List α,(∀i∈l,R (f i) (g i))->Paired R (l.map f) (l.map g)
 | [],_=> .nil
 | a::l,h=> .cons (h a (.head _)) (zn1 l λi m=>h i (.tail _ m))
end
section
variable {X:Cx}
theorem zja (hc:X.calm=true):vF X (.type 9#1) (λxs H Q=> ∃(d:aa) (kvs:List (zK×V)),xs= [.ref d]/\H d=some (.dK kvs)/\∀p,H p=none->Q (.ref p) (zN H p (.lst (kvs.map λq=>kV q.1)))):=by
 intro mt s σ H xs us Q I r h;obtain⟨d,kvs,rfl,hd,q⟩:=h;obtain⟨u,rfl,ru⟩:=pF r;cases ru;obtain⟨hz,hsys,vs,kv,dd⟩:=zjt I.hok hd;have hl:=ztF kv;obtain⟨o,es0,ep,e1,e2,e3,e4,e5,e6⟩:=id dd;refine kdl_call (kdl_dict (knd:=uO X.prog X.w) (kvs:=vs) (ep:=ep) hsys) (I.ok.hd hc) ⟨o,es0,e1,e2,e3,e4,e5,e6⟩ (by rw[<- hl];exact hz) λh' tk yc c k1 k2 yj=> ?_;refine⟨.ref s.heap.objs.size,_,I.laid (t':=tk) (o:= .lst (kvs.map λq=>kV q.1)) k1 (aq _) ⟨by rw[ah];exact hz,yc.toList,c,zpH ?_ λj v x hv hx=> ?_,?_⟩,rfl,q _ I.fresh⟩
 ·rw[ah,hl];exact yj.1.symm.trans (fh).symm
 ·obtain⟨k,y,e1,e2⟩:=yj.2 j v (by simpa using hv)
  obtain⟨z,e3⟩:=zmr kv e1;rw[dv,e3]at hx;have e4:kV k=x:=ca hx;subst e4;rcases pY e2 with⟨i,t,rfl,rfl⟩ | ⟨z',t,rfl,rfl⟩
  ·exact⟨t,rfl⟩
  ·exact⟨t,rfl⟩
 ·rw[nu];exact k2
end
theorem zzh {a b:Str}(h:a.cps.toList=b.cps.toList):a=b:=by
 cases a;cases b;simp only at h;rw[Array.toList_inj.mp h]
theorem zue {a b:Str}(h:ltCps b.cps.toList a.cps.toList=false)(yo:a≠b):a.cps.toList < b.cps.toList:=by
 rw[ltCps_eq]at h;rcases tri a.cps.toList b.cps.toList with h1 | h1 | h1
 ·exact h1
 ·exact absurd (zzh h1) yo
 ·exact absurd h1 (of_decide_eq_false h)
theorem zow: ∀(p:Str) (l:List Str),risingS p l=true->(p::l).Nodup->(p::l).Pairwise λa b=>a.cps.toList < b.cps.toList
 | p,[],_,_=>List.pairwise_singleton _ _
 | p,x::r,h,hn=>by
  have h':(!ltCps x.cps.toList p.cps.toList&&risingS x r)=true:=h;rw[bv]at h';have hn':=ik.mp hn;have ih:=zow x r h'.2 hn'.2;have hpx:p.cps.toList < x.cps.toList:=zue (by simpa using h'.1) λe=>hn'.1 (by rw[e];exact .head _);refine jv.mpr ⟨λy m=> ?_,ih⟩;rcases ar.mp m with rfl | m
  ·exact hpx
  ·exact List.lt_trans hpx ((jv.mp ih).1 y m)
theorem zxP: ∀{l:List Str},sortedS l=true->l.Nodup->l.Pairwise λa b=>a.cps.toList < b.cps.toList
 | [],_,_=> .nil
 | p::l,h,hn=>zow p l h hn
abbrev TJ:=St->Hp->Str->VK->Prop
structure PJ (X:Cx)(es:List Expr)(t:TJ):Prop where
 run: ∀(mt:List 9#3) (s:ag) (σ:St) (H:Hp) (Q:VK) (out:Str),z9 X mt σ H s->t σ H out Q->av 3#2 X.A (joinParts out (evalEach es X.env)) 2#5 X.xe s
section
variable {X:Cx} {e e2:Expr} {es:List Expr} {te:TE} {t:TJ} {pos:di}
theorem zwE:PJ X [] (λ_ H out Q=>out.length<=am/\Q (.str out) H):=⟨λmt s σ H Q out I h=>joinParts_nil ⟨.str out,H,I.tok _,⟨_,rfl⟩,h.2⟩ h.1⟩
theorem zwD (he:PE X e te)(hr:PJ X es t)(hs:evalEach (e::es) X.env=eval e X.env::evalEach es X.env:=by rfl):
  PJ X (e::es) (λσ H out Q=>te σ H λv H1=> ∃y,v= .str y/\(out++y).length<=am/\t σ H1 (out++y) Q):=⟨λmt s σ H Q out I h=>by
 rw[hs];refine joinParts_cons (zY (he mt s σ H _ I h) λv s1 ⟨x,H1,I1,r,y,ey,hz,q⟩=> ?_);subst ey;obtain⟨tk,rfl⟩:=r;exact⟨hz,hr.run mt s1 σ H1 Q _ I1 q⟩⟩
theorem zws (h:PJ X (e::e2::es) t)(hs:evalEach (e::e2::es) X.env=eval e X.env::eval e2 X.env::evalEach es X.env:=by rfl):PE X (.JoinedStr (e::e2::es) pos) (λσ H Q=>t σ H Str.empty Q):=
 ⟨λmt s σ H Q I q=>JoinedStr_many (by rw[<- hs];exact h.run mt s σ H Q _ I q)⟩
end
theorem z9.turnedL {X:Cx}{mt:List 9#3}{σ:St}{H:Hp}{s:ag}{h':cf}{t':Nat}{fp:List aa}(I:z9 X mt σ H s)(k: ∀b o,b∉fp->s.heap.get? b=some o->h'.get? b=some o)(hf: ∀b∈fp,pG X mt H b):
  z9 X mt σ H {s with heap:=h',toks:=t'} :=by
 have nit: ∀b u,H b=some u->b∉fp:=λb u e z=>by rw[(hf b z).1]at e;cases e
 refine I.step (g':=s.gens) (d':=s.drawn) (ch:=fp) (λb hb=>⟨(hf b hb).2.2.2.1,(hf b hb).2.1,(hf b hb).2.2.2.2.1,(hf b hb).2.2.2.2.2⟩) (λb o _ _ hc e _=>k b o hc e) (λb o _ _ hc e _=>⟨o.slots,k b o hc e⟩) (λ_ _ _ _ n=>n)
  (λb o hc e=>⟨o,k b o hc e⟩) (λ_ _ e=>e) (λ_ _ _ e=>e) (λb ps e=>⟨#[],by rw[e];simp⟩) (λm hm=> ?_) (λb u e=> ?_) I.bare
 ·obtain⟨o,es,ep,ho,r⟩:=hm
  exact⟨o,es,ep,k _ o (λz=>(hf _ z).2.1 rfl) ho,r⟩
 ·refine(I.hok b u e).stay (λc v hc q=>k c v ?_ q) (λ_ q=>q) λ_ _ q=>q
  rcases hc with z | z
  ·rw[z];exact nit b u e
  ·exact nit c _ z
def iB (K:Frag)(a:aa):It:=
 ⟨λi H=> ∃xs x,xA K H a xs/\xs[i]?=some x,λi H y H'=> ∃p x,H p=none/\(∀xs,xA K H a xs->xs[i]?=some x)/\y= .ref p/\H'=zN H p (.tup [.int i,x]),λi H=> ∃xs,xA K H a xs/\xs.length<=i⟩
theorem zz7 {P:br}{w:bz}{K:Frag}{elts:List Expr}{k:Nat}{pos:di}(a e it:aa)(ne:e≠it):
  lH P w K (.Tuple elts k pos) (iB K a) [e,it] e (λi h=>(∃old,IsEnum h e it i old)/\h.IsListIter it a i) where
 mem:=3#0
 obj:=λi h st b hb=>by
  obtain⟨⟨old,he⟩,o,ho,c,d⟩:=st;rcases ar.mp hb with rfl | hb
  ·exact⟨_,he,λv z=>by cases z⟩
  ·rw[au.mp hb];exact⟨o,ho,λv z=>by rw[d]at z;cases z⟩
 keep:=λi h h' st kk=>by
  obtain⟨⟨old,he⟩,ym⟩:=st;exact⟨⟨old,kk e 3#0 _ he⟩,ym.at λo e'=>kk it 3#0 o e'⟩
 item:=by
  intro X hP hw hK hc i mt s σ H E I hf st hg;subst hP hw hK;obtain⟨xs,x,hq,hx⟩:=hg;obtain⟨xn,rv,p,hz⟩:=I.list hq;obtain⟨u,hu,ru⟩:=rv.get hx;obtain⟨⟨old,he⟩,ym⟩:=st;have le:e < s.heap.objs.size:=aw he;have li:it < s.heap.objs.size:=by obtain⟨o,ho,_⟩:=ym;exact aw ho
  refine wpAny_pyNext_enum_item he ym p.isList (x:=u) (by simpa using hu) ne λh' ho hit' hT hsz kk=>⟨_,rfl,?_⟩;refine ql (s:= {s with heap:=h',toks:=s.toks+1}) ho λh2 he2 yq=> ?_;have nT:s.heap.objs.size≠e:=cp le;have hT2:h2.get? s.heap.objs.size=some {cls:= .type 22#1,data:= .seq #[.int i s.toks,u]} :=(yq.2 _ nT).trans hT;have I1:z9 X mt σ H {s with heap:=h2,toks:=s.toks+1} :=I.turnedL (fp:= [e,it]) (λb o hb q=>(yq.2 b λz=>hb (by simp[z])).trans (kk b o (λz=>hb (by simp[z])) (λz=>hb (by simp[z])) q)) hf;have I2:z9 X mt σ (zN H s.heap.objs.size (.tup [.int i,x])) {s with heap:=h2,toks:=s.toks+1} :=by
   refine aM I1 I.fresh I.sz (cp I.lt) (λx' c e' z=> ?_) (λp' hp z=> ?_) ⟨(by show 2<=am;decide),[.int i s.toks,u],.cons ⟨_,rfl⟩ (.cons ru .nil),_,hT2,rfl,_,rfl,rfl⟩
   ·obtain⟨v,q⟩:=I.cell x' c e'
    have:=q.lt;rw[z]at this;exact cy _ this
   ·have:=aw (I.pin p' hp).1;rw[z]at this;exact cy _ this
  refine⟨.ref s.heap.objs.size,_,I2,rfl,⟨_,x,I.fresh,λys hy=>by rw[I.list_inj hy hq];exact hx,rfl,rfl⟩,⟨⟨u,by simpa using he2⟩,hit'.at λo e'=>(yq.2 it ne.symm).trans e'⟩,λb hb=> ?_⟩;have nb:b≠s.heap.objs.size:=by
   rcases ar.mp hb with rfl | hb
   ·exact bo le
   ·rw[au.mp hb];exact bo li
  rw[yJ nb];exact(hf b hb).1
 done:=by
  intro X hP hw hK hc i mt s σ H E I hf st hg;subst hP hw hK;obtain⟨xs,hq,hx⟩:=hg;obtain⟨xn,rv,p,hz⟩:=I.list hq;obtain⟨⟨old,he⟩,ym⟩:=st;have hl:=rv.length;exact wpAny_pyNext_enum_end (I.ok.hd hc) he ym p.isList (by simp;grobner) λh' eb=>⟨rfl,I.turnedL (t':=s.toks) (fp:= [e,it]) (λb o hb q=>eb b o (λz=>hb (by simp[z])) q) hf⟩
 self:=λ_ _ _ _ _ st h=>by
  obtain⟨⟨old,he⟩,_⟩:=st;exact mo he h
section
variable {X:Cx} {elts:List Expr} {k:Nat} {pos':di}
def ztg (K:Frag)(ta:TA):TI:=λσ H R=>ta σ H λvs H1=> ∃a,vs= [.ref a]/\(∃xs,xA K H1 a xs)/\R (iB K a) H1
theorem znF {a:Expr}{ta:TA}{p pos:di}(hg:Gl X 14#1)(hm:X.mg 14#1 =none)(ha:PA X [a] ta)(hs:starEach [a] X.env= [(false,eval a X.env)]:=by rfl):PI X (.Tuple elts k pos') (.Call (.Name 14#1 p) [a] [] pos) (ztg X.K ta):=⟨λmt s σ H R I h=>by
 refine Call_ (lT I hg hm boot_enumerate (callWith_type1 (zY (ha pos mt s σ H _ I h) λus s1 ⟨vs,H1,I1,r1,q1⟩=> ?_) hs rfl));obtain⟨a,e,⟨xs,hq⟩,q⟩:=q1;subst e;obtain⟨u,rfl,ru⟩:=pF r1;cases ru;obtain⟨xn,rv,p,hz⟩:=I1.list hq;refine call_enumerate_list p.isList λh' hE hI hsz kk=> ?_;refine mo hE ?_;refine⟨s1.heap.objs.size+1,[s1.heap.objs.size+1,s1.heap.objs.size],_,_,H1,rfl,I1.kept (t':=s1.toks) kk,zz7 a _ _ (wy _),⟨⟨.none,by simpa using hE⟩,hI⟩,λb hb=> ?_,q⟩;rcases ar.mp hb with rfl | hb
 ·exact I1.fpOk (jt _) (I1.hok.fresh (jt _))
 ·rw[au.mp hb];exact I1.fpOk (aq _) (I1.hok.fresh (aq _))⟩
theorem zsE {K:Frag}{a:aa}{xs:List V}{g:TG}{tb:TS}{D:sG}{σ:St}{H:Hp}(Pv:Nat->St->Hp->Prop)(h0:Pv 0 σ H)(hl: ∀i σ H,i<=xs.length->Pv i σ H->xA K H a xs)
  (hs: ∀i σ H x p,xs[i]?=some x->Pv i σ H->H p=none->g (.ref p) σ (zN H p (.tup [.int i,x])) λσ2 H2=>tb {D with nx:=Pv (i+1),ct:=Pv (i+1),bk:=D.nx} σ2 H2)
  (hd: ∀σ H,Pv xs.length σ H->D.nx σ H):
  ∃W:Nat->Nat->St->Hp->Prop,(∃m,W 0 m σ H)/\∀i m σ H,W i m σ H->
   ((iB K a).stop i H/\D.nx σ H)∨((iB K a).go i H/\∃N:St->Hp->Prop,(∀σ' H',N σ' H'->∃m',m' < m/\W (i+1) m' σ' H')/\∀x H',(iB K a).yld i H x H'->g x σ H' λσ2 H2=>tb {D with nx:=N,ct:=N,bk:=D.nx} σ2 H2):=by
 refine⟨λi m σ H=>m=xs.length - i/\i<=xs.length/\Pv i σ H,⟨_,rfl,db _,h0⟩,?_⟩;rintro i m σ' H' ⟨rfl,hi,p⟩;have hq:=hl i σ' H' hi p;by_cases yf:i < xs.length
 ·refine .inr ⟨⟨xs,xs[i],hq,by simp[yf]⟩,Pv (i+1),λσ2 H2 p2=>⟨xs.length - (i+1),0#0,rfl,yf,p2⟩,?_⟩
  rintro x H2 ⟨pp,y,hn,hyi,rfl,rfl⟩;exact hs i σ' H' y pp (hyi xs hq) p hn
 ·have e:i=xs.length:=0#0
  subst e;exact .inl ⟨⟨xs,hq,aq _⟩,hd σ' H' p⟩
end
end L2
set_option maxHeartbeats 0
namespace Hd
noncomputable section
open PySem PySem.W L2
abbrev pg:br:=PySem.Challenge.pw_copiedhouse_k13_whole_programs_written_a
def tp (i:Nat):bw:=pg.main.body.getD i (.Pass ⟨0,0,0,0⟩)
def tN (i j:Nat):bw:=ztn (tp i) j
def en (P:jb)(x:Str)(t:Nat)(v:ad):DictEntry:=⟨PyData.keyHash P x,.str x t,v⟩
def tu (l:List ad):aj:=⟨.type 22#1,none,.seq l.toArray 0,#[]⟩
def fl (l:List ad):aj:=⟨.none,none,.fields l.toArray,#[]⟩
def co (l:List ad):aj:=⟨.type "code",none,.fields l.toArray,#[]⟩
def fn (n q:Str)(s:bw)(g:Nat)(cl:List (Str×aa))(d k dc pm:ad)(an:Option aa)(cd ct:ad)(b:Nat):bh:= {name:=n,qualname:=q,params:=jE s,body:= .stmts (pU s),scope:=zX s,globals:=g,closure:=cl,defaults:=d,kwdefaults:=k,doc:=dc,pyModule:=pm,annotations:=an,code:=cd,closureTuple:=ct,builtins:=b}
def fu (f:bh):aj:=⟨.type "function",none,.func f,#[]⟩
def fp (f:bh):aj:=⟨.none,none,.func f,#[]⟩
def li:Life:= {}
abbrev an:Option ad:=some (.ref 6)
def ev:lc:= {scope:=pg.main.scope,locals:=mainNs,globals:=mainNs,cells:= [],code:= .ref 13,frame:=some 14}
abbrev cE:Code:= .body (behindTheImports pg) ev
abbrev B:List Frame:= [topFrame ⟨0,0,0,0⟩]
abbrev gs:Array GenState:=Array.mk []
def yZ (n q:Str)(t l a b r r2:Nat)(x y z:ad)(f k:Nat):aj:=co [.str n t,.str q (t+1),.str "/claim/cut.py" (t+2),.int l 0,.int a 0,.int 0 0,.int 0 0,.int 3 0,.ref r,.bool true,.int b 0,.ref r2,x,y,z,.ref f,.int k 0,.int l 0,.str "/claim/cut.py" (k+1)]
def x5 (n q:Str)(s:bw):aj:=fp (fn n q s 0 [] .none .none .none .none none .none .none 0)
def x6 (n q:Str)(s:bw)(m:Str)(t c:Nat):aj:=fu (fn n q s 3 [] .none .none .none (.str m t) none (.ref c) .none 0)
def dc (l:List DictEntry)(n:Nat):aj:=⟨.type "dict",none,.dict l.toArray n,#[]⟩
def zfE (x:Nat):aj:=⟨.type "super",none,.fields #[.ref x,.ref x,.ref x],#[]⟩
def zfB (x:Nat):aj:=⟨.type "builtin_function_or_method",none,.fields #[.builtin "object.__init_subclass__",.ref x],#[]⟩
def hbp:aj:=⟨.type "builtin_function_or_method",none,.fields #[.builtin "type.__prepare__",.type "type"],#[]⟩
def aK (a b:Nat)(m:Str)(t:Nat):aj:=⟨.type "frame",none,.plain,#[some (.ref a),some (.ref 3),some (.ref b),none,some (.str m t),none,some (.ref 0)]⟩
def aJ (n:Str)(t l r s:Nat):aj:=co [.str n t,.str n (t+1),.str "/claim/cut.py" (t+2),.int l 0,.int 0 0,.int 0 0,.int 0 0,.int 0 0,.ref r,.bool false,.int 181 0,.ref s,.none,.none,.none,.none,.int (t+3:Nat) 0,.int l 0,.str "/claim/cut.py" (t+4)]
def nF (P:jb)(t:Nat)(m:Str)(tm:Nat)(n:Str)(l ti i ts s:Nat):aj:=dc [en P "__module__" t (.str m tm),en P "__qualname__" (t+2) (.str n (t+1)),en P 76#1 (t+4) (.int l (t+3)),en P 66#1 ti (.ref i),en P 43#1 ts (.ref s)] 5
def hdb (P:jb)(t:Nat)(m:Str)(tm l ti i ts s:Nat):aj:=dc [en P "__module__" t (.str m tm),en P 76#1 (t+4) (.int l (t+3)),en P 66#1 ti (.ref i),en P 43#1 ts (.ref s),en P "__doc__" (ts+1) .none] 2
def hcl (n:Str)(e c d b t u:Nat):aj:=⟨.type "type",none,.cls ⟨n,[.ref e],[.ref c,.ref e,.type "ValueError",.type "Exception",.type "BaseException",.type "object"],d,n,true,[],[],false,none,false⟩,#[some (.ref b),none,some (.str n t),some (.str n u),some (.builtin "ValueError.__new__"),some (.bool true)]⟩
abbrev lf (o:aj):BT:= .node o .nil .nil
def f3 (P:jb):aj:=dc [en P "__name__" 165 (.str 1#1 536),en P "__doc__" 166 (.none),en P "__package__" 167 (.none),en P "__loader__" 168 (.builtin "__main__.__loader__#opaque"),en P "__spec__" 169 (.none),en P "__annotations__" 170 (.ref 6),en P "__builtins__" 171 (.ref 4),en P "__file__" 173 (.str "/claim/cut.py" 172),en P "__cached__" 174 (.none),en P "HouseError" 206 (.ref 24),en P "BadText" 231 (.ref 44),en P "WIDE" 235 (.int 4294967296 234),en P "LETTERS" 237 (.str 13#1 236),en P "FIGURES" 239 (.str "0123456789" 238),en P "LONGEST" 241 (.int 8 240),en P "is_word" 247 (.ref 51),en P 56#1 253 (.ref 56),en P "FIGURES_AT_MOST" 257 (.int 10 256),en P "FIGURES_IN_BAGS" 259 (.int 9 258),en P "Pieces" 345 (.ref 122),en P 55#1 355 (.ref 133),en P "OPS" 363 (.ref 134),en P "THREE" 367 (.ref 135),en P "MOST_BRACKETS" 369 (.int 20 368),en P 53#1 379 (.ref 142),en P 25#1 390 (.ref 149),en P 37#1 398 (.ref 156),en P 19#1 409 (.ref 163),en P 16#1 415 (.ref 168),en P "read" 423 (.ref 173),en P 72#1 430 (.ref 180),en P 54#1 441 (.ref 187),en P 34#1 450 (.ref 194),en P 51#1 460 (.ref 201),en P 71#1 469 (.ref 208),en P 33#1 477 (.ref 215),en P 70#1 486 (.ref 222),en P 52#1 496 (.ref 229),en P 44#1 504 (.ref 234),en P 57#1 511 (.ref 241),en P "show" 517 (.ref 246),en P 35#1 529 (.ref 253),en P 65#1 535 (.ref 258),en P 61#1 547 (.ref 265),en P 60#1 559 (.ref 272),en P 74#1 567 (.ref 279),en P 58#1 573 (.ref 284),en P 26#1 582 (.ref 291),en P 45#1 588 (.ref 296),en P 62#1 599 (.ref 303),en P 73#1 609 (.ref 310),en P 40#1 615 (.ref 315),en P 24#1 621 (.ref 320),en P 12#1 627 (.ref 325),en P 15#1 636 (.ref 332),en P 59#1 642 (.ref 337),en P 42#1 653 (.ref 344),en P 39#1 659 (.ref 349),en P "law" 673 (.ref 356)] 59
def aE:aj:=tu []
def f12:aj:=fl [.int 2 0,.int 0 0,.ref 20,.int 4 0,.int 0 0,.ref 33,.int 14 0,.int 0 0,.ref 50,.int 18 0,.int 0 0,.ref 55,.int 27 0,.int 0 0,.ref 62,.int 67 0,.int 0 0,.ref 132,.int 78 0,.int 0 0,.ref 141,.int 83 0,.int 0 0,.ref 148,.int 92 0,.int 0 0,.ref 155,.int 98 0,.int 0 0,.ref 162,.int 110 0,.int 0 0,.ref 167,.int 113 0,.int 0 0,.ref 172,.int 122 0,.int 0 0,.ref 179,.int 126 0,.int 0 0,.ref 186,.int 140 0,.int 0 0,.ref 193,.int 152 0,.int 0 0,.ref 200,.int 156 0,.int 0 0,.ref 207,.int 164 0,.int 0 0,.ref 214,.int 169 0,.int 0 0,.ref 221,.int 176 0,.int 0 0,.ref 228,.int 191 0,.int 0 0,.ref 233,.int 203 0,.int 0 0,.ref 240,.int 205 0,.int 0 0,.ref 245,.int 211 0,.int 0 0,.ref 252,.int 225 0,.int 0 0,.ref 257,.int 230 0,.int 0 0,.ref 264,.int 238 0,.int 0 0,.ref 271,.int 248 0,.int 0 0,.ref 278,.int 250 0,.int 0 0,.ref 283,.int 256 0,.int 0 0,.ref 290,.int 263 0,.int 0 0,.ref 295,.int 283 0,.int 0 0,.ref 302,.int 294 0,.int 0 0,.ref 309,.int 302 0,.int 0 0,.ref 314,.int 316 0,.int 0 0,.ref 319,.int 327 0,.int 0 0,.ref 324,.int 338 0,.int 0 0,.ref 331,.int 348 0,.int 0 0,.ref 336,.int 364 0,.int 0 0,.ref 343,.int 375 0,.int 0 0,.ref 348,.int 384 0,.int 0 0,.ref 355]
def aF:aj:=aJ "<module>" 182 1 11 12
def aG:aj:=aK 13 3 "__main__" 164
def f15:aj:=tu [.type "ValueError"]
def f16:aj:=hbp
def f17 (P:jb):aj:=dc [en P "__module__" 196 (.str 38#1 187),en P "__qualname__" 198 (.str "HouseError" 197),en P 76#1 200 (.int 2 199),en P 43#1 201 (.ref 22)] 4
def f18:aj:=tu []
def f19:aj:=fl []
def f20:aj:=aJ "HouseError" 191 2 18 19
def f21:aj:=aK 20 17 38#1 187
def f22:aj:=tu []
def f23 (P:jb):aj:=dc [en P "__module__" 196 (.str 38#1 187),en P 76#1 200 (.int 2 199),en P 43#1 201 (.ref 22),en P "__weakref__" 203 (.ref 25),en P "__doc__" 204 (.none)] 3
def f24:aj:=⟨.type "type",none,.cls (⟨"HouseError",[.type "ValueError"],[.ref 24,.type "ValueError",.type "Exception",.type "BaseException",.type "object"],23,"HouseError",true,[],[.ref 44],false,none,false⟩),#[some (.ref 15),none,some (.str "HouseError" 189),some (.str "HouseError" 197),some (.builtin "ValueError.__new__"),some (.bool true)]⟩
def f25:aj:=⟨.type "getset_descriptor",none,.fields #[.str "__weakref__" 202,.ref 24,.builtin "ExceptionGroup.__weakref__",.none],#[]⟩
def f26:aj:=zfE 24
def f27:aj:=zfB 24
def f28:aj:=tu [.ref 24]
def f29:aj:=hbp
def f30 (P:jb):aj:=nF P 214 38#1 187 "BadText" 4 226 41 228 42
def f31:aj:=tu []
def f32:aj:=fl [.int 6 0,.int 4 0,.ref 40]
def f33:aj:=aJ "BadText" 209 4 31 32
def f34:aj:=aK 33 30 38#1 187
def f35:aj:=tu []
def f36:aj:=fl []
def f37:aj:=tu [.str 36#1 222,.str "at" 223]
def f38:aj:=tu []
def f39:aj:=x5 66#1 "BadText.__init__" (tN 2 0)
def f40:aj:=yZ 66#1 "BadText.__init__" 219 6 2 181 35 36 .none (.ref 37) (.ref 38) 39 224
def f41:aj:=x6 66#1 "BadText.__init__" (tN 2 0) 38#1 187 40
def f42:aj:=tu [.str "at" 227]
def f43 (P:jb):aj:=hdb P 214 38#1 187 4 226 41 228 42
def f44:aj:=hcl "BadText" 24 44 43 28 207 215
def f45:aj:=zfE 44
def f46:aj:=zfB 44
def f47:aj:=tu []
def f48:aj:=fl []
def f49:aj:=x5 "is_word" "is_word" (tp 8)
def f50:aj:=yZ "is_word" "is_word" 242 14 1 181 47 48 .none .none .none 49 245
def f51:aj:=x6 "is_word" "is_word" (tp 8) "copiedhouse.words" 232 50
def f52:aj:=tu []
def f53:aj:=fl []
def f54:aj:=x5 56#1 56#1 (tp 9)
def f55:aj:=yZ 56#1 56#1 248 18 2 181 52 53 .none .none .none 54 251
def f56:aj:=x6 56#1 56#1 (tp 9) "copiedhouse.words" 232 55
def f57:aj:=tu []
def f58:aj:=hbp
def f59 (P:jb):aj:=dc [en P "__module__" 267 (.str 11#1 254),en P "__qualname__" 269 (.str "Pieces" 268),en P 76#1 271 (.int 27 270),en P 66#1 280 (.ref 70),en P "at_end" 287 (.ref 77),en P "take" 295 (.ref 84),en P "take_close" 302 (.ref 91),en P "take_end" 309 (.ref 98),en P "take_word" 317 (.ref 105),en P "take_number" 326 (.ref 112),en P "take_many" 335 (.ref 119),en P 43#1 338 (.ref 120)] 12
def f60:aj:=tu []
def f61:aj:=fl [.int 29 0,.int 4 0,.ref 69,.int 34 0,.int 4 0,.ref 76,.int 37 0,.int 4 0,.ref 83,.int 44 0,.int 4 0,.ref 90,.int 48 0,.int 4 0,.ref 97,.int 52 0,.int 4 0,.ref 104,.int 58 0,.int 4 0,.ref 111,.int 61 0,.int 4 0,.ref 118]
def f62:aj:=aJ "Pieces" 262 27 60 61
def f63:aj:=aK 62 59 11#1 254
def f64:aj:=tu []
def f65:aj:=fl []
def f66:aj:=tu [.str 36#1 275,.str 69#1 276,.str "spread" 277]
def f67:aj:=tu []
def f68:aj:=x5 66#1 "Pieces.__init__" (tN 13 0)
def f69:aj:=yZ 66#1 "Pieces.__init__" 272 29 2 181 64 65 .none (.ref 66) (.ref 67) 68 278
def f70:aj:=x6 66#1 "Pieces.__init__" (tN 13 0) 11#1 254 69
def f71:aj:=tu []
def f72:aj:=fl []
def f73:aj:=tu [.str 36#1 284]
def f74:aj:=tu []
def f75:aj:=x5 "at_end" "Pieces.at_end" (tN 13 1)
def f76:aj:=yZ "at_end" "Pieces.at_end" 281 34 1 181 71 72 .none (.ref 73) (.ref 74) 75 285
def f77:aj:=x6 "at_end" "Pieces.at_end" (tN 13 1) 11#1 254 76
def f78:aj:=tu []
def f79:aj:=fl []
def f80:aj:=tu [.str 36#1 291,.str "piece" 292]
def f81:aj:=tu []
def f82:aj:=x5 "take" "Pieces.take" (tN 13 2)
def f83:aj:=yZ "take" "Pieces.take" 288 37 1 181 78 79 .none (.ref 80) (.ref 81) 82 293
def f84:aj:=x6 "take" "Pieces.take" (tN 13 2) 11#1 254 83
def f85:aj:=tu []
def f86:aj:=fl []
def f87:aj:=tu [.str 36#1 299]
def f88:aj:=tu []
def f89:aj:=x5 "take_close" "Pieces.take_close" (tN 13 3)
def f90:aj:=yZ "take_close" "Pieces.take_close" 296 44 1 181 85 86 .none (.ref 87) (.ref 88) 89 300
def f91:aj:=x6 "take_close" "Pieces.take_close" (tN 13 3) 11#1 254 90
def f92:aj:=tu []
def f93:aj:=fl []
def f94:aj:=tu [.str 36#1 306]
def f95:aj:=tu []
def f96:aj:=x5 "take_end" "Pieces.take_end" (tN 13 4)
def f97:aj:=yZ "take_end" "Pieces.take_end" 303 48 1 181 92 93 .none (.ref 94) (.ref 95) 96 307
def f98:aj:=x6 "take_end" "Pieces.take_end" (tN 13 4) 11#1 254 97
def f99:aj:=tu []
def zjC:aj:=fl []
def zcc:aj:=tu [.str 36#1 313,.str "piece" 314]
def zcd:aj:=tu []
def zjD:aj:=x5 "take_word" "Pieces.take_word" (tN 13 5)
def zce:aj:=yZ "take_word" "Pieces.take_word" 310 52 1 181 99 100 .none (.ref 101) (.ref 102) 103 315
def zcf:aj:=x6 "take_word" "Pieces.take_word" (tN 13 5) 11#1 254 104
def zcg:aj:=tu []
def zjE:aj:=fl []
def zch:aj:=tu [.str 36#1 321,.str "least" 322,.str "most" 323]
def zci:aj:=tu []
def zjF:aj:=x5 "take_number" "Pieces.take_number" (tN 13 6)
def zcj:aj:=yZ "take_number" "Pieces.take_number" 318 58 3 181 106 107 .none (.ref 108) (.ref 109) 110 324
def zck:aj:=x6 "take_number" "Pieces.take_number" (tN 13 6) 11#1 254 111
def zcl:aj:=tu []
def zjG:aj:=fl []
def zcm:aj:=tu [.str 36#1 330,.str "piece" 331,.str "figures" 332]
def zcn:aj:=tu []
def zjH:aj:=x5 "take_many" "Pieces.take_many" (tN 13 7)
def zco:aj:=yZ "take_many" "Pieces.take_many" 327 61 1 181 113 114 .none (.ref 115) (.ref 116) 117 333
def zcp:aj:=x6 "take_many" "Pieces.take_many" (tN 13 7) 11#1 254 118
def zcq:aj:=tu [.str 4#1 336,.str "place" 337]
def zcr (P:jb):aj:=dc [en P "__module__" 267 (.str 11#1 254),en P 76#1 271 (.int 27 270),en P 66#1 280 (.ref 70),en P "at_end" 287 (.ref 77),en P "take" 295 (.ref 84),en P "take_close" 302 (.ref 91),en P "take_end" 309 (.ref 98),en P "take_word" 317 (.ref 105),en P "take_number" 326 (.ref 112),en P "take_many" 335 (.ref 119),en P 43#1 338 (.ref 120),en P "__dict__" 340 (.ref 123),en P "__weakref__" 342 (.ref 124),en P "__doc__" 343 (.none)] 4
def zcs:aj:=⟨.type "type",none,.cls (⟨"Pieces",[.type "object"],[.ref 122,.type "object"],121,"Pieces",true,[],[],false,none,false⟩),#[none,none,some (.str "Pieces" 260),some (.str "Pieces" 268),some (.builtin "object.__new__"),some (.bool true)]⟩
def zct:aj:=⟨.type "getset_descriptor",none,.fields #[.str "__dict__" 339,.ref 122,.builtin "function.__dict__",.builtin "function.__dict__#set"],#[]⟩
def zcu:aj:=⟨.type "getset_descriptor",none,.fields #[.str "__weakref__" 341,.ref 122,.builtin "ExceptionGroup.__weakref__",.none],#[]⟩
def zjJ:aj:=zfE 122
def zjK:aj:=zfB 122
def zcv:aj:=tu []
def zjL:aj:=fl []
def zcw:aj:=tu [.str "piece" 349,.str "least" 350,.str "most" 351,.str "number" 352]
def zcx:aj:=tu []
def zjM:aj:=x5 55#1 55#1 (tp 14)
def zcy:aj:=yZ 55#1 55#1 346 67 3 181 127 128 .none (.ref 129) (.ref 130) 131 353
def zcz:aj:=x6 55#1 55#1 (tp 14) 11#1 254 132
def zc0:aj:=tu [.str "+" 358,.str "-" 359,.str "*" 360,.str "<" 361,.str "=" 362]
def zc1:aj:=tu [.str "was" 364,.str "mine" 365,.str "yours" 366]
def zc2:aj:=tu []
def zjN:aj:=fl []
def zc3:aj:=tu [.str 69#1 373,.str 28#1 374,.str 4#1 375,.str "term" 376]
def zc4:aj:=tu []
def zjO:aj:=x5 53#1 53#1 (tp 19)
def zc5:aj:=yZ 53#1 53#1 370 78 2 181 136 137 .none (.ref 138) (.ref 139) 140 377
def zc6:aj:=x6 53#1 53#1 (tp 19) 63#1 356 141
def zc7:aj:=tu []
def zjP:aj:=fl []
def zc8:aj:=tu [.str 4#1 383,.str 28#1 384,.str 29#1 385,.str "piece" 386,.str "term" 387]
def zc9:aj:=tu []
def zjQ:aj:=x5 25#1 25#1 (tp 20)
def zc_:aj:=yZ 25#1 25#1 380 83 3 181 143 144 .none (.ref 145) (.ref 146) 147 388
def zcA:aj:=x6 25#1 25#1 (tp 20) 63#1 356 148
def zcC:aj:=tu []
def zjR:aj:=fl []
def zcD:aj:=tu [.str "piece" 394,.str 28#1 395]
def zcE:aj:=tu []
def zjS:aj:=x5 37#1 37#1 (tp 21)
def zcF:aj:=yZ 37#1 37#1 391 92 2 181 150 151 .none (.ref 152) (.ref 153) 154 396
def zcG:aj:=x6 37#1 37#1 (tp 21) 63#1 356 155
def zcH:aj:=tu []
def zjT:aj:=fl []
def zcI:aj:=tu [.str 4#1 402,.str 28#1 403,.str 29#1 404,.str "head" 405,.str 30#1 406]
def zcJ:aj:=tu []
def zjV:aj:=x5 19#1 19#1 (tp 22)
def zcK:aj:=yZ 19#1 19#1 399 98 3 181 157 158 .none (.ref 159) (.ref 160) 161 407
def zcL:aj:=x6 19#1 19#1 (tp 22) 63#1 356 162
def zcM:aj:=tu []
def zjW:aj:=fl []
def zjX:aj:=x5 16#1 16#1 (tp 23)
def zcN:aj:=yZ 16#1 16#1 410 110 4 181 164 165 .none .none .none 166 413
def zcO:aj:=x6 16#1 16#1 (tp 23) 63#1 356 167
def zcP:aj:=tu []
def zjZ:aj:=fl []
def zka:aj:=x5 "read" "read" (tp 25)
def zcQ:aj:=yZ "read" "read" 418 113 1 181 169 170 .none .none .none 171 421
def zcR:aj:=x6 "read" "read" (tp 25) 23#1 416 172
def zcS:aj:=tu []
def zkb:aj:=fl []
def zcT:aj:=tu [.str 69#1 427]
def zcU:aj:=tu []
def zkc:aj:=x5 72#1 72#1 (tp 26)
def zcV:aj:=yZ 72#1 72#1 424 122 1 181 174 175 .none (.ref 176) (.ref 177) 178 428
def zcW:aj:=x6 72#1 72#1 (tp 26) 23#1 416 179
def zcX:aj:=tu []
def zke:aj:=fl []
def zcY:aj:=tu [.str "line" 434,.str "shelves" 435,.str "hands" 436,.str 4#1 437,.str "kind" 438]
def zcZ:aj:=tu []
def zkf:aj:=x5 54#1 54#1 (tp 27)
def zda:aj:=yZ 54#1 54#1 431 126 3 181 181 182 .none (.ref 183) (.ref 184) 185 439
def zdb:aj:=x6 54#1 54#1 (tp 27) 23#1 416 186
def zdc:aj:=tu []
def zkg:aj:=fl []
def zdd:aj:=tu [.str 4#1 445,.str "word" 446,.str "manner" 447]
def zde:aj:=tu []
def zki:aj:=x5 34#1 34#1 (tp 28)
def zdf:aj:=yZ 34#1 34#1 442 140 1 181 188 189 .none (.ref 190) (.ref 191) 192 448
def zdg:aj:=x6 34#1 34#1 (tp 28) 23#1 416 193
def zdh:aj:=tu []
def zkj:aj:=fl []
def zdi:aj:=tu [.str "word" 454,.str 4#1 455,.str "n" 456,.str "begin" 457]
def zdj:aj:=tu []
def zkk:aj:=x5 51#1 51#1 (tp 29)
def zdk:aj:=yZ 51#1 51#1 451 152 2 181 195 196 .none (.ref 197) (.ref 198) 199 458
def zdl:aj:=x6 51#1 51#1 (tp 29) 23#1 416 200
def zdm:aj:=tu []
def zkm:aj:=fl []
def zdn:aj:=tu [.str 4#1 464,.str "bag" 465,.str "word" 466]
def zdo:aj:=tu []
def zkn:aj:=x5 71#1 71#1 (tp 30)
def zdp:aj:=yZ 71#1 71#1 461 156 1 181 202 203 .none (.ref 204) (.ref 205) 206 467
def zdq:aj:=x6 71#1 71#1 (tp 30) 23#1 416 207
def zdr:aj:=tu []
def zkp:aj:=fl []
def zds:aj:=tu [.str 4#1 473,.str "words" 474]
def zdt:aj:=tu []
def zkq:aj:=x5 33#1 33#1 (tp 31)
def zdu:aj:=yZ 33#1 33#1 470 164 1 181 209 210 .none (.ref 211) (.ref 212) 213 475
def zdv:aj:=x6 33#1 33#1 (tp 31) 23#1 416 214
def zdw:aj:=tu []
def zkr:aj:=fl []
def zdx:aj:=tu [.str "kind" 481,.str 4#1 482,.str "guard" 483]
def zdy:aj:=tu []
def zks:aj:=x5 70#1 70#1 (tp 32)
def zd0:aj:=yZ 70#1 70#1 478 169 2 181 216 217 .none (.ref 218) (.ref 219) 220 484
def zd1:aj:=x6 70#1 70#1 (tp 32) 23#1 416 221
def zd2:aj:=tu []
def zkt:aj:=fl []
def zd3:aj:=tu [.str "kind" 490,.str 4#1 491,.str 30#1 492,.str "place" 493]
def zd4:aj:=tu []
def zku:aj:=x5 52#1 52#1 (tp 33)
def zd5:aj:=yZ 52#1 52#1 487 176 2 181 223 224 .none (.ref 225) (.ref 226) 227 494
def zd6:aj:=x6 52#1 52#1 (tp 33) 23#1 416 228
def zd8:aj:=tu []
def zkv:aj:=fl []
def zkw:aj:=x5 44#1 44#1 (tp 35)
def zd9:aj:=yZ 44#1 44#1 499 191 1 181 230 231 .none .none .none 232 502
def zd_:aj:=x6 44#1 44#1 (tp 35) "copiedhouse.writer" 497 233
def zdA:aj:=tu []
def zkx:aj:=fl []
def zdB:aj:=tu [.str "parts" 508]
def zdC:aj:=tu []
def zky:aj:=x5 57#1 57#1 (tp 36)
def zdE:aj:=yZ 57#1 57#1 505 203 1 181 235 236 .none (.ref 237) (.ref 238) 239 509
def zdF:aj:=x6 57#1 57#1 (tp 36) "copiedhouse.writer" 497 240
def zdG:aj:=tu []
def zkz:aj:=fl []
def zk0:aj:=x5 "show" "show" (tp 37)
def zdH:aj:=yZ "show" "show" 512 205 1 181 242 243 .none .none .none 244 515
def zdI:aj:=x6 "show" "show" (tp 37) "copiedhouse.writer" 497 245
def zdJ:aj:=tu []
def zk1:aj:=fl []
def zdK:aj:=tu [.str 30#1 521,.str "manner" 522,.str "begin" 523,.str "parts" 524,.str "word" 525,.str "many" 526]
def zdM:aj:=tu []
def zk2:aj:=x5 35#1 35#1 (tp 38)
def zdN:aj:=yZ 35#1 35#1 518 211 1 181 247 248 .none (.ref 249) (.ref 250) 251 527
def zdO:aj:=x6 35#1 35#1 (tp 38) "copiedhouse.writer" 497 252
def zdP:aj:=tu []
def zk3:aj:=fl []
def zk4:aj:=x5 65#1 65#1 (tp 39)
def zdQ:aj:=yZ 65#1 65#1 530 225 1 181 254 255 .none .none .none 256 533
def zdR:aj:=x6 65#1 65#1 (tp 39) "copiedhouse.writer" 497 257
def zdS:aj:=tu []
def zk6:aj:=fl []
def zdT:aj:=tu [.str 8#1 541,.str 41#1 542,.str "_law_number_here" 543,.str "_law_own" 544]
def zdU:aj:=tu []
def zk7:aj:=x5 61#1 61#1 (tp 41)
def zdV:aj:=yZ 61#1 61#1 538 230 2 181 259 260 .none (.ref 261) (.ref 262) 263 545
def zdW:aj:=x6 61#1 61#1 (tp 41) 1#1 536 264
def zdX:aj:=tu []
def zk8:aj:=fl []
def zdY:aj:=tu [.str 0#1 551,.str 27#1 552,.str "_law_digit" 553,.str "_law_number_here" 554,.str 20#1 555,.str "_law_two" 556]
def zdZ:aj:=tu []
def zk_:aj:=x5 60#1 60#1 (tp 42)
def zea:aj:=yZ 60#1 60#1 548 238 2 181 266 267 .none (.ref 268) (.ref 269) 270 557
def zeb:aj:=x6 60#1 60#1 (tp 42) 1#1 536 271
def zec:aj:=tu []
def zkA:aj:=fl []
def zed:aj:=tu [.str 0#1 563,.str 21#1 564]
def zee:aj:=tu []
def zkB:aj:=x5 74#1 74#1 (tp 43)
def zef:aj:=yZ 74#1 74#1 560 248 2 181 273 274 .none (.ref 275) (.ref 276) 277 565
def zeg:aj:=x6 74#1 74#1 (tp 43) 1#1 536 278
def zei:aj:=tu []
def zkC:aj:=fl []
def zkD:aj:=x5 58#1 58#1 (tp 44)
def zej:aj:=yZ 58#1 58#1 568 250 1 181 280 281 .none .none .none 282 571
def zek:aj:=x6 58#1 58#1 (tp 44) 1#1 536 283
def zel:aj:=tu []
def zkE:aj:=fl []
def zem:aj:=tu [.str 0#1 577,.str "_law_most" 578,.str 17#1 579]
def zen:aj:=tu []
def zkF:aj:=x5 26#1 26#1 (tp 45)
def zeo:aj:=yZ 26#1 26#1 574 256 2 181 285 286 .none (.ref 287) (.ref 288) 289 580
def zep:aj:=x6 26#1 26#1 (tp 45) 1#1 536 290
def zeq:aj:=tu []
def zkH:aj:=fl []
def zkI:aj:=x5 45#1 45#1 (tp 46)
def zer:aj:=yZ 45#1 45#1 583 263 5 181 292 293 .none .none .none 294 586
def zes:aj:=x6 45#1 45#1 (tp 46) 1#1 536 295
def zet:aj:=tu []
def zkJ:aj:=fl []
def zeu:aj:=tu [.str 0#1 592,.str 3#1 593,.str 17#1 594,.str "_law_word_here" 595,.str 6#1 596]
def zev:aj:=tu []
def zkL:aj:=x5 62#1 62#1 (tp 47)
def zew:aj:=yZ 62#1 62#1 589 283 2 181 297 298 .none (.ref 299) (.ref 300) 301 597
def zex:aj:=x6 62#1 62#1 (tp 47) 1#1 536 302
def zey:aj:=tu []
def zkM:aj:=fl []
def zez:aj:=tu [.str 0#1 603,.str 3#1 604,.str 17#1 605,.str "_law_guard" 606]
def ze0:aj:=tu []
def zkN:aj:=x5 73#1 73#1 (tp 48)
def ze1:aj:=yZ 73#1 73#1 600 294 2 181 304 305 .none (.ref 306) (.ref 307) 308 607
def ze2:aj:=x6 73#1 73#1 (tp 48) 1#1 536 309
def ze3:aj:=tu []
def zkP:aj:=fl []
def zkQ:aj:=x5 40#1 40#1 (tp 49)
def ze4:aj:=yZ 40#1 40#1 610 302 2 181 311 312 .none .none .none 313 613
def ze5:aj:=x6 40#1 40#1 (tp 49) 1#1 536 314
def ze6:aj:=tu []
def zkR:aj:=fl []
def zkS:aj:=x5 24#1 24#1 (tp 50)
def ze7:aj:=yZ 24#1 24#1 616 316 2 181 316 317 .none .none .none 318 619
def ze8:aj:=x6 24#1 24#1 (tp 50) 1#1 536 319
def ze9:aj:=tu []
def zkU:aj:=fl []
def zkV:aj:=x5 12#1 12#1 (tp 51)
def ze_:aj:=yZ 12#1 12#1 622 327 1 181 321 322 .none .none .none 323 625
def zeA:aj:=x6 12#1 12#1 (tp 51) 1#1 536 324
def zeB:aj:=tu []
def zkW:aj:=fl []
def zeC:aj:=tu [.str 7#1 631,.str 3#1 632,.str "_law_part" 633]
def zeD:aj:=tu []
def zkY:aj:=x5 15#1 15#1 (tp 52)
def zeE:aj:=yZ 15#1 15#1 628 338 1 181 326 327 .none (.ref 328) (.ref 329) 330 634
def zeF:aj:=x6 15#1 15#1 (tp 52) 1#1 536 331
def zeG:aj:=tu []
def zkZ:aj:=fl []
def zla:aj:=x5 59#1 59#1 (tp 53)
def zeH:aj:=yZ 59#1 59#1 637 348 1 181 333 334 .none .none .none 335 640
def zeI:aj:=x6 59#1 59#1 (tp 53) 1#1 536 336
def zeJ:aj:=tu []
def zlb:aj:=fl []
def zeK:aj:=tu [.str 49#1 646,.str "_law_due" 647,.str "_law_left" 648,.str 20#1 649,.str "_law_other" 650]
def zeL:aj:=tu []
def zld:aj:=x5 42#1 42#1 (tp 54)
def zeM:aj:=yZ 42#1 42#1 643 364 2 181 338 339 .none (.ref 340) (.ref 341) 342 651
def zeN:aj:=x6 42#1 42#1 (tp 54) 1#1 536 343
def zeO:aj:=tu []
def zle:aj:=fl []
def zlf:aj:=x5 39#1 39#1 (tp 55)
def zeP:aj:=yZ 39#1 39#1 654 375 1 181 345 346 .none .none .none 347 657
def zeQ:aj:=x6 39#1 39#1 (tp 55) 1#1 536 348
def zeS:aj:=tu []
def zlg:aj:=fl []
def zeT:aj:=tu [.str 8#1 663,.str 20#1 664,.str "_law_other" 665,.str 41#1 666,.str 2#1 667,.str "_law_text" 668,.str 6#1 669,.str "_law_told" 670]
def zeU:aj:=tu []
def zlh:aj:=x5 "law" "law" (tp 56)
def zeV:aj:=yZ "law" "law" 660 384 1 181 350 351 .none (.ref 352) (.ref 353) 354 671
def zeW:aj:=x6 "law" "law" (tp 56) 1#1 536 355
def a12:aj:=fl []
def Ta (P:jb):BT:=(.node (boot_o_0 P) (.node (boot_o_1 P) (.node (boot_o_3 P) (.node (boot_o_7 P) .nil .nil) (.node aE .nil .nil)) (.node (boot_o_5 P) (.node (boot_o_9 P) .nil .nil) (.node aF .nil .nil))) (.node (boot_o_2 P) (.node (boot_o_4 P) (.node (boot_o_8 P) .nil .nil) (.node a12 .nil .nil)) (.node (boot_o_6 P) (.node (boot_o_10 P) .nil .nil) (.node aG .nil .nil))))
def Tz (P:jb):BT:=(.node (boot_o_0 P) (.node (boot_o_1 P) (.node (f3 P) (.node (boot_o_7 P) (.node f15 (.node f31 (.node f63 (.node zcv (lf zk3) .nil) (.node zde (lf ze7) .nil)) (.node f95 (.node zcI (lf zem) .nil) (.node zd2 (lf zlg) .nil))) (.node f47 (.node f79 (.node zc7 (lf zea) .nil) (.node zdp (lf zla) .nil)) (.node zcj (.node zkb (lf zex) .nil) (lf zky)))) (.node (f23 P) (.node f39 (.node f71 (.node zc1 (lf zk7) .nil) (.node zkk (lf zkW) .nil)) (.node zjD (.node zcN (lf zer) .nil) (lf zkv))) (.node f55 (.node f87 (.node zjR (lf zeg) .nil) (.node zdv (lf zeM) .nil)) (.node zcp (.node zcY (lf ze3) .nil) (lf zdJ))))) (.node aE (.node f19 (.node f35 (.node f67 (.node zjM (lf zdS) .nil) (.node zdh (lf zkV) .nil)) (.node f99 (.node zcL (lf zep) .nil) (.node zku (lf zeV) .nil))) (.node f51 (.node f83 (.node zjQ (lf zed) .nil) (.node zds (lf zlb) .nil)) (.node zcm (.node zcV (lf ze0) .nil) (lf zkz)))) (.node f27 (.node (f43 P) (.node f75 (.node zc4 (lf zk8) .nil) (.node zkm (lf zeE) .nil)) (.node zjE (.node zka (lf zeu) .nil) (lf zdA))) (.node (f59 P) (.node f91 (.node zcF (lf zej) .nil) (.node zdy (lf zlf) .nil)) (.node zct (.node zdb (lf ze5) .nil) (lf zk2)))))) (.node (boot_o_5 P) (.node (boot_o_9 P) (.node (f17 P) (.node f33 (.node f65 (.node zcw (lf zdQ) .nil) (.node zdf (lf ze9) .nil)) (.node f97 (.node zjV (lf zkF) .nil) (.node zd3 (lf zeU) .nil))) (.node f49 (.node f81 (.node zc8 (lf zec) .nil) (.node zdr (lf zeI) .nil)) (.node zcl (.node zcU (lf zkM) .nil) (lf zdF)))) (.node f25 (.node f41 (.node f73 (.node zjN (lf zdW) .nil) (.node zdl (lf zeD) .nil)) (.node zcf (.node zcP (lf zet) .nil) (lf zd9))) (.node f57 (.node f89 (.node zcE (lf zkC) .nil) (.node zkr (lf zeO) .nil)) (.node (zcr P) (.node zkf (lf zkQ) .nil) (lf zdK))))) (.node aF (.node f21 (.node f37 (.node f69 (.node zcz (lf zdT) .nil) (.node zdi (lf zeA) .nil)) (.node zcc (.node zjW (lf zkH) .nil) (lf zd6))) (.node f53 (.node f85 (.node zcA (lf zkB) .nil) (.node zkq (lf zeL) .nil)) (.node zjH (.node zcX (lf ze1) .nil) (lf zdH)))) (.node f29 (.node f45 (.node f77 (.node zc5 (lf zdZ) .nil) (.node zdo (lf zeG) .nil)) (.node zci (.node zcR (lf zkL) .nil) (lf zdB))) (.node f61 (.node f93 (.node zcH (lf zel) .nil) (.node zd0 (lf zeQ) .nil)) (.node zjJ (.node zkg (lf zkR) .nil) (lf zdO))))))) (.node (boot_o_2 P) (.node (boot_o_4 P) (.node (boot_o_8 P) (.node f16 (.node f32 (.node f64 (.node zjL (lf zk4) .nil) (.node zki (lf ze8) .nil)) (.node f96 (.node zcJ (lf zen) .nil) (.node zkt (lf zeT) .nil))) (.node f48 (.node f80 (.node zjP (lf zeb) .nil) (.node zdq (lf zeH) .nil)) (.node zck (.node zcT (lf zey) .nil) (lf zdE)))) (.node f24 (.node f40 (.node f72 (.node zc2 (lf zdV) .nil) (.node zdk (lf zeC) .nil)) (.node zce (.node zcO (lf zes) .nil) (lf zkw))) (.node f56 (.node f88 (.node zcD (lf zei) .nil) (.node zdw (lf zeN) .nil)) (.node zcq (.node zcZ (lf zkP) .nil) (lf zk1))))) (.node f12 (.node f20 (.node f36 (.node f68 (.node zcy (lf zk6) .nil) (.node zkj (lf ze_) .nil)) (.node zjC (.node zcM (lf zeq) .nil) (.node zd5 (lf zeW) .nil))) (.node f52 (.node f84 (.node zc_ (lf zee) .nil) (.node zdt (lf zeK) .nil)) (.node zcn (.node zcW (lf zkN) .nil) (lf zk0)))) (.node f28 (.node f44 (.node f76 (.node zjO (lf zdY) .nil) (.node zdn (lf zeF) .nil)) (.node zch (.node zcQ (lf zev) .nil) (lf zkx))) (.node f60 (.node f92 (.node zcG (lf zek) .nil) (.node zks (lf zeP) .nil)) (.node zcu (.node zdc (lf ze6) .nil) (lf zdN)))))) (.node (boot_o_6 P) (.node (boot_o_10 P) (.node f18 (.node f34 (.node f66 (.node zcx (lf zdR) .nil) (.node zdg (lf zkU) .nil)) (.node f98 (.node zcK (lf zeo) .nil) (.node zd4 (lf zlh) .nil))) (.node f50 (.node f82 (.node zc9 (lf zkA) .nil) (.node zkp (lf zeJ) .nil)) (.node zjG (.node zkc (lf zez) .nil) (lf zdG)))) (.node f26 (.node f42 (.node f74 (.node zc3 (lf zdX) .nil) (.node zdm (lf zkY) .nil)) (.node zcg (.node zjZ (lf zkJ) .nil) (lf zd_))) (.node f58 (.node f90 (.node zjS (lf zkD) .nil) (.node zdx (lf zle) .nil)) (.node zcs (.node zda (lf ze4) .nil) (lf zdM))))) (.node aG (.node f22 (.node f38 (.node f70 (.node zc0 (lf zdU) .nil) (.node zdj (lf zeB) .nil)) (.node zcd (.node zjX (lf zkI) .nil) (lf zd8))) (.node f54 (.node f86 (.node zcC (lf zef) .nil) (.node zdu (lf zld) .nil)) (.node zco (.node zke (lf ze2) .nil) (lf zdI)))) (.node (f30 P) (.node f46 (.node f78 (.node zc6 (lf zk_) .nil) (.node zkn (lf zkZ) .nil)) (.node zjF (.node zcS (lf zew) .nil) (lf zdC))) (.node f62 (.node f94 (.node zjT (lf zkE) .nil) (.node zd1 (lf zeS) .nil)) (.node zjK (.node zdd (lf zkS) .nil) (lf zdP))))))))
def Ha (P:jb):cf:=⟨⟨[boot_o_0 P,boot_o_1 P,boot_o_2 P,boot_o_3 P,boot_o_4 P,boot_o_5 P,boot_o_6 P,boot_o_7 P,boot_o_8 P,boot_o_9 P,boot_o_10 P,aE,a12,aF,aG]⟩,li⟩
def Hl (P:jb):List aj:= [boot_o_0 P,boot_o_1 P,boot_o_2 P,f3 P,boot_o_4 P,boot_o_5 P,boot_o_6 P,boot_o_7 P,boot_o_8 P,boot_o_9 P,boot_o_10 P,aE,f12,aF,aG,f15,f16,f17 P,f18,f19,f20,f21,f22,f23 P,f24,f25,f26,f27,f28,f29,f30 P,f31,f32,f33,f34,f35,f36,f37,f38,f39,f40,f41,f42,f43 P,f44,f45,f46,f47,f48,f49,f50,f51,f52,f53,f54,f55,f56,f57,f58,f59 P,f60,f61,f62,f63,f64,f65,f66,f67,f68,f69,f70,f71,f72,f73,f74,f75,f76,f77,f78,f79,f80,f81,f82,f83,f84,f85,f86,f87,f88,f89,f90,f91,f92,f93,f94,f95,f96,f97,f98,f99,zjC,zcc,zcd,zjD,zce,zcf,zcg,zjE,zch,zci,zjF,zcj,zck,zcl,zjG,zcm,zcn,zjH,zco,zcp,zcq,zcr P,zcs,zct,zcu,zjJ,zjK,zcv,zjL,zcw,zcx,zjM,zcy,zcz,zc0,zc1,zc2,zjN,zc3,zc4,zjO,zc5,zc6,zc7,zjP,zc8,zc9,zjQ,zc_,zcA,zcC,zjR,zcD,zcE,zjS,zcF,zcG,zcH,zjT,zcI,zcJ,zjV,zcK,zcL,zcM,zjW,zjX,zcN,zcO,zcP,zjZ,zka,zcQ,zcR,zcS,zkb,zcT,zcU,zkc,zcV,zcW,zcX,zke,zcY,zcZ,zkf,zda,zdb,zdc,zkg,zdd,zde,zki,zdf,zdg,zdh,zkj,zdi,zdj,zkk,zdk,zdl,zdm,zkm,zdn,zdo,zkn,zdp,zdq,zdr,zkp,zds,zdt,zkq,zdu,zdv,zdw,zkr,zdx,zdy,zks,zd0,zd1,zd2,zkt,zd3,zd4,zku,zd5,zd6,zd8,zkv,zkw,zd9,zd_,zdA,zkx,zdB,zdC,zky,zdE,zdF,zdG,zkz,zk0,zdH,zdI,zdJ,zk1,zdK,zdM,zk2,zdN,zdO,zdP,zk3,zk4,zdQ,zdR,zdS,zk6,zdT,zdU,zk7,zdV,zdW,zdX,zk8,zdY,zdZ,zk_,zea,zeb,zec,zkA,zed,zee,zkB,zef,zeg,zei,zkC,zkD,zej,zek,zel,zkE,zem,zen,zkF,zeo,zep,zeq,zkH,zkI,zer,zes,zet,zkJ,zeu,zev,zkL,zew,zex,zey,zkM,zez,ze0,zkN,ze1,ze2,ze3,zkP,zkQ,ze4,ze5,ze6,zkR,zkS,ze7,ze8,ze9,zkU,zkV,ze_,zeA,zeB,zkW,zeC,zeD,zkY,zeE,zeF,zeG,zkZ,zla,zeH,zeI,zeJ,zlb,zeK,zeL,zld,zeM,zeN,zeO,zle,zlf,zeP,zeQ,zeS,zlg,zeT,zeU,zlh,zeV,zeW]
def Hf (P:jb):cf:=⟨⟨Hl P⟩,li⟩
theorem pre (w:bz)(os:ow):topGo treeTable pg w 11 an 12 ⟨boot_heap w.params,gs,boot_drawn,boot_toks,os⟩ (topStub pg)=some (⟨Ha w.params,gs,boot_drawn,187,os⟩,⟨denote treeTable cE,cE,⟨0,0,0,0⟩,B⟩):=by
 rw[PySem.W.Fast.te15667345088766844465,ie,PySem.W.Fast.te11892475500146522536];kernel_rfl
theorem block (w:bz)(os:ow):segRun treeTable pg w 11 an 1 1 ⟨Ha w.params,gs,boot_drawn,187,os⟩ (blockOf (behindTheImports pg) ev cE ⟨0,0,0,0⟩ B)=some (.next,(SharedT.abs ⟨Ta w.params,15,li,gs,boot_drawn,187,os⟩),cE,⟨0,0,0,0⟩):=by
 rw[PySem.W.Fast.te14374325043358763698,ie];kernel_rfl
def zoY:List bw:= [tp 0,tp 1,tp 2,tp 3,tp 4,tp 5,tp 6,tp 7,tp 8,tp 9,tp 10,tp 11,tp 12,tp 13,tp 14,tp 15,tp 16,tp 17,tp 18,tp 19,tp 20,tp 21,tp 22,tp 23,tp 24,tp 25,tp 26,tp 27,tp 28,tp 29,tp 30,tp 31,tp 32,tp 33,tp 34,tp 35,tp 36,tp 37,tp 38,tp 39,tp 40,tp 41,tp 42,tp 43,tp 44,tp 45,tp 46,tp 47,tp 48,tp 49,tp 50,tp 51,tp 52,tp 53,tp 54,tp 55,tp 56]
theorem zwe (w:bz)(os:ow):segRunT treeTable pg w 11 an 1 2161 ⟨Ta w.params,15,li,gs,boot_drawn,187,os⟩ (piecesOf zoY ev cE ⟨0,0,0,0⟩ B)=some (.next,⟨Tz w.params,357,li,gs,boot_drawn,674,os⟩,cE,⟨384,0,395,15⟩):=by
 rw[PySem.W.Fast.te10110043849684766642,ie];kernel_rfl
theorem fin (w:bz)(os:ow):topRun treeTable pg w 11 an 2 (SharedT.abs ⟨Tz w.params,357,li,gs,boot_drawn,674,os⟩) ⟨doneF .next,cE,⟨384,0,395,15⟩,B⟩=some ⟨Hf w.params,gs,boot_drawn,674,os⟩:=by
 rw[PySem.W.Fast.te14082659384304107361,ie];kernel_rfl
theorem run (w:bz)(os:ow):topRun treeTable pg w 11 an (12+(1+(2161+(2)))) ⟨boot_heap w.params,gs,boot_drawn,boot_toks,os⟩ (topStub pg)=some ⟨Hf w.params,gs,boot_drawn,674,os⟩:=
 go_top (pre w os) (piece_block (env:=ev) (b:=behindTheImports pg) (block w os) (piece_app (env:=ev) (l:=zoY) (segRun_of (zwe w os)) (piece_nil (env:=ev) (fin w os))))
def K (P:jb):Frag:=(nat_lit 2,boot_o_2 P)::(nat_lit 3,f3 P)::(nat_lit 15,f15)::(nat_lit 22,f22)::(nat_lit 23,f23 P)::(nat_lit 24,f24)::(nat_lit 25,f25)::(nat_lit 28,f28)::(nat_lit 35,f35)::(nat_lit 37,f37)::(nat_lit 38,f38)::(nat_lit 40,f40)::(nat_lit 41,f41)::(nat_lit 42,f42)::(nat_lit 43,f43 P)::(nat_lit 44,f44)::(nat_lit 47,f47)::(nat_lit 50,f50)::(nat_lit 51,f51)::(nat_lit 52,f52)::(nat_lit 55,f55)::(nat_lit 56,f56)::(nat_lit 64,f64)::(nat_lit 66,f66)::(nat_lit 67,f67)::(nat_lit 69,f69)::(nat_lit 70,f70)::(nat_lit 71,f71)::(nat_lit 73,f73)::(nat_lit 74,f74)::(nat_lit 76,f76)::(nat_lit 77,f77)::(nat_lit 78,f78)::(nat_lit 80,f80)::(nat_lit 81,f81)::(nat_lit 83,f83)::(nat_lit 84,f84)::(nat_lit 85,f85)::(nat_lit 87,f87)::(nat_lit 88,f88)::(nat_lit 90,f90)::(nat_lit 91,f91)::(nat_lit 92,f92)::(nat_lit 94,f94)::(nat_lit 95,f95)::(nat_lit 97,f97)::(nat_lit 98,f98)::(nat_lit 99,f99)::(nat_lit 101,zcc)::(nat_lit 102,zcd)::(nat_lit 104,zce)::(nat_lit 105,zcf)::(nat_lit 106,zcg)::(nat_lit 108,zch)::(nat_lit 109,zci)::(nat_lit 111,zcj)::(nat_lit 112,zck)::(nat_lit 113,zcl)::(nat_lit 115,zcm)::(nat_lit 116,zcn)::(nat_lit 118,zco)::(nat_lit 119,zcp)::(nat_lit 120,zcq)::(nat_lit 121,zcr P)::(nat_lit 122,zcs)::(nat_lit 123,zct)::(nat_lit 124,zcu)::(nat_lit 127,zcv)::(nat_lit 129,zcw)::(nat_lit 130,zcx)::(nat_lit 132,zcy)::(nat_lit 133,zcz)::(nat_lit 134,zc0)::(nat_lit 135,zc1)::(nat_lit 136,zc2)::(nat_lit 138,zc3)::(nat_lit 139,zc4)::(nat_lit 141,zc5)::(nat_lit 142,zc6)::(nat_lit 143,zc7)::(nat_lit 145,zc8)::(nat_lit 146,zc9)::(nat_lit 148,zc_)::(nat_lit 149,zcA)::(nat_lit 150,zcC)::(nat_lit 152,zcD)::(nat_lit 153,zcE)::(nat_lit 155,zcF)::(nat_lit 156,zcG)::(nat_lit 157,zcH)::(nat_lit 159,zcI)::(nat_lit 160,zcJ)::(nat_lit 162,zcK)::(nat_lit 163,zcL)::(nat_lit 164,zcM)::(nat_lit 167,zcN)::(nat_lit 168,zcO)::(nat_lit 169,zcP)::(nat_lit 172,zcQ)::(nat_lit 173,zcR)::(nat_lit 174,zcS)::(nat_lit 176,zcT)::(nat_lit 177,zcU)::(nat_lit 179,zcV)::(nat_lit 180,zcW)::(nat_lit 181,zcX)::(nat_lit 183,zcY)::(nat_lit 184,zcZ)::(nat_lit 186,zda)::(nat_lit 187,zdb)::(nat_lit 188,zdc)::(nat_lit 190,zdd)::(nat_lit 191,zde)::(nat_lit 193,zdf)::(nat_lit 194,zdg)::(nat_lit 195,zdh)::(nat_lit 197,zdi)::(nat_lit 198,zdj)::(nat_lit 200,zdk)::(nat_lit 201,zdl)::(nat_lit 202,zdm)::(nat_lit 204,zdn)::(nat_lit 205,zdo)::(nat_lit 207,zdp)::(nat_lit 208,zdq)::(nat_lit 209,zdr)::(nat_lit 211,zds)::(nat_lit 212,zdt)::(nat_lit 214,zdu)::(nat_lit 215,zdv)::(nat_lit 216,zdw)::(nat_lit 218,zdx)::(nat_lit 219,zdy)::(nat_lit 221,zd0)::(nat_lit 222,zd1)::(nat_lit 223,zd2)::(nat_lit 225,zd3)::(nat_lit 226,zd4)::(nat_lit 228,zd5)::(nat_lit 229,zd6)::(nat_lit 230,zd8)::(nat_lit 233,zd9)::(nat_lit 234,zd_)::(nat_lit 235,zdA)::(nat_lit 237,zdB)::(nat_lit 238,zdC)::(nat_lit 240,zdE)::(nat_lit 241,zdF)::(nat_lit 242,zdG)::(nat_lit 245,zdH)::(nat_lit 246,zdI)::(nat_lit 247,zdJ)::(nat_lit 249,zdK)::(nat_lit 250,zdM)::(nat_lit 252,zdN)::(nat_lit 253,zdO)::(nat_lit 254,zdP)::(nat_lit 257,zdQ)::(nat_lit 258,zdR)::(nat_lit 259,zdS)::(nat_lit 261,zdT)::(nat_lit 262,zdU)::(nat_lit 264,zdV)::(nat_lit 265,zdW)::(nat_lit 266,zdX)::(nat_lit 268,zdY)::(nat_lit 269,zdZ)::(nat_lit 271,zea)::(nat_lit 272,zeb)::(nat_lit 273,zec)::(nat_lit 275,zed)::(nat_lit 276,zee)::(nat_lit 278,zef)::(nat_lit 279,zeg)::(nat_lit 280,zei)::(nat_lit 283,zej)::(nat_lit 284,zek)::(nat_lit 285,zel)::(nat_lit 287,zem)::(nat_lit 288,zen)::(nat_lit 290,zeo)::(nat_lit 291,zep)::(nat_lit 292,zeq)::(nat_lit 295,zer)::(nat_lit 296,zes)::(nat_lit 297,zet)::(nat_lit 299,zeu)::(nat_lit 300,zev)::(nat_lit 302,zew)::(nat_lit 303,zex)::(nat_lit 304,zey)::(nat_lit 306,zez)::(nat_lit 307,ze0)::(nat_lit 309,ze1)::(nat_lit 310,ze2)::(nat_lit 311,ze3)::(nat_lit 314,ze4)::(nat_lit 315,ze5)::(nat_lit 316,ze6)::(nat_lit 319,ze7)::(nat_lit 320,ze8)::(nat_lit 321,ze9)::(nat_lit 324,ze_)::(nat_lit 325,zeA)::(nat_lit 326,zeB)::(nat_lit 328,zeC)::(nat_lit 329,zeD)::(nat_lit 331,zeE)::(nat_lit 332,zeF)::(nat_lit 333,zeG)::(nat_lit 336,zeH)::(nat_lit 337,zeI)::(nat_lit 338,zeJ)::(nat_lit 340,zeK)::(nat_lit 341,zeL)::(nat_lit 343,zeM)::(nat_lit 344,zeN)::(nat_lit 345,zeO)::(nat_lit 348,zeP)::(nat_lit 349,zeQ)::(nat_lit 350,zeS)::(nat_lit 352,zeT)::(nat_lit 353,zeU)::(nat_lit 355,zeV)::(nat_lit 356,zeW):: []
abbrev hk:Hook:=kmHook K [2,3,15,22,23,24,25,28,35,37,38,40,41,42,43,44,47,50,51,52,55,56,64,66,67,69,70,71,73,74,76,77,78,80,81,83,84,85,87,88,90,91,92,94,95,97,98,99,101,102,104,105,106,108,109,111,112,113,115,116,118,119,120,121,122,123,124,127,129,130,132,133,134,135,136,138,139,141,142,143,145,146,148,149,150,152,153,155,156,157,159,160,162,163,164,167,168,169,172,173,174,176,177,179,180,181,183,184,186,187,188,190,191,193,194,195,197,198,200,201,202,204,205,207,208,209,211,212,214,215,216,218,219,221,222,223,225,226,228,229,230,233,234,235,237,238,240,241,242,245,246,247,249,250,252,253,254,257,258,259,261,262,264,265,266,268,269,271,272,273,275,276,278,279,280,283,284,285,287,288,290,291,292,295,296,297,299,300,302,303,304,306,307,309,310,311,314,315,316,319,320,321,324,325,326,328,329,331,332,333,336,337,338,340,341,343,344,345,348,349,350,352,353,355,356] (λ_=>by kernel_rfl) []
def q:br:= {pg with main:= {pg.main with body:= [tp 1,tp 2,tp 4,tp 5,tp 6,tp 7,tp 8,tp 9,tp 11,tp 12,tp 13,tp 14,tp 16,tp 17,tp 18,tp 19,tp 20,tp 21,tp 22,tp 23,tp 25,tp 26,tp 27,tp 28,tp 29,tp 30,tp 31,tp 32,tp 33,tp 35,tp 36,tp 37,tp 38,tp 39,tp 41,tp 42,tp 43,tp 44,tp 45,tp 46,tp 47,tp 48,tp 49,tp 50,tp 51,tp 52,tp 53,tp 54,tp 55,tp 56]}}
abbrev Xt (s:ag):Bool:=xlAt q [] s&&recOk (RowW.records (OpenRow.toRowW (PySem.Challenge.rw_copiedhouse_k13_whole_programs_written_a).row)) s
theorem sz (w:bz):((boot_heap w.params).isNs da&&gs.size==0,(boot_heap w.params).objs.size,(boot_heap w.params).nsMap da "__annotations__")=(true,11,an):=by
 rw[PySem.W.Fast.te8920871248978507458];kernel_rfl
theorem lk1 (w:bz)(os:ow):(staticsOk (importedModules pg.main.body) (boot_heap w.params) (Hf w.params)&&namesBound pg (Hf w.params)&&gensDone ⟨Hf w.params,gs,boot_drawn,674,os⟩&&laidKept (boot_heap w.params) (Hf w.params))=true:=by
 rw[PySem.W.Fast.te5923862056798008813];kernel_rfl
theorem lk2 (w:bz)(os:ow):openSeen q [] (importedModules pg.main.body) Xt true ⟨Hf w.params,gs,boot_drawn,674,os⟩=openGood q []:=by
 rw[PySem.W.Fast.te4187177175401517315,PySem.W.Fast.te5923862056798008813];kernel_rfl
theorem lk3 (w:bz)(os:ow):Hook.obs hk ⟨Hf w.params,gs,boot_drawn,674,os⟩=Hook.val hk w:=by kernel_rfl
theorem left:LeftO pg q [] Xt (Hook.obs hk) (Hook.val hk) 4446:=LeftO.of_pieces (H₀:=boot_heap) (H₁:=Hf) (M:=12+(1+(2161+(2)))) (boot_open rfl rfl λ_=>rfl) sz run 2#0 λw=>funext λos=>looks_pair (lk1 w os) (looks_pair (lk2 w os) (lk3 w os))
theorem ws:(PySem.Challenge.rw_copiedhouse_k13_whole_programs_written_a).wellSaid=true:=by kernel_rfl
end
end Hd
namespace L3
open PySem PySem.Spec PyProof.Rows L2
abbrev St:=L2.St
structure kS where
 f:aa
 o:aj
 q:Str
 c:aa
 c':aa
 oz:aj
 dd:aa
 kvs:List (List Int×Int)
inductive PV where
 | non | bl (b:Bool) | int (i:Int) | str (x:Str) | ty (n:String)
 | tup (xs:List PV) | lst (xs:List PV) | dct (kvs:List (zK×PV)) | itb (kvs:List (List Int×Int)) | clo (D:kS) | obj (n:Nat)
def zh2 (kvs:List (List Int×Int)):List (List zK×V):=kvs.map λp=>(p.1.map Sum.inl,V.int p.2)
inductive PO where
 | lst (xs:List PV) | dct (kvs:List (zK×PV)) | tbl (T:aa) (pos:di) (q:Str) | itb (kvs:List (List Int×Int)) | rcd (kvs:List (zK×PV)) | fd (o:aj) (kvs:List (zK×PV)) | ros (xs:List PV) | ins (C dx:aa) (fs:List (Str×PV))
abbrev z7:=List PO
abbrev zI:=List (Option PV)
abbrev K3:=PV->z7->Prop
def zb7 (K:Frag)(a:aa)(vs:List V):Prop:= ∃(o:aj) (xn:Array ad) (n:Nat),K.lookup a=some o/\o.cls= .type 22#1 /\o.dict=none/\o.data= .seq xn n/\xn.size<=am/\zR vs xn.toList
def zqR (K:Frag)(a:aa)(vs:List V):Prop:= ∃(o:aj) (xn:Array ad) (n:Nat),K.lookup a=some o/\o.cls= .type 9#1 /\o.dict=none/\o.data= .seq xn n/\xn.size<=am/\zR vs xn.toList/\o.slots= #[]
def oW (K:Frag)(A:List aa)(H:Hp)(a:aa)(vs:List V):Prop:=(Rd H a (.tup vs)/\a∉A)∨zb7 K a vs
def oV (K:Frag)(A:List aa)(H:Hp)(a:aa)(vs:List V):Prop:=(Rd H a (.lst vs)/\a∉A)∨zqR K a vs
def zpT (A:List aa)(H:Hp)(a:aa)(us:List (zK×V)):Prop:=H a=some (.dK us)/\a∉A
structure zpR (A:List aa)(H:Hp)(D:kS):Prop where
 fn:H D.f=some (.ext (zhS D.f D.o))/\D.f∉A
 cd:H D.c'=some (.ext (zhJ D.c' D.q))/\D.c'∉A
 cl:H D.c=some (.ext (zhS D.c D.oz))/\D.c∉A
 dt:H D.dd=some (.dT (zh2 D.kvs))/\D.dd∉A
mutual
inductive RV (K:Frag)(A:List aa)(H:Hp):PV->V->Prop
 | non:RV K A H .non .non
 | bl (b:Bool):RV K A H (.bl b) (.bl b)
 | int (i:Int):RV K A H 1#5 1#5
 | str (x:Str):RV K A H (.str x) (.str x)
 | ty (n:String):RV K A H (.ty n) (.ty n)
 | tup {xs:List PV} {a:aa} {vs:List V} :oW K A H a vs->vs.length<=am->RVs K A H xs vs->RV K A H 2#6 (.ref a)
 | lst {xs:List PV} {a:aa} {vs:List V} :oV K A H a vs->vs.length<=am->RVs K A H xs vs->RV K A H 2#4 (.ref a)
 | dct {kvs:List (zK×PV)} {a:aa} {us:List (zK×V)} :zpT A H a us->us.length<=am->RKs K A H kvs us->RV K A H 4#5 (.ref a)
 | itb {kvs:List (List Int×Int)} {a:aa} :H a=some (.dT (zh2 kvs))->a∉A->RV K A H (.itb kvs) (.ref a)
 | clo {D:kS} :zpR A H D->RV K A H (.clo D) (.ref D.f)
inductive RVs (K:Frag)(A:List aa)(H:Hp):List PV->List V->Prop
 | nil:RVs K A H [] []
 | cons {x:PV} {v:V} {xs:List PV} {vs:List V} :RV K A H x v->RVs K A H xs vs->RVs K A H (x::xs) (v::vs)
inductive RKs (K:Frag)(A:List aa)(H:Hp):List (zK×PV)->List (zK×V)->Prop
 | nil:RKs K A H [] []
 | cons {k:zK} {x:PV} {v:V} {xs:List (zK×PV)} {vs:List (zK×V)} :RV K A H x v->RKs K A H xs vs->RKs K A H ((k,x)::xs) ((k,v)::vs)
end
structure zZ (A:List aa)(H:Hp)(A':List aa)(H':Hp):Prop where
 ext: ∃B,A'=A++B/\∀b∈B,H b=none
 keep: ∀b o,H b=some o->b∉A->H' b=some o
 live: ∀b,H b≠none->H' b≠none
theorem zZ.refl (A:List aa)(H:Hp):zZ A H A H:=⟨⟨[],3#0,3#0⟩,λ_ _ h _=>h,λ_ h=>h⟩
theorem zZ.out {A A':List aa}{H H':Hp}(g:zZ A H A' H'){b:aa}{o:HO}(h:H b=some o)(n:b∉A):b∉A':=by
 obtain⟨B,rfl,hB⟩:=g.ext;intro m;rcases bi.mp m with m | m
 ·exact n m
 ·rw[hB b m]at h;cases h
theorem zZ.trans {A A1 A2:List aa}{H H1 H2:Hp}(g:zZ A H A1 H1)(g':zZ A1 H1 A2 H2):zZ A H A2 H2:=by
 refine⟨?_,λb o h n=>g'.keep b o (g.keep b o h n) (g.out h n),λb h=>g'.live b (g.live b h)⟩;obtain⟨B,rfl,hB⟩:=g.ext;obtain⟨C,rfl,hC⟩:=g'.ext;refine⟨B++C,3#0,λb m=> ?_⟩;rcases bi.mp m with m | m
 ·exact hB b m
 ·by_cases h:H b=none
  ·exact h
  ·exact absurd (hC b m) (g.live b h)
theorem zZ.sub {A A':List aa}{H H':Hp}(g:zZ A H A' H'){i:Nat}{a:aa}(h:A[i]?=some a):A'[i]?=some a:=by
 obtain⟨B,rfl,_⟩:=g.ext;rw[cn (ba.mp h).1];exact h
theorem zZ.new {A:List aa}{H:Hp}{p:aa}{o:HO}(h:H p=none):zZ A H A (zN H p o):=by
 refine⟨⟨[],3#0,3#0⟩,λb u e _=>by rw[yJ (pZ e h)];exact e,λb hb=> ?_⟩;by_cases e:b=p
 ·subst e;rw[xR];exact cw _
 ·rw[yJ e];exact hb
theorem zZ.newObj {A:List aa}{H:Hp}{p:aa}{o:HO}(h:H p=none):zZ A H (A++ [p]) (zN H p o):=by
 refine⟨⟨[p],rfl,λb m=>by rw[au.mp m];exact h⟩,(zZ.new (A:=A) h).keep,(zZ.new (A:=A) h).live⟩
theorem zZ.put {A:List aa}{H:Hp}{p:aa}{o:HO}(h:p∈A):zZ A H A (zN H p o):=by
 refine⟨⟨[],3#0,3#0⟩,λb u e n=>by rw[yJ (λz=>n (by rw[z];exact h))];exact e,λb hb=> ?_⟩;by_cases e:b=p
 ·subst e;rw[xR];exact cw _
 ·rw[yJ e];exact hb
section
variable {K:Frag} {A A':List aa} {H H':Hp}
theorem oW.sq {a:aa}{vs:List V}(h:oW K A H a vs):xV K H a vs:=h.imp And.left id
theorem oV.sq {a:aa}{vs:List V}(h:oV K A H a vs):xA K H a vs:=h.imp And.left id
theorem Rd.grow {a:aa}{u:HO}(g:zZ A H A' H')(h:Rd H a u/\a∉A):Rd H' a u/\a∉A':=by
 obtain⟨h | ⟨o,h⟩,n⟩:=h
 ·exact⟨.inl (g.keep _ _ h n),g.out h n⟩
 ·exact⟨.inr ⟨o,g.keep _ _ h n⟩,g.out h n⟩
theorem oW.grow {a:aa}{vs:List V}(g:zZ A H A' H')(h:oW K A H a vs):oW K A' H' a vs:=h.imp (Rd.grow g) id
theorem oV.grow {a:aa}{vs:List V}(g:zZ A H A' H')(h:oV K A H a vs):oV K A' H' a vs:=h.imp (Rd.grow g) id
mutual
theorem RV.grow (g:zZ A H A' H'){x:PV}{v:V} :RV K A H x v->RV K A' H' x v
 | .non=> .non
 | .bl b=> .bl b
 | .int i=> .int i
 | .str x=> .str x
 | .ty n=> .ty n
 | .tup t z r=> .tup (t.grow g) z (RVs.grow g r)
 | .lst t z r=> .lst (t.grow g) z (RVs.grow g r)
 | .dct t z r=> .dct ⟨g.keep _ _ t.1 t.2,g.out t.1 t.2⟩ z (RKs.grow g r)
 | .itb e n=> .itb (g.keep _ _ e n) (g.out e n)
 | .clo h=> .clo ⟨⟨g.keep _ _ h.fn.1 h.fn.2,g.out h.fn.1 h.fn.2⟩,⟨g.keep _ _ h.cd.1 h.cd.2,g.out h.cd.1 h.cd.2⟩,⟨g.keep _ _ h.cl.1 h.cl.2,g.out h.cl.1 h.cl.2⟩,⟨g.keep _ _ h.dt.1 h.dt.2,g.out h.dt.1 h.dt.2⟩⟩
theorem RVs.grow (g:zZ A H A' H'){xs:List PV}{vs:List V} :RVs K A H xs vs->RVs K A' H' xs vs
 | .nil=> .nil
 | .cons r t=> .cons (RV.grow g r) (RVs.grow g t)
theorem RKs.grow (g:zZ A H A' H'){xs:List (zK×PV)}{vs:List (zK×V)} :RKs K A H xs vs->RKs K A' H' xs vs
 | .nil=> .nil
 | .cons r t=> .cons (RV.grow g r) (RKs.grow g t)
end
theorem RVs.len {xs:List PV}{vs:List V} :RVs K A H xs vs->xs.length=vs.length
 | .nil=>rfl
 | .cons _ t=>by rw[ao,ao,RVs.len t]
theorem RKs.len {xs:List (zK×PV)}{vs:List (zK×V)} :RKs K A H xs vs->xs.length=vs.length
 | .nil=>rfl
 | .cons _ t=>by rw[ao,ao,RKs.len t]
theorem RVs.append {xs ys:List PV}{vs ws:List V} :RVs K A H xs vs->RVs K A H ys ws->RVs K A H (xs++ys) (vs++ws)
 | .nil,h=>h
 | .cons r t,h=> .cons r (RVs.append t h)
theorem RVs.get {xs:List PV}{vs:List V}{i:Nat}{x:PV}(h:RVs K A H xs vs)(e:xs[i]?=some x): ∃v,vs[i]?=some v/\RV K A H x v:=by
 induction i generalizing xs vs with
 | zero=>cases h with
  | nil=>cases e
  | cons r t=>simp at e;subst e;exact⟨_,rfl,r⟩
 | succ i ih=>cases h with
  | nil=>cases e
  | cons r t=>simpa using ih t (by simpa using e)
theorem RVs.get' {xs:List PV}{vs:List V}{i:Nat}{v:V}(h:RVs K A H xs vs)(e:vs[i]?=some v): ∃x,xs[i]?=some x/\RV K A H x v:=by
 induction i generalizing xs vs with
 | zero=>cases h with
  | nil=>cases e
  | cons r t=>simp at e;subst e;exact⟨_,rfl,r⟩
 | succ i ih=>cases h with
  | nil=>cases e
  | cons r t=>simpa using ih t (by simpa using e)
theorem RVs.drop {xs:List PV}{vs:List V}(h:RVs K A H xs vs)(n:Nat):RVs K A H (xs.drop n) (vs.drop n):=by
 induction n generalizing xs vs with
 | zero=>exact h
 | succ n ih=>cases h with
  | nil=>exact .nil
  | cons r t=>exact ih t
theorem RVs.take {xs:List PV}{vs:List V}(h:RVs K A H xs vs)(n:Nat):RVs K A H (xs.take n) (vs.take n):=by
 induction n generalizing xs vs with
 | zero=>exact .nil
 | succ n ih=>cases h with
  | nil=>exact .nil
  | cons r t=>exact .cons r (ih t)
inductive RE (K:Frag)(A:List aa)(H:Hp):PV->V->Prop
 | val {x:PV} {v:V} :RV K A H x v->RE K A H x v
 | obj {i:Nat} {a:aa} :A[i]?=some a->RE K A H (.obj i) (.ref a)
theorem RE.grow (g:zZ A H A' H'){x:PV}{v:V} :RE K A H x v->RE K A' H' x v
 | .val r=> .val (r.grow g)
 | .obj e=> .obj (g.sub e)
abbrev xC (K:Frag)(A:List aa)(H:Hp):List PV->List V->Prop:=Paired (RE K A H)
theorem xC.grow (g:zZ A H A' H'){xs:List PV}{vs:List V} :xC K A H xs vs->xC K A' H' xs vs
 | .nil=> .nil
 | .cons r t=> .cons (r.grow g) (xC.grow g t)
inductive RR (K:Frag)(A:List aa)(H:Hp)(a:aa):PV->V->Prop
 | val {x:PV} {v:V} :RV K A H x v->RR K A H a x v
 | obj {i j:Nat} {p:aa} :A[i]?=some a->j < i->A[j]?=some p->RR K A H a (.obj j) (.ref p)
abbrev pR (K:Frag)(A:List aa)(H:Hp)(a:aa):List (zK×PV)->List (zK×V)->Prop:=Paired λp q=>p.1=q.1/\RR K A H a p.2 q.2
theorem RR.grow (g:zZ A H A' H'){a:aa}{x:PV}{v:V} :RR K A H a x v->RR K A' H' a x v
 | .val r=> .val (r.grow g)
 | .obj e l e'=> .obj (g.sub e) l (g.sub e')
theorem pR.grow (g:zZ A H A' H'){a:aa}{xs:List (zK×PV)}{vs:List (zK×V)} :pR K A H a xs vs->pR K A' H' a xs vs
 | .nil=> .nil
 | .cons r t=> .cons ⟨r.1,r.2.grow g⟩ (pR.grow g t)
abbrev pQ (K:Frag)(A:List aa)(H:Hp)(a:aa):List PV->List V->Prop:=Paired (RR K A H a)
theorem pQ.grow (g:zZ A H A' H'){a:aa}{xs:List PV}{vs:List V} :pQ K A H a xs vs->pQ K A' H' a xs vs
 | .nil=> .nil
 | .cons r t=> .cons (r.grow g) (pQ.grow g t)
abbrev vZ (K:Frag)(A:List aa)(H:Hp):List (Str×PV)->List (Str×V)->Prop:=Paired λp q=>p.1=q.1/\RV K A H p.2 q.2
theorem vZ.grow (g:zZ A H A' H'){xs:List (Str×PV)}{vs:List (Str×V)} :vZ K A H xs vs->vZ K A' H' xs vs
 | .nil=> .nil
 | .cons r t=> .cons ⟨r.1,r.2.grow g⟩ (vZ.grow g t)
def OA (K:Frag)(A:List aa)(H:Hp)(a:aa):PO->Prop
 | .lst xs=> ∃vs,H a=some (.lst vs)/\RVs K A H xs vs/\vs.length<=am
 | .dct kvs=> ∃us,H a=some (.dK us)/\RKs K A H kvs us/\us.length<=am
 | .tbl T pos q=>a=T/\∃ps,H a=some (.tbl ps)/\(ps= #[]∨∃c',ps= #[rawInt pos.line,rawInt pos.col,.ref c']/\H c'=some (.ext (zhJ c' q))/\c'∉A)
 | .itb kvs=>H a=some (.dT (zh2 kvs))
 | .rcd kvs=> ∃us,H a=some (.dK us)/\pR K A H a kvs us/\us.length<=am
 | .fd ob kvs=> ∃us,H a=some (.frz ob (.dK us))/\RKs K A H kvs us/\us.length<=am
 | .ros xs=> ∃vs,H a=some (.lst vs)/\pQ K A H a xs vs/\vs.length<=am
 | .ins C dx fs=> ∃us,H a=some (.ins C dx us)/\vZ K A H fs us
structure RS (K:Frag)(A:List aa)(H:Hp)(st:z7):Prop where
 nd:A.Nodup
 len:A.length=st.length
 at_: ∀(i:Nat) (a:aa) (o:PO),A[i]?=some a->st[i]?=some o->OA K A H a o
structure wB (K:Frag)(A:List aa)(H:Hp)(σ:St)(env:zI)(st:z7):Prop where
 rs:RS K A H st
 len:env.length=σ.length
 at_: ∀(i:Nat) (x:PV),env[i]?=some (some x)->∃v,σ[i]?=some (some v)/\RE K A H x v
theorem wB.grow {σ:St}{env:zI}{st xp:z7}(r:wB K A H σ env st)(g:zZ A H A' H')(s:RS K A' H' xp):wB K A' H' σ env xp:=
 ⟨s,r.len,λi x e=>let⟨v,e1,r1⟩:=r.at_ i x e;⟨v,e1,r1.grow g⟩⟩
theorem OA.move {a:aa}{o:PO}(h:OA K A H a o)(g:zZ A H A' H')(e:H' a=H a):OA K A' H' a o:=by
 cases o with
 | lst xs=>obtain⟨vs,h,r,z⟩:=h;exact⟨vs,by rw[e];exact h,r.grow g,z⟩
 | dct xs=>obtain⟨vs,h,r,z⟩:=h;exact⟨vs,by rw[e];exact h,r.grow g,z⟩
 | tbl T pos q=>
  obtain⟨ea,ps,h,r⟩:=h;refine⟨ea,ps,by rw[e];exact h,r.imp id ?_⟩;rintro⟨c',e1,e2,e3⟩;exact⟨c',e1,g.keep _ _ e2 e3,g.out e2 e3⟩
 | itb kvs=>exact e.trans h
 | rcd xs=>obtain⟨vs,h,r,z⟩:=h;exact⟨vs,by rw[e];exact h,pR.grow g r,z⟩
 | fd ob xs=>obtain⟨vs,h,r,z⟩:=h;exact⟨vs,by rw[e];exact h,r.grow g,z⟩
 | ros xs=>obtain⟨vs,h,r,z⟩:=h;exact⟨vs,by rw[e];exact h,pQ.grow g r,z⟩
 | ins C dx fs=>obtain⟨vs,h,r⟩:=h;exact⟨vs,by rw[e];exact h,vZ.grow g r⟩
theorem OA.some {a:aa}{o:PO}(h:OA K A H a o):H a≠none:=by
 cases o with
 | lst xs=>obtain⟨vs,h,r⟩:=h;rw[h];exact cw _
 | dct xs=>obtain⟨vs,h,r⟩:=h;rw[h];exact cw _
 | tbl T pos q=>obtain⟨_,ps,h,r⟩:=h;rw[h];exact cw _
 | itb kvs=>rw[show H a=_ from h];exact cw _
 | rcd xs=>obtain⟨vs,h,r⟩:=h;rw[h];exact cw _
 | fd ob xs=>obtain⟨vs,h,r⟩:=h;rw[h];exact cw _
 | ros xs=>obtain⟨vs,h,r⟩:=h;rw[h];exact cw _
 | ins C dx fs=>obtain⟨vs,h,r⟩:=h;rw[h];exact cw _
theorem RS.has {st:z7}(r:RS K A H st){a:aa}(h:a∈A): ∃(i:Nat) (o:PO),A[i]?=some a/\st[i]?=some o/\OA K A H a o:=by
 obtain⟨i,hi,e⟩:=jl h;have hs:i < st.length:=by rw[<- r.len];exact hi
 have e1:A[i]?=some a:=by rw[bn hi,e]
 have e2:st[i]?=some st[i]:=bn hs;exact⟨i,st[i],e1,e2,r.at_ i a _ e1 e2⟩
theorem RS.live {st:z7}(r:RS K A H st){a:aa}(h:a∈A):H a≠none:=let⟨_,_,_,_,o⟩:=r.has h;o.some
theorem RS.move {st:z7}(r:RS K A H st)(g:zZ A H A H')(e: ∀a∈A,H' a=H a):RS K A H' st:=
 ⟨r.nd,r.len,λi a o h1 h2=>(r.at_ i a o h1 h2).move g (e a (bf h1))⟩
theorem RS.fresh {st:z7}(r:RS K A H st){p:aa}(h:H p=none):p∉A:=λm=>r.live m h
theorem RS.new {st:z7}(r:RS K A H st){p:aa}{o:HO}(h:H p=none):RS K A (zN H p o) st:=
 r.move (.new h) λa m=>yJ λz=>r.fresh h (z▸m)
theorem RS.newObj {st:z7}(r:RS K A H st){p:aa}{o:HO}{q:PO}(h:H p=none)(hq:OA K (A++ [p]) (zN H p o) p q):RS K (A++ [p]) (zN H p o) (st++ [q]):=by
 refine⟨?_,by rw[af,af,r.len];rfl,λi a u h1 h2=> ?_⟩
 ·refine mq.mpr ⟨r.nd,3#0,λa ha b hb=> ?_⟩
  rw[au.mp hb];exact λz=>r.fresh h (z▸ha)
 ·by_cases hi:i < A.length
  ·rw[cn hi]at h1
   rw[cn (by rw[<- r.len];exact hi)]at h2;exact(r.at_ i a u h1 h2).move (.newObj h) (yJ λz=>r.fresh h (z▸bf h1))
  ·have hi':i=A.length:=by
    have:=(ba.mp h1).1;rw[af,gf]at this;grobner
   subst hi';rw[dg (aq _),jc]at h1;rw[r.len,dg (aq _),jc]at h2;cases h1;cases h2;exact hq
theorem RS.put {st:z7}(r:RS K A H st){i:Nat}{p:aa}{o:HO}{q:PO}(h:A[i]?=some p)(hq:OA K A (zN H p o) p q):RS K A (zN H p o) (st.set i q):=by
 have hp:=bf h;refine⟨r.nd,by rw[fq];exact r.len,λj a u h1 h2=> ?_⟩;by_cases yu:i=j
 ·subst yu
  rw[h]at h1;cases h1;rw[df (by rw[<- r.len];exact(ba.mp h).1)]at h2;cases h2;exact hq
 ·rw[ge yu]at h2
  refine(r.at_ j a u h1 h2).move (.put hp) (yJ λz=>yu ?_);subst z;exact(qz (ba.mp h).1 r.nd).mp (h.trans h1.symm)
end
abbrev zE:=zI->z7->K3->Prop
abbrev xL:=zI->z7->(Bool->z7->Prop)->Prop
abbrev yC:=zI->z7->(List PV->z7->Prop)->Prop
structure w5 where
 nx:zI->z7->Prop
 rt:K3
 bk:zI->z7->Prop:=λ_ _=>False
 ct:zI->z7->Prop:=λ_ _=>False
abbrev xD:=w5->zI->z7->Prop
abbrev wP:=PV->zI->z7->(zI->z7->Prop)->Prop
abbrev pS:=List PV->zI->z7->(zI->z7->Prop)->Prop
abbrev wS:=Option (Nat×PO)
abbrev uN:=zI->z7->(wS->List PV->z7->Prop)->Prop
abbrev R3:=PV->PV->z7->K3->Prop
abbrev zT:=List PV->z7->K3->Prop
def vQ (K:Frag)(A:List aa)(H:Hp)(Q3:K3)(Q:VK):Prop:= ∀A' H' xp r v,zZ A H A' H'->RS K A' H' xp->RE K A' H' r v->Q3 r xp->Q v H'
def cH (K:Frag)(A:List aa)(H:Hp)(Q3:Bool->z7->Prop)(Q:Bool->Hp->Prop):Prop:= ∀A' H' xp b,zZ A H A' H'->RS K A' H' xp->Q3 b xp->Q b H'
def zpV (K:Frag)(A:List aa)(H:Hp)(Q3:List PV->z7->Prop)(Q:List V->Hp->Prop):Prop:= ∀A' H' xp rs vs,zZ A H A' H'->RS K A' H' xp->xC K A' H' rs vs->Q3 rs xp->Q vs H'
def lA (K:Frag)(A:List aa)(H:Hp)(P3:zI->z7->Prop)(P:St->Hp->Prop):Prop:= ∀A' H' σ' xt xp,zZ A H A' H'->wB K A' H' σ' xt xp->P3 xt xp->P σ' H'
structure cG (K:Frag)(A:List aa)(H:Hp)(D3:w5)(D:sG):Prop where
 nx:lA K A H D3.nx D.nx
 rt:vQ K A H D3.rt D.rt
 bk:lA K A H D3.bk D.bk
 ct:lA K A H D3.ct D.ct
section
variable {K:Frag} {A A1:List aa} {H H1:Hp}
theorem vQ.after {Q3:K3}{Q:VK}(f:vQ K A H Q3 Q)(g:zZ A H A1 H1):vQ K A1 H1 Q3 Q:=λA' H' xp r v g'=>f A' H' xp r v (g.trans g')
theorem cH.after {Q3:Bool->z7->Prop}{Q:Bool->Hp->Prop}(f:cH K A H Q3 Q)(g:zZ A H A1 H1):cH K A1 H1 Q3 Q:=λA' H' xp r g'=>f A' H' xp r (g.trans g')
theorem lA.after {Q3:zI->z7->Prop}{Q:St->Hp->Prop}(f:lA K A H Q3 Q)(g:zZ A H A1 H1):lA K A1 H1 Q3 Q:=λA' H' σ' e' xp g'=>f A' H' σ' e' xp (g.trans g')
theorem cG.after {D3:w5}{D:sG}(f:cG K A H D3 D)(g:zZ A H A1 H1):cG K A1 H1 D3 D:=⟨f.nx.after g,f.rt.after g,f.bk.after g,f.ct.after g⟩
theorem vQ.now {Q3:K3}{Q:VK}(f:vQ K A H Q3 Q){st:z7}{r:PV}{v:V}(s:RS K A H st)(e:RE K A H r v)(q:Q3 r st):Q v H:=f A H st r v (.refl _ _) s e q
end
def zV (K:Frag)(T:zE):TE:=λσ H Q=> ∃A env st Q3,wB K A H σ env st/\T env st Q3/\vQ K A H Q3 Q
def yY (K:Frag)(T:xL):TT:=λσ H Q=> ∃A env st Q3,wB K A H σ env st/\T env st Q3/\cH K A H Q3 Q
def wU (K:Frag)(T:yC):TA:=λσ H Q=> ∃A env st Q3,wB K A H σ env st/\T env st Q3/\zpV K A H Q3 Q
def xH (K:Frag)(T:xD):TS:=λD σ H=> ∃A env st D3,wB K A H σ env st/\T D3 env st/\cG K A H D3 D
def sD (K:Frag)(G:wP):TG:=λv σ H Q=> ∃A env st x Q3,wB K A H σ env st/\RE K A H x v/\G x env st Q3/\lA K A H Q3 Q
def bU (K:Frag)(G:pS):qL:=λvs σ H Q=> ∃A env st xs Q3,wB K A H σ env st/\xC K A H xs vs/\G xs env st Q3/\lA K A H Q3 Q
def vU (K:Frag)(R:R3):R2:=λv w H Q=> ∃A st x y Q3,RS K A H st/\RE K A H x v/\RE K A H y w/\R x y st Q3/\vQ K A H Q3 Q
def zbT (K:Frag)(R:PV->z7->K3->Prop):V->Hp->VK->Prop:=λv H Q=> ∃A st x Q3,RS K A H st/\RE K A H x v/\R x st Q3/\vQ K A H Q3 Q
def sE (K:Frag)(R:zT):List V->Hp->VK->Prop:=λvs H Q=> ∃A st xs Q3,RS K A H st/\xC K A H xs vs/\R xs st Q3/\vQ K A H Q3 Q
def yF (K:Frag)(S:zT):Sp:=λvs H Q _=>sE K S vs H Q
section
variable {X:Cx} {a b c e:Expr} {es:List Expr} {pos p p2:di} {Ta Tb Tc:zE} {TA:yC} {tc td:xL}
theorem vI {t t':TE}(h:PE X e t)(w: ∀σ H Q,t' σ H Q->t σ H Q):PE X e t':=⟨λmt s σ H Q I q=>h mt s σ H Q I (w σ H Q q)⟩
theorem zgz {t t':TT}(h:PT X e t)(w: ∀σ H Q,t' σ H Q->t σ H Q):PT X e t':=⟨λmt s σ H Q I q=>h mt s σ H Q I (w σ H Q q)⟩
theorem znX {t t':TT}(h:PW X e t)(w: ∀σ H Q,t' σ H Q->t σ H Q):PW X e t':=⟨λwh mt s σ H Q I q=>h wh mt s σ H Q I (w σ H Q q)⟩
theorem znz {t t':L2.TA}(h:PA X es t)(w: ∀σ H Q,t' σ H Q->t σ H Q):PA X es t':=⟨λpos mt s σ H Q I q=>h pos mt s σ H Q I (w σ H Q q)⟩
theorem zw5 {t t':TT}(h:PF X es t)(w: ∀σ H Q,t' σ H Q->t σ H Q):PF X es t':=⟨λmt s σ H Q I q=>h mt s σ H Q I (w σ H Q q)⟩
theorem o6 {st:bw}{t t':TS}(h:PS X st t)(w: ∀D σ H,t' D σ H->t D σ H):PS X st t':=⟨λmt s σ H D I q=>h mt s σ H D I (w D σ H q)⟩
theorem zgx {st:List bw}{t t':TS}(h:xI X st t)(w: ∀D σ H,t' D σ H->t D σ H):xI X st t':=⟨λmt s σ H D I q=>h mt s σ H D I (w D σ H q)⟩
theorem znC {tg:Expr}{t t':TG}(h:PG X tg t)(w: ∀v σ H Q,t' v σ H Q->t v σ H Q):PG X tg t':=⟨λmt s σ H v u Q I r q=>h mt s σ H v u Q I r (w v σ H Q q)⟩
theorem znE {tg:List Expr}{t t':qL}(h:rQ X tg t)(w: ∀v σ H Q,t' v σ H Q->t v σ H Q):rQ X tg t':=⟨λmt s σ H v u Q I r q=>h mt s σ H v u Q I r (w v σ H Q q)⟩
def tP (i:Nat):zE:=λenv st Q=>match env[i]? with | some (some x)=>Q x st | _=>False
theorem zrT {K:Frag}{i:Nat}{σ:St}{H:Hp}{Q:VK} :zV K (tP i) σ H Q->zpg i σ H Q:=by
 rintro⟨A,env,st,Q3,xo,h,k⟩;unfold tP at h
 split at h
 ·rename_i x e
  obtain⟨v,e1,r⟩:=xo.at_ i x e;exact⟨v,e1,k.now xo.rs r h⟩
 ·exact h.elim
theorem qv (i:Nat){x:Str}{pos:di}(hN:X.N[i]?=some x:=by rfl)(hv:Vis X.env.scope x:=by first | exact Or.inl rfl | exact Or.inr 0#2 | exact Or.inr (Or.inr rfl))(hd:4#4=false:=by decide)
  (hcd:(x==("__classdict__" :Str))=false:=by decide):PE X (.Name x pos) (zV X.K (tP i)):=vI (mY hN hv hd hcd) λ_ _ _=>zrT
def vC (x:PV):zE:=λ_ st Q=>Q x st
theorem iR {K:Frag}{x:PV}{v:V}(hr: ∀A H,RE K A H x v){σ:St}{H:Hp}{Q:VK} :zV K (vC x) σ H Q->tC v σ H Q:=by
 rintro⟨A,env,st,Q3,xo,h,k⟩;exact k.now xo.rs (hr A H) h
theorem zB {i j pos} :PE X (.Constant 1#5 j pos) (zV X.K (vC 1#5)):=vI zn9 λ_ _ _=>iR λ_ _=> .val 1#5
theorem zD {x j pos} :PE X (.Constant (.str x) j pos) (zV X.K (vC (.str x))):=vI zwy λ_ _ _=>iR λ_ _=> .val (.str x)
theorem t8 {b j pos} :PE X (.Constant (.bool b) j pos) (zV X.K (vC (.bl b))):=vI zwi λ_ _ _=>iR λ_ _=> .val (.bl b)
theorem o8 {x:Str}{v:V}{y:PV}{u:ad}{pos:di}(hg:Gl X x)(hm:X.mg x=some u)(r:y4 v u)(hr: ∀A H,RE X.K A H y v)(hd:4#4=false:=by decide):PE X (.Name x pos) (zV X.K (vC y)):=vI (zwq hg hm r hd) λ_ _ _=>iR hr
theorem kB {x:Str}{n:String}{pos:di}(hg:Gl X x)(hm:X.mg x=none)(hv:bootBuiltins x=some (.type n))(hn:x≠ "__name__" :=by decide)(hd:4#4=false:=by decide):PE X (.Name x pos) (zV X.K (vC (.ty n))):=
 vI (zwj (v:= .ty n) hg hm hv rfl hn hd) λ_ _ _=>iR λ_ _=> .val (.ty n)
def jZ (R:R3)(Ta Tb:zE):zE:=λenv st Q=>Ta env st λx xm=>Tb env xm λy xr=>R x y xr Q
theorem bY {K:Frag}{R:R3}{σ:St}{H:Hp}{Q:VK} :zV K (jZ R Ta Tb) σ H Q->c6 (vU K R) (zV K Ta) (zV K Tb) σ H Q:=by
 rintro⟨A,env,st,Q3,xo,h,k⟩;exact⟨A,env,st,_,xo,h,λA1 H1 xm x v g1 s1 e1 h1=>⟨A1,env,xm,_,xo.grow g1 s1,h1,λA2 H2 xr y w g2 s2 e2 h2=>⟨A2,xr,x,y,Q3,s2,e1.grow g2,e2,h2,k.after (g1.trans g2)⟩⟩⟩
theorem y6 {op:Operator}{R:R3}(ho:yW X (binaryOp op) (vU X.K R))(ha:PE X a 6#6)(hb:PE X b (zV X.K Tb)):PE X (.BinOp a op b pos) (zV X.K (jZ R Ta Tb)):=vI (zww ho ha hb) λ_ _ _=>bY
theorem zap {op:CmpOp}{R:R3}(ho:yW X (compareOp op) (vU X.K R))(ha:PE X a 6#6)(hb:PE X b (zV X.K Tb))(hm:behindInMarks op b=false):PE X (.Compare a [op] [b] pos) (zV X.K (jZ R Ta Tb)):=vI (zwm ho ha hb hm) λ_ _ _=>bY
theorem yE {R:R3}(hr:qG X (vU X.K R))(ha:PE X a 6#6)(hb:PE X b (zV X.K Tb))(hs:ziD b):PE X (.Subscript a b pos) (zV X.K (jZ R Ta Tb)):=vI (zgs hr ha hb hs) λ_ _ _=>bY
def vUn (R:PV->z7->K3->Prop)(Ta:zE):zE:=λenv st Q=>Ta env st λx xm=>R x xm Q
theorem zrS {K:Frag}{R:PV->z7->K3->Prop}{σ:St}{H:Hp}{Q:VK} :zV K (vUn R Ta) σ H Q->tUn (zbT K R) (zV K Ta) σ H Q:=by
 rintro⟨A,env,st,Q3,xo,h,k⟩;exact⟨A,env,st,_,xo,h,λA1 H1 xm x v g1 s1 e1 h1=>⟨A1,xm,x,Q3,s1,e1,h1,k.after g1⟩⟩
theorem zg3 {op:UnaryOp}{R:PV->z7->K3->Prop}(ho:fG X (unaryOp op) (zbT X.K R))(ha:PE X a 6#6):PE X (.UnaryOp op a pos) (zV X.K (vUn R Ta)):=vI (zwz ho ha) λ_ _ _=>zrS
def zhF (T:zE):xL:=λenv st Q=>T env st λx xm=>match x with | .bl k=>Q k xm | _=>False
theorem zrR {K:Frag}{T:zE}{σ:St}{H:Hp}{Q:Bool->Hp->Prop} :yY K (zhF T) σ H Q->zpe (zV K T) σ H Q:=by
 rintro⟨A,env,st,Q3,xo,h,k⟩;refine⟨A,env,st,_,xo,h,λA1 H1 xm x v g1 s1 e1 h1=> ?_⟩;cases x with
 | bl b=>
  cases e1 with
  | val e1=>cases e1;exact⟨b,rfl,k A1 H1 xm b g1 s1 h1⟩
 | _=>exact False.elim h1
theorem y0 {op:CmpOp}{R:R3}(ho:yW X (compareOp op) (vU X.K R))(ha:PE X a 6#6)(hb:PE X b (zV X.K Tb))(hm:behindInMarks op b=false):PT X (.Compare a [op] [b] pos) (yY X.K (zhF (jZ R Ta Tb))):=by
 refine zgz (zwZ ho ha hb hm) λσ H Q h=> ?_;have:=zrR h;exact bY this
def pA:PV->z7->(Bool->Prop)->Prop
 | .non,_,k=>k false
 | .bl b,_,k=>k b
 | .int i,_,k=>k (i !=0)
 | .str x,_,k=>x.length<=am/\k ((x.length:Int) !=0)
 | .tup xs,_,k=>k (!xs.isEmpty)
 | .lst xs,_,k=>k (!xs.isEmpty)
 | .dct xs,_,k=>k (!xs.isEmpty)
 | .obj i,st,k=>match st[i]? with | some 2#4=>k (!xs.isEmpty) | some (.dct xs)=>k (!xs.isEmpty) | _=>False
 | _,_,_=>False
def c8 (T:zE):xL:=λenv st Q=>T env st λx xm=>pA x xm λk=>Q k xm
theorem RVs.empty {K:Frag}{A:List aa}{H:Hp}{xs:List PV}{vs:List V}(h:RVs K A H xs vs):vs.isEmpty=xs.isEmpty:=by
 cases h <;> rfl
theorem RKs.empty {K:Frag}{A:List aa}{H:Hp}{xs:List (zK×PV)}{vs:List (zK×V)}(h:RKs K A H xs vs):vs.isEmpty=xs.isEmpty:=by
 cases h <;> rfl
theorem zpt {K:Frag}{A:List aa}{H:Hp}{st:z7}{x:PV}{v:V}{P:Bool->Prop}(s:RS K A H st)(e:RE K A H x v)(h:pA x st P): ∃k,bD K v H k/\P k:=by
 cases e with
 | obj e=>
  dsimp only[pA]at h
  split at h
  ·rename_i xs q
   obtain⟨vs,h1,h2,_⟩:=s.at_ _ _ _ e q;exact⟨_,.inl ⟨vs,.of h1,by rw[h2.empty]⟩,h⟩
  ·rename_i xs q
   obtain⟨vs,h1,h2,_⟩:=s.at_ _ _ _ e q;exact⟨_,.inr (.inr ⟨vs,h1,by rw[h2.empty]⟩),h⟩
  ·exact h.elim
 | val e=>
  cases e with
  | non=>exact⟨_,rfl,h⟩
  | bl b=>exact⟨_,rfl,h⟩
  | int i=>exact⟨_,rfl,h⟩
  | str y=>exact⟨_,⟨h.1,rfl⟩,h.2⟩
  | ty n=>exact False.elim h
  | tup t z r=>exact⟨_,.inr (.inl ⟨_,t.sq,by rw[r.empty]⟩),h⟩
  | lst t z r=>exact⟨_,.inl ⟨_,t.sq,by rw[r.empty]⟩,h⟩
  | dct t z r=>exact⟨_,.inr (.inr ⟨_,t.1,by rw[r.empty]⟩),h⟩
  | itb e n=>exact False.elim h
  | clo e=>exact False.elim h
theorem uS (ha:PE X a 6#6)(he: ∀whole,isTrue a X.env whole=(do let v <- whole;standAt a.pos;holding [v] (truthy v)):=by intro _;rfl):PT X a (yY X.K (c8 Ta)):=by
 refine zgz (zgy ha he) λσ H Q ⟨A,env,st,Q3,xo,h,k⟩=> ?_;refine⟨A,env,st,_,xo,h,λA1 H1 xm x v g1 s1 e1 h1=> ?_⟩;obtain⟨b,hb,q⟩:=zpt s1 e1 h1;exact⟨b,hb,k A1 H1 xm b g1 s1 q⟩
def zaV (t u:xL):xL:=λenv st Q=>t env st λc xm=>if c=true then u env xm Q else Q false xm
def vOr (t u:xL):xL:=λenv st Q=>t env st λc xm=>if c=true then Q true xm else u env xm Q
def zhE (t:xL):xL:=λenv st Q=>t env st λc xm=>Q (!c) xm
theorem zje {K:Frag}{t u:xL}{σ:St}{H:Hp}{Q:Bool->Hp->Prop} :yY K (zaV t u) σ H Q->zhx (yY K t) (yY K u) σ H Q:=by
 rintro⟨A,env,st,Q3,xo,h,k⟩;refine⟨A,env,st,_,xo,h,λA1 H1 xm c g1 s1 h1=> ?_⟩;cases c with
 | true=>exact⟨A1,env,xm,Q3,xo.grow g1 s1,h1,k.after g1⟩
 | false=>exact k A1 H1 xm false g1 s1 h1
theorem zjf {K:Frag}{t u:xL}{σ:St}{H:Hp}{Q:Bool->Hp->Prop} :yY K (vOr t u) σ H Q->tOr (yY K t) (yY K u) σ H Q:=by
 rintro⟨A,env,st,Q3,xo,h,k⟩;refine⟨A,env,st,_,xo,h,λA1 H1 xm c g1 s1 h1=> ?_⟩;cases c with
 | false=>exact⟨A1,env,xm,Q3,xo.grow g1 s1,h1,k.after g1⟩
 | true=>exact k A1 H1 xm true g1 s1 h1
variable {vP:List Expr}
theorem kF (ha:PT X a (yY X.K tc)):PW X (.BoolOp .And [a] pos) (yY X.K tc):=zxl ha
theorem kG (ha:PT X a (yY X.K tc)):PW X (.BoolOp .Or [a] pos) (yY X.K tc):=zxn ha
theorem kD (ha:PT X a (yY X.K tc))(hb:PW X (.BoolOp .And (b::vP) pos) (yY X.K td)):PW X (.BoolOp .And (a::b::vP) pos) (yY X.K (zaV tc td)):=znX (zxk ha hb) λ_ _ _=>zje
theorem nU (ha:PT X a (yY X.K tc))(hb:PW X (.BoolOp .Or (b::vP) pos) (yY X.K td)):PW X (.BoolOp .Or (a::b::vP) pos) (yY X.K (vOr tc td)):=znX (zxm ha hb) λ_ _ _=>zjf
theorem oB (ha:PT X a (yY X.K tc)):PT X (.UnaryOp .Not a pos) (yY X.K (zhE tc)):=zgz (znQ ha) λσ H Q ⟨A,env,st,Q3,xo,h,k⟩=>⟨A,env,st,_,xo,h,λA1 H1 xm c g1 s1 h1=>k A1 H1 xm (!c) g1 s1 h1⟩
def zzF (Ta Tb:zE):zE:=λenv st Q=>Ta env st λx xm=>match x with | .bl c=>if c=true then Tb env xm Q else Q (.bl false) xm | _=>False
def zzW (Ta Tb:zE):zE:=λenv st Q=>Ta env st λx xm=>match x with | .bl c=>if c=true then Q (.bl true) xm else Tb env xm Q | _=>False
def zzV (Ta:zE):zE:=λenv st Q=>Ta env st λx xm=>match x with | .bl c=>Q (.bl (!c)) xm | _=>False
def vIf (t:xL)(Ta Tb:zE):zE:=λenv st Q=>t env st λc xm=>if c=true then Ta env xm Q else Tb env xm Q
theorem zoc (hc:PT X c (yY X.K tc))(ha:PE X a 6#6)(hb:PE X b (zV X.K Tb)):PE X (.IfExp c a b pos) (zV X.K (vIf tc Ta Tb)):=by
 refine vI (zwr hc ha hb) λσ H Q ⟨A,env,st,Q3,xo,h,k⟩=>⟨A,env,st,_,xo,h,λA1 H1 xm c g1 s1 h1=> ?_⟩;cases c with
 | true=>exact⟨A1,env,xm,Q3,xo.grow g1 s1,h1,k.after g1⟩
 | false=>exact⟨A1,env,xm,Q3,xo.grow g1 s1,h1,k.after g1⟩
def oH:yC:=λ_ st Q=>Q [] st
def tO (Ta:zE)(Tr:yC):yC:=λenv st Q=>Ta env st λx xm=>Tr env xm λxs xr=>Q (x::xs) xr
theorem z8:PA X [] (wU X.K oH):=znz qX λσ H Q ⟨A,env,st,Q3,xo,h,k⟩=>k A H st [] [] (.refl _ _) xo.rs .nil h
theorem z6 (ha:PE X e 6#6)(hr:PA X es (wU X.K TA))(hs:starEach (e::es) X.env=8#2::starEach es X.env:=by rfl):PA X (e::es) (wU X.K (tO Ta TA)):=
 znz (qW ha hr hs) λσ H Q ⟨A,env,st,Q3,xo,h,k⟩=>⟨A,env,st,_,xo,h,λA1 H1 xm x v g1 s1 e1 h1=>⟨A1,env,xm,_,xo.grow g1 s1,h1,λA2 H2 xr xs vs g2 s2 e2 h2=>k A2 H2 xr _ _ (g1.trans g2) s2 (.cons (e1.grow g2) e2) h2⟩⟩
def xJ:PV->Bool
 | .obj _=>false
 | _=>true
def rF (xs:List PV):Bool:=xs.all xJ&&Nat.ble xs.length 1000
theorem RE.rv {K:Frag}{A:List aa}{H:Hp}{x:PV}{v:V}(e:RE K A H x v)(h:xJ x=true):RV K A H x v:=by
 cases e with
 | val e=>exact e
 | obj e=>cases h
theorem xC.rvs {K:Frag}{A:List aa}{H:Hp} : ∀{xs:List PV} {vs:List V},xC K A H xs vs->xs.all xJ=true->RVs K A H xs vs
 | _,_,.nil,_=> .nil
 | _,_,.cons r t,h=>by
  rw[jg,bv]at h;exact .cons (r.rv h.1) (xC.rvs t h.2)
theorem rF.both {xs:List PV}(h:rF xs=true):xs.all xJ=true/\xs.length<=am:=by
 unfold rF at h;rw[bv]at h;exact⟨h.1,cb (Nat.le_of_ble_eq_true h.2) 2#0⟩
def zhG (T:yC):zE:=λenv st Q=>T env st λxs xm=>rF xs=true/\Q 2#6 xm
def zp5 (T:yC):zE:=λenv st Q=>T env st λxs xm=>rF xs=true/\Q 2#4 xm
def zp6 (T:yC):zE:=λenv st Q=>T env st λxs xm=>rF xs=true/\Q (.obj xm.length) (xm++ [.lst xs])
theorem yM {x1}(h:PA X es (wU X.K TA)):PE X (.Tuple es x1 pos) (zV X.K (zhG TA)):=by
 refine vI (znA h) λσ H Q ⟨A,env,st,Q3,xo,h,k⟩=>⟨A,env,st,_,xo,h,λA1 H1 xm xs vs g1 s1 e1 h1=> ?_⟩;obtain⟨o1,o2⟩:=rF.both h1.1;have hr:=e1.rvs o1;have hl:=hr.len;refine⟨by rw[<- hl];exact o2,λp hp=>k A1 _ xm _ _ (g1.trans (.new hp)) (s1.new hp) (.val (.tup (.inl ⟨.inl xR,s1.fresh hp⟩) (by rw[<- hl];exact o2) (hr.grow (.new hp)))) h1.2⟩
theorem vW (h:PA X es (wU X.K TA)):PE X (.List es pos) (zV X.K (zp5 TA)):=by
 refine vI (eO h) λσ H Q ⟨A,env,st,Q3,xo,h,k⟩=>⟨A,env,st,_,xo,h,λA1 H1 xm xs vs g1 s1 e1 h1=> ?_⟩;obtain⟨o1,o2⟩:=rF.both h1.1;have hr:=e1.rvs o1;have hl:=hr.len;refine⟨by rw[<- hl];exact o2,λp hp=>k A1 _ xm _ _ (g1.trans (.new hp)) (s1.new hp) (.val (.lst (.inl ⟨.inl xR,s1.fresh hp⟩) (by rw[<- hl];exact o2) (hr.grow (.new hp)))) h1.2⟩
theorem eL {A:List aa}{n:Nat}{p:aa}(h:A.length=n):(A++ [p])[n]?=some p:=by
 subst h;rw[dg (aq _),jc];rfl
theorem k8 (h:PA X es (wU X.K TA)):PE X (.List es pos) (zV X.K (zp6 TA)):=by
 refine vI (eO h) λσ H Q ⟨A,env,st,Q3,xo,h,k⟩=>⟨A,env,st,_,xo,h,λA1 H1 xm xs vs g1 s1 e1 h1=> ?_⟩;obtain⟨o1,o2⟩:=rF.both h1.1;have hr:=e1.rvs o1;have hl:=hr.len;refine⟨by rw[<- hl];exact o2,λp hp=>k (A1++ [p]) _ _ _ _ (g1.trans (.newObj hp)) (s1.newObj (q:= .lst xs) hp ⟨vs,xR,hr.grow (.newObj hp),by rw[<- hl];exact o2⟩) (.obj (eL s1.len)) h1.2⟩
def tX (R:zT)(T:yC):zE:=λenv st Q=>T env st λxs xm=>R xs xm Q
theorem fS {K:Frag}{R:zT}{σ:St}{H:Hp}{Q:VK} :zV K (tX R TA) σ H Q->tCB (sE K R) (wU K TA) σ H Q:=by
 rintro⟨A,env,st,Q3,xo,h,k⟩;exact⟨A,env,st,_,xo,h,λA1 H1 xm xs vs g1 s1 e1 h1=>⟨A1,xm,xs,Q3,s1,e1,h1,k.after g1⟩⟩
theorem vJ {x:Str}{id:String}{R:zT}(hc:vF X (.builtin id) (sE X.K R))(hg:Gl X x)(hm:X.mg x=none)(hv:bootBuiltins x=some (.builtin id))(ha:PA X (e::es) (wU X.K TA))(hn:x≠ "__name__" :=by decide)(hdb:4#4=false:=by decide)
  (he:starEach (e::es) X.env=8#2::starEach es X.env:=by rfl) (yi:(backTo pos 3#3).any (·.1)=false:=by rfl):PE X 4#3 (zV X.K (tX R TA)):=
 vI (zn7 hc hg hm hv ha hn hdb he yi) λ_ _ _=>fS
theorem u3 {x:Str}{T:String}{R:zT}(hc:vF X (.type T) (sE X.K R))(hg:Gl X x)(hm:X.mg x=none)(hv:bootBuiltins x=some (.type T))(ha:PA X (e::es) (wU X.K TA))(hn:x≠ "__name__" :=by decide)(hdb:4#4=false:=by decide)
  (he:starEach (e::es) X.env=8#2::starEach es X.env:=by rfl) (yi:(backTo pos 3#3).any (·.1)=false:=by rfl):PE X 4#3 (zV X.K (tX R TA)):=
 vI (zn8 hc hg hm hv ha hn hdb he yi) λ_ _ _=>fS
theorem zM {x:Str}{S:zT}{k:Nat}{f:aa}{fd:bh}{ps:List Str}(F:yK X.prog X.w X.K X.mg X.base yG k f fd ps (yF X.K S))(hr:zH k X.A)(hg:Gl X x)(hm:X.mg x=some 8#3)(hk:keepIn X.K 8#3=true)(hb:y2 X.K fd ps [])
  (ha:PA X (e::es) (wU X.K TA)) (hdb:4#4=false:=by decide) (he:starEach (e::es) X.env=8#2::starEach es X.env:=by rfl) (yi:(backTo pos 3#3).any (·.1)=false:=by rfl):
  PE X 4#3 (zV X.K (tX S TA)):=by
 refine vI (zwl F hr hg hm hk hb .nil lZ ha hdb he yi) λσ H Q h=> ?_;obtain⟨A,env,st,Q3,xo,h,k⟩:=fS h;refine⟨A,env,st,Q3,xo,h,λA1 H1 xm rs vs g1 s1 e1 h1=> ?_⟩;show yF X.K S (vs++ []) H1 Q E0;rw[cg];exact k A1 H1 xm rs vs g1 s1 e1 h1
variable {sts rst:List bw} {stm:bw} {Ts Tu:xD}
def zpA:xD:=λD env st=>D.nx env st
def rG (t u:xD):xD:=λD env st=>t {D with nx:=u D} env st
theorem yI:xI X [] (xH X.K zpA):=zgx zgw λD σ H ⟨A,env,st,D3,xo,h,k⟩=>k.nx A H σ env st (.refl _ _) xo h
theorem zG (h:PS X stm (xH X.K Ts)):xI X [stm] (xH X.K Ts):=jP h
theorem zF (h1:PS X stm (xH X.K Ts))(h2:xI X rst (xH X.K Tu)):xI X (stm::rst) (xH X.K (rG Ts Tu)):=
 zgx (eS h1 h2) λD σ H ⟨A,env,st,D3,xo,h,k⟩=>⟨A,env,st,_,xo,h,λA1 H1 σ1 env1 xm g1 r1 h1=>⟨A1,env1,xm,D3,r1,h1,k.after g1⟩,k.rt,k.bk,k.ct⟩
def zzH:xD:=λD env st=>D.bk env st
def zzM:xD:=λD env st=>D.ct env st
def zp1 (T:zE):xD:=λD env st=>T env st λ_ xm=>D.nx env xm
theorem sF (he:PE X e 6#6)(hs:swapsWith e none pos.line X.env=pure false:=by rfl):PS X (.Expr e pos) (xH X.K (zp1 Ta)):=
 o6 (eP he hs) λD σ H ⟨A,env,st,D3,xo,h,k⟩=>⟨A,env,st,_,xo,h,λA1 H1 xm x v g1 s1 e1 h1=>k.nx A1 H1 σ env xm g1 (xo.grow g1 s1) h1⟩
def zpC (T:zE):xD:=λD env st=>T env st D.rt
theorem zW (he:PE X e 6#6):PS X (.Return (some e) pos) (xH X.K (zpC Ta)):=o6 (zwR he) λD σ H ⟨A,env,st,D3,xo,h,k⟩=>⟨A,env,st,_,xo,h,k.rt⟩
def z0c:xD:=λD _ st=>D.rt .non st
def c7 (c:xL)(t u:xD):xD:=λD env st=>c env st λb xm=>if b=true then t D env xm else u D env xm
theorem yB (hc:PT X c (yY X.K tc))(ha:xI X sts (xH X.K Ts))(hb:xI X rst (xH X.K Tu)):PS X (.If c sts rst pos) (xH X.K (c7 tc Ts Tu)):=by
 refine o6 (eQ hc ha hb) λD σ H ⟨A,env,st,D3,xo,h,k⟩=>⟨A,env,st,_,xo,h,λA1 H1 xm b g1 s1 h1=> ?_⟩;cases b with
 | true=>exact⟨A1,env,xm,D3,xo.grow g1 s1,h1,k.after g1⟩
 | false=>exact⟨A1,env,xm,D3,xo.grow g1 s1,h1,k.after g1⟩
variable {Tg:wP} {Tgs:pS}
def gN (i:Nat):wP:=λx env st Q=>Q (env.set i (some x)) st
theorem wB.set {K:Frag}{A:List aa}{H:Hp}{σ:St}{env:zI}{st:z7}(r:wB K A H σ env st)(i:Nat){x:PV}{v:V}(e:RE K A H x v):wB K A H (σ.set i (some v)) (env.set i (some x)) st:=by
 refine⟨r.rs,by rw[fq,fq];exact r.len,λj y h=> ?_⟩;by_cases yu:i=j
 ·subst yu
  have hl:i < env.length:=by have:=(ba.mp h).1;simpa using this
  rw[df hl]at h;cases h;exact⟨v,df (by rw[<- r.len];exact hl),e⟩
 ·rw[ge yu]at h
  rw[ge yu];exact r.at_ j y h
theorem iS {K:Frag}{i:Nat}{v:V}{σ:St}{H:Hp}{Q:St->Hp->Prop} :sD K (gN i) v σ H Q->iX i v σ H Q:=by
 rintro⟨A,env,st,x,Q3,xo,e,h,k⟩;exact k A H _ _ st (.refl _ _) (xo.set i e) h
theorem yX {i:Nat}{x:Str}(hN:X.N.Nodup)(hi:X.N[i]?=some x)(hx:rP X.env.scope x)(hf:X.fn x=true∨X.env.scope.names.lookup x=some .local:=by first | exact .inl rfl | exact .inr rfl | assumption):PG X (.Name x pos) (sD X.K (gN i)):=
 znC (zgt hN hi hx hf) λ_ _ _ _=>iS
def gsN:pS:=λxs env st Q=>match xs with | []=>Q env st | _=>False
def gsC (g:wP)(gs:pS):pS:=λxs env st Q=>match xs with | x::r=>g x env st λenv1 xm=>gs r env1 xm Q | []=>False
theorem oA:rQ X [] (bU X.K gsN):=by
 refine znE znD λvs σ H Q ⟨A,env,st,xs,Q3,xo,e,h,k⟩=> ?_;cases e with
 | nil=>exact⟨rfl,k A H σ env st (.refl _ _) xo h⟩
 | cons r t=>exact False.elim h
theorem vX (h1:PG X e (sD X.K Tg))(h2:rQ X es (bU X.K Tgs))(hs:(assignEach (e::es) X.env).map (·.2)=assign e X.env::(assignEach es X.env).map (·.2):=by rfl):rQ X (e::es) (bU X.K (gsC Tg Tgs)):=by
 refine znE (zgu h1 h2 hs) λvs σ H Q ⟨A,env,st,xs,Q3,xo,e,h,k⟩=> ?_;cases e with
 | nil=>exact False.elim h
 | cons r t=>exact⟨_,_,rfl,A,env,st,_,_,xo,r,h,λA1 H1 σ1 env1 xm g1 r1 h1=>⟨A1,env1,xm,_,Q3,r1,xC.grow g1 t,h1,k.after g1⟩⟩
def gT (n:Nat)(gs:pS):wP:=λx env st Q=>match x with | .tup xs=>xs.length=n/\gs xs env st Q | .lst xs=>xs.length=n/\gs xs env st Q | _=>False
theorem RVs.res {K:Frag}{A:List aa}{H:Hp}{xs:List PV}{vs:List V} :RVs K A H xs vs->xC K A H xs vs
 | .nil=> .nil
 | .cons r t=> .cons (.val r) (RVs.res t)
theorem o9 {k:Nat}{n:Nat}(hc:X.calm=true)(h:rQ X es (bU X.K Tgs))(hn:(assignEach es X.env).length=n:=by rfl)(yx:(assignEach es X.env).findIdx? (·.1)=none:=by rfl)
  (hn2:(assignEach es X.env).length=n:=by rfl) (hst2:(assignEach es X.env).findIdx? (·.1)=none:=by rfl):PG X (.Tuple es k pos) (sD X.K (gT n Tgs)):=by
 refine⟨λmt s σ H v u Q I r ⟨A,env,st,x,Q3,xo,e,q,k⟩=> ?_⟩;cases e with
 | obj e=>exact False.elim q
 | val e=>
  cases e with
  | tup t z rs=>exact(znB hc h hn yx) mt s σ H _ u Q I r ⟨_,_,rfl,t.sq,by rw[<- rs.len];exact q.1,A,env,st,_,Q3,xo,rs.res,q.2,k⟩
  | lst t z rs=>exact(zw7 hc h hn yx) mt s σ H _ u Q I r ⟨_,_,rfl,t.sq,by rw[<- rs.len];exact q.1,A,env,st,_,Q3,xo,rs.res,q.2,k⟩
  | _=>exact False.elim q
def nV (T:zE)(g:wP):xD:=λD env st=>T env st λx xm=>g x env xm D.nx
theorem iQ {K:Frag}{D:sG}{σ:St}{H:Hp} :xH K (nV Ta Tg) D σ H->gQ (zV K Ta) (sD K Tg) D σ H:=by
 rintro⟨A,env,st,D3,xo,h,k⟩;exact⟨A,env,st,_,xo,h,λA1 H1 xm x v g1 s1 e1 h1=>⟨A1,env,xm,x,D3.nx,xo.grow g1 s1,e1,h1,k.nx.after g1⟩⟩
theorem zg4 {tg:Expr}(he:PE X e 6#6)(hg:PG X tg (sD X.K Tg))(hs:swapsWithSole [tg] e pos.line X.env=pure false:=by rfl)(hw:swappedStores [tg] e X.env=pure none:=by rfl)
  (h1:(assignEach [tg] X.env).map (·.2)= [assign tg X.env]:=by rfl):PS X (.Assign [tg] e pos) (xH X.K (nV Ta Tg)):=o6 (zwN he hg hs hw h1) λ_ _ _=>iQ
theorem y9 {i:Nat}{x:Str}{pos':di}(hN:X.N.Nodup)(hi:X.N[i]?=some x)(hx:rP X.env.scope x)(he:PE X e 6#6)(hs:swapsWith e (some (.Name x pos')) pos.line X.env=pure false:=by rfl)(hf:X.fn x=true∨X.env.scope.names.lookup x=some .local:=by first | exact .inl rfl | exact .inr rfl | assumption):
  PS X (.Assign [.Name x pos'] e pos) (xH X.K (nV Ta (gN i))):=by
 refine o6 (zao hN hi hx he hs hf) λD σ H h=> ?_;obtain⟨A,env,st,Q3,xo,h,k⟩:=iQ h;exact⟨A,env,st,Q3,xo,h,λA1 H1 xm r v g s e q=>iS (k A1 H1 xm r v g s e q)⟩
def zzX (i j:Nat)(T:yC):xD:=λD env st=>T env st λxs xm=>match xs with | [x,y]=>D.nx ((env.set i (some x)).set j (some y)) xm | _=>False
end
def sP:wS->z7->Prop->Prop
 | none,_,P=>P
 | some (i,o),st,P=>st[i]?=some o/\P
theorem sP.of {ya:wS}{st:z7}{P:Prop}(h:sP ya st P):P:=by
 cases ya with
 | none=>exact h
 | some q=>exact h.2
def eM:wS->z7->Prop
 | none,_=>True
 | some (i,o),st=>st[i]?=some o
theorem sP.ok {ya:wS}{st:z7}{P:Prop}(h:sP ya st P):eM ya st:=by
 cases ya with
 | none=>exact trivial
 | some q=>exact h.1
structure nZ (K:Frag)(A:List aa)(H:Hp)(ya:wS)(J:It)(xs:List PV):Prop where
 go: ∀(i:Nat) A' H' st,zZ A H A' H'->RS K A' H' st->eM ya st->i < xs.length->J.go i H'
 yld: ∀(i:Nat) (x:PV) A' H' st v H2,xs[i]?=some x->zZ A H A' H'->RS K A' H' st->eM ya st->J.yld i H' v H2->zZ A' H' A' H2/\RS K A' H2 st/\RE K A' H2 x v
 stop: ∀A' H' st,zZ A H A' H'->RS K A' H' st->eM ya st->J.stop xs.length H'
 small:xs.length<=am
def qO (K:Frag)(I:uN):TI:=λσ H R=> ∃A env st Q3,wB K A H σ env st/\I env st Q3/\∀A' H' xp ya xs J,zZ A H A' H'->RS K A' H' xp->nZ K A' H' ya J xs->Q3 ya xs xp->R J H'
def zbg (g:wP)(b:xD)(ya:wS)(xs:List PV)(D:w5)(env:zI)(st:z7):Prop:= ∃P:Nat->zI->z7->Prop,P 0 env st/\
 (∀i x env st,xs[i]?=some x->P i env st->sP ya st (g x env st λe s=>b {D with nx:=P (i+1),ct:=P (i+1),bk:=D.nx} e s))/\(∀env st,P xs.length env st->sP ya st (D.nx env st))
def zaX (I:uN)(g:wP)(b:xD):xD:=λD env st=>I env st λya xs xm=>zbg g b ya xs D env xm
def z0i (c:xL)(b:xD):xD:=λD env st=> ∃W:Nat->zI->z7->Prop,(∃m,W m env st)/\∀m env st,W m env st->
 c env st λt xm=>if t=true then ∃N:zI->z7->Prop,(∀e s,N e s->∃m',m' < m/\W m' e s)/\b {D with nx:=N,ct:=N,bk:=D.nx} env xm else D.nx env xm
section
variable {X:Cx} {a b c e tg iter:Expr} {es:List Expr} {pos p:di} {Ta Tb:zE} {TA:yC} {tc:xL} {Ti:uN} {Tg:wP} {Ts:xD} {body:List bw}
theorem zan {wi wi':TI}(h:PI X tg iter wi)(w: ∀σ H R,wi' σ H R->wi σ H R):PI X tg iter wi':=⟨λmt s σ H R I q=>h mt s σ H R I (w σ H R q)⟩
theorem kC (hp:PassesOwn 3#2 X.A X.env X.xe)(hc:X.calm=true)(hi:PI X tg iter (qO X.K Ti))(hg:PG X tg (sD X.K Tg))(hb:xI X body (xH X.K Ts))
  (hs: ∀x,foldedSetIterable iter X.env x=pure x:=by intro _;rfl):PS X (.For tg iter body [] pos) (xH X.K (zaX Ti Tg Ts)):=by
 refine o6 (zwP hp hc hi hg hb hs) λD σ H ⟨A,env,st,D3,xo,h,k⟩=>⟨A,env,st,_,xo,h,λA1 H1 xm ya xs J g1 s1 it h1=> ?_⟩;obtain⟨P,p0,hP,hE⟩:=h1;refine⟨λi m σ' H'=>m=xs.length - i/\i<=xs.length/\∃A' xt xp,zZ A1 H1 A' H'/\wB X.K A' H' σ' xt xp/\P i xt xp,⟨_,rfl,db _,A1,env,xm,.refl _ _,xo.grow g1 s1,p0⟩,?_⟩;rintro i m σ' H' ⟨rfl,hi,A',xt,xp,g',ye,p'⟩;by_cases yf:i < xs.length
 ·have hx:xs[i]?=some xs[i]:=bn yf
  have hw:=hP i _ xt xp hx p';refine .inr ⟨it.go i A' H' xp g' ye.rs hw.ok yf,λσ2 H2=>i+1<=xs.length/\∃A' xt xp,zZ A1 H1 A' H2/\wB X.K A' H2 σ2 xt xp/\P (i+1) xt xp,λσ2 H2 q=>⟨_,0#0,rfl,q⟩,λv H2 y=> ?_⟩;obtain⟨g2,s2,e2⟩:=it.yld i _ A' H' xp v H2 hx g' ye.rs hw.ok y;refine⟨A',xt,xp,_,_,ye.grow g2 s2,e2,hw.of,λA3 H3 σ3 env3 yd g3 r3 h3=> ?_⟩;have gg:=g'.trans (g2.trans g3);have k3:=k.after (g1.trans gg);exact⟨A3,env3,yd,_,r3,h3,λA4 H4 σ4 env4 st4 g4 r4 h4=>⟨yf,A4,env4,st4,gg.trans g4,r4,h4⟩,k3.rt,k3.nx,λA4 H4 σ4 env4 st4 g4 r4 h4=>⟨yf,A4,env4,st4,gg.trans g4,r4,h4⟩⟩
 ·have e:i=xs.length:=0#0
  subst e;have hw:=hE xt xp p';exact .inl ⟨it.stop A' H' xp g' ye.rs hw.ok,k.nx A' H' σ' xt xp (g1.trans g') ye hw.of⟩
theorem zg6 (hp:PassesOwn 3#2 X.A X.env X.xe)(hc:PT X c (yY X.K tc))(hb:xI X body (xH X.K Ts)):PS X (.While c body [] pos) (xH X.K (z0i tc Ts)):=by
 refine o6 (zwT hp hc hb) λD σ H ⟨A,env,st,D3,xo,h,k⟩=> ?_;obtain⟨W,⟨m0,w0⟩,hW⟩:=h;refine⟨λm σ' H'=> ∃A' xt xp,zZ A H A' H'/\wB X.K A' H' σ' xt xp/\W m xt xp,⟨m0,A,env,st,.refl _ _,xo,w0⟩,?_⟩;rintro m σ' H' ⟨A',xt,xp,g',ye,w'⟩;refine⟨A',xt,xp,_,ye,hW m xt xp w',λA1 H1 xm t g1 s1 h1=> ?_⟩;have gg:=g'.trans g1;have kk:=k.after gg;cases t with
 | false=>exact k.nx A1 H1 σ' xt xm gg (ye.grow g1 s1) h1
 | true=>
  obtain⟨N,hN,hb1⟩:=h1;refine⟨λσ2 H2=> ∃A2 env2 xr,zZ A H A2 H2/\wB X.K A2 H2 σ2 env2 xr/\N env2 xr,?_,?_⟩
  ·rintro σ2 H2 ⟨A2,env2,xr,g2,r2,n2⟩
   obtain⟨m',hm,w2⟩:=hN env2 xr n2;exact⟨m',hm,A2,env2,xr,g2,r2,w2⟩
  ·exact⟨A1,xt,xm,_,ye.grow g1 s1,hb1,λA4 H4 σ4 env4 st4 g4 r4 h4=>⟨A4,env4,st4,gg.trans g4,r4,h4⟩,kk.rt,kk.nx,λA4 H4 σ4 env4 st4 g4 r4 h4=>⟨A4,env4,st4,gg.trans g4,r4,h4⟩⟩
def qF (own:Nat)(g:wP)(tt:xL)(el:zE)(ya:wS)(xs:List PV)(Q:List PV->z7->Prop)(env:zI)(st:z7):Prop:= ∃P:Nat->List PV->zI->z7->Prop,P 0 [] (env++List.replicate own none) st/\
 (∀i x ys env st,xs[i]?=some x->P i ys env st->sP ya st (g x env st λe s=>tt e s λb s2=>if b=true then el e s2 λy s3=>xJ y=true/\P (i+1) (ys++ [y]) e s3 else P (i+1) ys e s2))/\
 (∀ys env st,P xs.length ys env st->sP ya st (Q ys st))
def zaW (own:Nat)(I:uN)(g:wP)(tt:xL)(el:zE):zE:=λenv st Q=>I env st λya xs xm=>qF own g tt el ya xs (λys xr=>Q (.lst ys) xr) env xm
def zhB (own:Nat)(I:uN)(g:wP)(tt:xL)(el:zE):zE:=λenv st Q=>I env st λya xs xm=>qF own g tt el ya xs (λys xr=>Q (.obj xr.length) (xr++ [.lst ys])) env xm
def i4:xL:=λ_ st Q=>Q true st
theorem uI:PF X [] (yY X.K i4):=zw5 zw3 λσ H Q ⟨A,env,st,Q3,xo,h,k⟩=>k A H st true (.refl _ _) xo.rs h
theorem zoe (h:PT X c (yY X.K tc)):PF X [c] (yY X.K tc):=zw4 h
theorem wB.more {K:Frag}{A:List aa}{H:Hp}{σ:St}{env:zI}{st:z7}(r:wB K A H σ env st)(n:Nat):wB K A H (σ++List.replicate n none) (env++List.replicate n none) st:=by
 refine⟨r.rs,by rw[af,af,r.len,iw,iw],λi x h=> ?_⟩;by_cases hi:i < env.length
 ·rw[cn hi]at h
  rw[cn (by rw[<- r.len];exact hi)];exact r.at_ i x h
 ·rw[dg 0#0,ko]at h
  split at h <;> cases h
theorem zjd {K:Frag}{own:Nat}{g:wP}{tt:xL}{el:zE}{ya:wS}{xs:List PV}{Q3:List PV->z7->Prop}{Q:VK}{A:List aa}{H:Hp}{σ:St}{env:zI}{st:z7}{J:It}(xo:wB K A H σ env st)(it:nZ K A H ya J xs)
  (h:qF own g tt el ya xs Q3 env st) (k: ∀A' H' xp ys vs,zZ A H A' H'->RS K A' H' xp->RVs K A' H' ys vs->vs.length<=am->Q3 ys xp->∀D,H' D=none->Q (.ref D) (zN H' D (.lst vs))):zhK own J (sD K g) (yY K tt) (zV K el) Q σ H:=by
 obtain⟨P,p0,hP,hE⟩:=h;refine⟨λi m vs σ' H'=>m=xs.length - i/\i<=xs.length/\vs.length<=i/\∃A' xt xp ys,zZ A H A' H'/\wB K A' H' σ' xt xp/\RVs K A' H' ys vs/\P i ys xt xp,⟨_,rfl,db _,aq _,A,_,st,[],.refl _ _,xo.more own,.nil,p0⟩,?_⟩;rintro i m vs σ' H' ⟨rfl,hi,hv,A',xt,xp,ys,g',ye,rv,p'⟩;by_cases yf:i < xs.length
 ·have hx:xs[i]?=some xs[i]:=bn yf
  have hw:=hP i _ ys xt xp hx p';refine .inr ⟨it.go i A' H' xp g' ye.rs hw.ok yf,bp (mj hv yf) it.small,λvs σ2 H2=>i+1<=xs.length/\vs.length<=i+1/\∃A' xt xp ys,zZ A H A' H2/\wB K A' H2 σ2 xt xp/\RVs K A' H2 ys vs/\P (i+1) ys xt xp,λvs σ2 H2 q=>⟨_,0#0,rfl,q⟩,λv H2 y=> ?_⟩;obtain⟨g2,s2,e2⟩:=it.yld i _ A' H' xp v H2 hx g' ye.rs hw.ok y;refine⟨A',xt,xp,_,_,ye.grow g2 s2,e2,hw.of,λA3 H3 σ3 env3 yd g3 r3 h3=>⟨A3,env3,yd,_,r3,h3,λA4 H4 st4 b g4 s4 h4=> ?_⟩⟩;have gg:=g2.trans (g3.trans g4);cases b with
  | false=>exact⟨yf,0#0,A4,env3,st4,ys,g'.trans gg,r3.grow g4 s4,rv.grow gg,h4⟩
  | true=>
   refine⟨A4,env3,st4,_,r3.grow g4 s4,h4,λA5 H5 st5 y v5 g5 s5 e5 h5=>⟨yf,by rw[af,gf];grobner,A5,env3,st5,ys++ [y],g'.trans (gg.trans g5),(r3.grow g4 s4).grow g5 s5,?_,h5.2⟩⟩;exact(rv.grow (gg.trans g5)).append (.cons (e5.rv h5.1) .nil)
 ·have e:i=xs.length:=0#0
  subst e;have hw:=hE ys xt xp p';have hz:=cb hv it.small;exact .inl ⟨it.stop A' H' xp g' ye.rs hw.ok,hz,k A' H' xp ys vs g' ye.rs rv hz hw.of⟩
variable {N' own:List Str} {scope:kb} {yl:List Expr} {xq:Expr} {te:zE} {tt:xL}
theorem zjc {K:Frag}{own:Nat}{σ:St}{H:Hp}{Q:VK} :zV K (zaW own Ti Tg tt te) σ H Q->zaS own (qO K Ti) (sD K Tg) (yY K tt) (zV K te) σ H Q:=by
 rintro⟨A,env,st,Q3,xo,h,k⟩;refine⟨A,env,st,_,xo,h,λA1 H1 xm ya xs J g1 s1 it h1=>zjd (xo.grow g1 s1) it h1 λA2 H2 xr ys vs g2 s2 r2 hz q D hD=> ?_⟩;exact k A2 _ xr _ _ (g1.trans (g2.trans (.new hD))) (s2.new hD) (.val (.lst (.inl ⟨.inl xR,s2.fresh hD⟩) hz (r2.grow (.new hD)))) q
theorem zrP {K:Frag}{own:Nat}{σ:St}{H:Hp}{Q:VK} :zV K (zhB own Ti Tg tt te) σ H Q->zaS own (qO K Ti) (sD K Tg) (yY K tt) (zV K te) σ H Q:=by
 rintro⟨A,env,st,Q3,xo,h,k⟩;refine⟨A,env,st,_,xo,h,λA1 H1 xm ya xs J g1 s1 it h1=>zjd (xo.grow g1 s1) it h1 λA2 H2 xr ys vs g2 s2 r2 hz q D hD=> ?_⟩;exact k (A2++ [D]) _ _ _ _ (g1.trans (g2.trans (.newObj hD))) (s2.newObj (q:= .lst ys) hD ⟨vs,xR,r2.grow (.newObj hD),hz⟩) (.obj (eL s2.len)) q
theorem uR {pos:di}(S:oJ X scope N' own)(hc:X.calm=true)(hi:PI X xq iter (qO X.K Ti))
  (hg: ∀C s H fp mt,PG 1#3 xq (sD X.K Tg)) (ht: ∀C s H fp mt,PF 1#3 yl (yY X.K tt)) (he: ∀C s H fp mt,PE 1#3 a (zV X.K te))
  (hs: ∀x,foldedSetIterable iter X.env x=pure x:=by intro _;rfl):PE X (.ListComp a [⟨xq,iter,yl,0⟩] scope pos) (zV X.K (zaW own.length Ti Tg tt te)):=vI (zwn S hc hi hg ht he hs) λ_ _ _=>zjc
theorem zty {K:Frag}{A:List aa}{H:Hp}{a:aa}{xs:List PV}{vs:List V}(t:oV K A H a vs)(hz:vs.length<=am)(r:RVs K A H xs vs):nZ K A H none (cK K a) xs where
 go:=λi A' H' st g s _ hi=>by
  rw[r.len]at hi;exact⟨vs,vs[i],(t.grow g).sq,by simp[hi]⟩
 yld:=λi x A' H' st v H2 hx g s _ y=>by
  obtain⟨rfl,y⟩:=y;obtain⟨w,ew,rw'⟩:=r.get hx;have:=y vs (t.grow g).sq;rw[ew]at this;cases this;exact⟨.refl _ _,s,.val (rw'.grow g)⟩
 stop:=λA' H' st g s _=>⟨vs,(t.grow g).sq,by rw[r.len];exact aq _⟩
 small:=by rw[r.len];exact hz
theorem zt2 {K:Frag}{A:List aa}{H:Hp}{a:aa}{xs:List PV}{vs:List V}(t:oW K A H a vs)(hz:vs.length<=am)(r:RVs K A H xs vs):nZ K A H none (Itt K a) xs where
 go:=λi A' H' st g s _ hi=>by
  rw[r.len]at hi;exact⟨vs,vs[i],(t.grow g).sq,by simp[hi]⟩
 yld:=λi x A' H' st v H2 hx g s _ y=>by
  obtain⟨rfl,y⟩:=y;obtain⟨w,ew,rw'⟩:=r.get hx;have:=y vs (t.grow g).sq;rw[ew]at this;cases this;exact⟨.refl _ _,s,.val (rw'.grow g)⟩
 stop:=λA' H' st g s _=>⟨vs,(t.grow g).sq,by rw[r.len];exact aq _⟩
 small:=by rw[r.len];exact hz
theorem ztz {K:Frag}{A:List aa}{H:Hp}{i:Nat}{a:aa}{xs:List PV}(e:A[i]?=some a)(hz:xs.length<=am):nZ K A H (some (i,.lst xs)) (cK K a) xs where
 go:=λj A' H' st g s ok hi=>by
  obtain⟨vs,h,r,_⟩:=s.at_ i a _ (g.sub e) ok;rw[r.len]at hi;exact⟨vs,vs[j],.of h,by simp[hi]⟩
 yld:=λj x A' H' st v H2 hx g s ok y=>by
  obtain⟨rfl,y⟩:=y;obtain⟨vs,h,r,_⟩:=s.at_ i a _ (g.sub e) ok;obtain⟨w,ew,rw'⟩:=r.get hx;have:=y vs (.of h);rw[ew]at this;cases this;exact⟨.refl _ _,s,.val rw'⟩
 stop:=λA' H' st g s ok=>by
  obtain⟨vs,h,r,_⟩:=s.at_ i a _ (g.sub e) ok;exact⟨vs,.of h,by rw[r.len];exact aq _⟩
 small:=hz
def oF (lo:Int)(n:Nat):List PV:=(List.range n).map λi:Nat=> .int (lo+(i:Int))
theorem qA (lo:Int)(n:Nat):(oF lo n).length=n:=by unfold oF;rw[ah,List.length_range]
theorem zav {lo:Int}{n i:Nat}{x:PV}(h:(oF lo n)[i]?=some x):i < n/\x= .int (lo+i):=by
 have hi:=(ba.mp h).1;rw[qA]at hi;unfold oF at h;rw[dv,vi hi]at h;exact⟨hi,(ca h).symm⟩
theorem zt0 {K:Frag}{A:List aa}{H:Hp}{lo:Int}{n:Nat}(hz:n<=am):nZ K A H none (cL lo n) (oF lo n) where
 go:=λi A' H' st g s _ hi=>by rw[qA]at hi;exact hi
 yld:=λi x A' H' st v H2 hx g s _ y=>by
  obtain⟨rfl,rfl⟩:=y;obtain⟨_,rfl⟩:=zav hx;exact⟨.refl _ _,s,.val (.int _)⟩
 stop:=λA' H' st g s _=>by rw[qA];exact aq n
 small:=by rw[qA];exact hz
def zlR (T:yC):uN:=λenv st Q=>T env st λxs xm=>match xs with
 | [.int j]=>(-1000000<=j/\j<=1000000)/\Q none (oF 0 j.toNat) xm
 | _=>False
def ztj (T:yC):uN:=λenv st Q=>T env st λxs xm=>match xs with
 | [.int i,.int j]=>(-1000000<=i/\i<=1000000/\ -1000000<=j/\j<=1000000)/\Q none (oF i (j - i).toNat) xm
 | _=>False
end
section
variable {X:Cx}
theorem o4 {f:ad->ad->Sem ad}{R:R3}
  (h: ∀mt s σ H A st x y v w vv ww Q3 Q,z9 X mt σ H s->RS X.K A H st->RE X.K A H x v->RE X.K A H y w->y4 v vv->y4 w ww->R x y st Q3->vQ X.K A H Q3 Q->av 3#2 X.A (f vv ww) 2#5 X.xe s):yW X f (vU X.K R):=by
 rintro mt s σ H v w vv ww Q I rv rw ⟨A,st,x,y,Q3,rs,ex,ey,hR,k⟩;exact h mt s σ H A st x y v w vv ww Q3 Q I rs ex ey rv rw hR k
def zgP:R3:=λx y st Q=>match x,y with | .int i,.int j=>Q (.int (i - j)) st | _,_=>False
def zas:R3:=λx y st Q=>match x,y with
 | .int i,.int j=>((-(2 ^ 64) < i/\i < 2 ^ 64)∨(-(2 ^ 64) < j/\j < 2 ^ 64))/\Q (.int (i * j)) st
 | .str z,.int n=>if n=0 then Q (.str Str.empty) st else n=1/\Q (.str z) st
 | _,_=>False
def zgI:R3:=λx y st Q=>match x,y with | .int i,.int j=>0 < j/\Q (.int (i % j)) st | _,_=>False
def zg_:R3:=λx y st Q=>match x,y with | .int i,.int j=>(0 < j/\j < 1099511627776)/\Q (.int (i / j)) st | _,_=>False
def zgL:R3:=λx y st Q=>match x,y with | .int i,.int j=>c9 i j/\Q (.int (i ^ j.toNat)) st | _,_=>False
theorem zvF {X:Cx} :yW X (binaryOp .FloorDiv) (rI (λ_ j=>0 < j/\j < 1099511627776) λi j=> .int (i / j)):=opI λi j _ _ _ _ _ hc q=>by
 have e:i.fdiv j=i / j:=Int.fdiv_eq_ediv_of_nonneg _ 0#0;rw[<- e]at q;refine PyProof.Rows.floordiv_int 0#0 q (.inl (PyProof.noPylong_of_log2 ?_));by_cases z:j.natAbs=0
 ·rw[z];decide
 ·have:=(ud z).mpr (show j.natAbs < 2 ^ 40 by grobner)
  grobner
theorem wC {K:Frag}{A:List aa}{H:Hp}{i:Int}{v:V}(e:RE K A H 1#5 v):v= .int i:=by
 cases e with | val e=>cases e;rfl
theorem u8 {K:Frag}{A:List aa}{H:Hp}{i:Str}{v:V}(e:RE K A H (.str i) v):v= .str i:=by
 cases e with | val e=>cases e;rfl
theorem ziU {K:Frag}{A:List aa}{H:Hp}{i:Bool}{v:V}(e:RE K A H (.bl i) v):v= .bl i:=by
 cases e with | val e=>cases e;rfl
theorem qU:yW X (binaryOp .Sub) (vU X.K zgP):=o4 λmt s σ H A st x y v w vv ww Q3 Q I rs ex ey rv rw h k=>by
 unfold zgP at h
 split at h
 ·cases wC ex;cases wC ey
  exact zvT mt s σ H _ _ vv ww Q I rv rw ⟨_,_,rfl,rfl,k.now rs (.val (.int _)) h⟩
 ·exact h.elim
theorem nO:yW X (binaryOp .Mult) (vU X.K zas):=o4 λmt s σ H A st x y v w vv ww Q3 Q I rs ex ey rv rw h k=>by
 unfold zas at h
 split at h
 ·cases wC ex;cases wC ey
  exact zvO mt s σ H _ _ vv ww Q I rv rw ⟨_,_,rfl,rfl,h.1,k.now rs (.val (.int _)) h.2⟩
 ·cases u8 ex;cases wC ey
  rename_i z n;by_cases hn:n=0
  ·rw[if_pos hn]at h
   exact znr mt s σ H _ _ vv ww Q I rv rw ⟨_,_,rfl,rfl,.inl ⟨hn,k.now rs (.val 7#4) h⟩⟩
  ·rw[if_neg hn]at h
   exact znr mt s σ H _ _ vv ww Q I rv rw ⟨_,_,rfl,rfl,.inr ⟨h.1,k.now rs (.val 7#4) h.2⟩⟩
 ·exact h.elim
theorem mX:yW X (binaryOp .Mod) (vU X.K zgI):=o4 λmt s σ H A st x y v w vv ww Q3 Q I rs ex ey rv rw h k=>by
 unfold zgI at h
 split at h
 ·cases wC ex;cases wC ey
  exact zvN mt s σ H _ _ vv ww Q I rv rw ⟨_,_,rfl,rfl,h.1,k.now rs (.val (.int _)) h.2⟩
 ·exact h.elim
theorem zmW:yW X (binaryOp .FloorDiv) (vU X.K zg_):=o4 λmt s σ H A st x y v w vv ww Q3 Q I rs ex ey rv rw h k=>by
 unfold zg_ at h
 split at h
 ·cases wC ex;cases wC ey
  exact zvF mt s σ H _ _ vv ww Q I rv rw ⟨_,_,rfl,rfl,h.1,k.now rs (.val (.int _)) h.2⟩
 ·exact h.elim
theorem zvg:yW X (binaryOp .Pow) (vU X.K zgL):=o4 λmt s σ H A st x y v w vv ww Q3 Q I rs ex ey rv rw h k=>by
 unfold zgL at h
 split at h
 ·cases wC ex;cases wC ey
  exact zvS mt s σ H _ _ vv ww Q I rv rw ⟨_,_,rfl,rfl,h.1,k.now rs (.val (.int _)) h.2⟩
 ·exact h.elim
def zgJ:PV->z7->K3->Prop:=λx st Q=>match x with | .int i=>Q (.int (-i)) st | _=>False
theorem zgm:fG X (unaryOp .USub) (zbT X.K zgJ):=by
 rintro mt s σ H v vv Q I rv ⟨A,st,x,Q3,rs,ex,h,k⟩;unfold zgJ at h
 split at h
 ·cases wC ex
  exact zzE mt s σ H _ vv Q I rv ⟨_,rfl,k.now rs (.val (.int _)) h⟩
 ·exact h.elim
def jR (f:Int->Int->Bool):R3:=λx y st Q=>match x,y with | .int i,.int j=>Q (.bl (f i j)) st | _,_=>False
theorem zae {op:CmpOp}{f:Int->Int->Bool}(ho:yW X (compareOp op) (l4 λi j=> .bl (f i j))):yW X (compareOp op) (vU X.K (jR f)):=o4 λmt s σ H A st x y v w vv ww Q3 Q I rs ex ey rv rw h k=>by
 unfold jR at h
 split at h
 ·cases wC ex;cases wC ey
  exact ho mt s σ H _ _ vv ww Q I rv rw ⟨_,_,rfl,rfl,k.now rs (.val (.bl _)) h⟩
 ·exact h.elim
theorem nN:yW X (compareOp .Lt) (vU X.K (jR λi j=>decide (i < j))):=zae zvM
theorem zva:yW X (compareOp .LtE) (vU X.K (jR λi j=>decide (i<=j))):=zae zvK
theorem jM:yW X (compareOp .Gt) (vU X.K (jR λi j=>decide (j < i))):=zae zvH
theorem zuX:yW X (compareOp .GtE) (vU X.K (jR λi j=>decide (j<=i))):=zae zvG
def qR:PV->Bool
 | .non=>true
 | _=>false
def zx7:R3:=λx y st Q=>match y with | .non=>Q (.bl (qR x)) st | _=>False
def zxE:R3:=λx y st Q=>match y with | .non=>Q (.bl (!qR x)) st | _=>False
theorem zvD:yW X (binaryOp .Add) (λx y H Q=> ∃a b xs ys,x= .ref a/\y= .ref b/\xV X.K H a xs/\xV X.K H b ys/\xs.length+ys.length<=am/\
  (xs= []->Q (.ref b) H)/\(ys= []->Q (.ref a) H)/\∀p,H p=none->Q (.ref p) (zN H p (.tup (xs++ys)))):=by
 intro mt s σ H x y v u Q I rx ry h;obtain⟨a,b,xs,ys,rfl,rfl,ha,hb,hz,q1,q2,q3⟩:=h;by_cases hx:xs= []
 ·cases rx;cases ry
  subst hx;obtain⟨xn,r1,p1,_⟩:=I.tuple ha;obtain⟨xu,r2,p2,_⟩:=I.tuple hb;have hv:xn= []:=r1.nil_iff.mpr rfl;subst hv;obtain⟨⟨cls,dd,data,sl⟩,ho,hc,n,hd⟩:=id p1;obtain⟨⟨cls2,dd2,data2,sl2⟩,ho2,hc2,n2,hd2⟩:=id p2;simp only at hc hd hc2 hd2;subst hc hd hc2 hd2;exact vw ⟨_,ho,rfl⟩ ⟨_,ho2,rfl⟩ rz ve my mm (mf _ _)
   (tuple_addW0 a b _ xu.toArray n n2 dd dd2 sl sl2 3#0) ⟨ho,ho2,⟨.ref b,H,I,rfl,q1 rfl⟩⟩
 ·exact zvE mt s σ H _ _ v u Q I rx ry ⟨a,b,_,_,rfl,rfl,ha,hb,hx,hz,q2,λ_=>q3⟩
def kH:R3:=λx y st Q=>match x,y with
 | .int i,.int j=>Q (.int (i+j)) st
 | .str i,.str j=>i.length+j.length<=am/\Q (.str (i++j)) st
 | .tup xs,.tup ys=>xs.length+ys.length<=am/\Q (.tup (xs++ys)) st
 | .lst xs,.lst ys=>xs.length+ys.length<=am/\Q (.lst (xs++ys)) st
 | _,_=>False
theorem RVs.nil_iff {K:Frag}{A:List aa}{H:Hp}{xs:List PV}{vs:List V}(h:RVs K A H xs vs):vs= []->xs= []:=by
 cases h with
 | nil=>exact λ_=>rfl
 | cons r t=>exact λz=>nomatch z
theorem vQ.tup {K:Frag}{A:List aa}{H:Hp}{Q3:K3}{Q:VK}{st:z7}{xs:List PV}{vs:List V}(k:vQ K A H Q3 Q)(rs:RS K A H st)(r:RVs K A H xs vs)(hz:vs.length<=am)(q:Q3 2#6 st): ∀p,H p=none->Q (.ref p) (zN H p (.tup vs)):=
 λp hp=>k A _ st _ _ (.new hp) (rs.new hp) (.val (.tup (.inl ⟨.inl xR,rs.fresh hp⟩) hz (r.grow (.new hp)))) q
theorem vQ.lst {K:Frag}{A:List aa}{H:Hp}{Q3:K3}{Q:VK}{st:z7}{xs:List PV}{vs:List V}(k:vQ K A H Q3 Q)(rs:RS K A H st)(r:RVs K A H xs vs)(hz:vs.length<=am)(q:Q3 2#4 st): ∀p,H p=none->Q (.ref p) (zN H p (.lst vs)):=
 λp hp=>k A _ st _ _ (.new hp) (rs.new hp) (.val (.lst (.inl ⟨.inl xR,rs.fresh hp⟩) hz (r.grow (.new hp)))) q
theorem vQ.lstO {K:Frag}{A:List aa}{H:Hp}{Q3:K3}{Q:VK}{st:z7}{xs:List PV}{vs:List V}(k:vQ K A H Q3 Q)(rs:RS K A H st)(r:RVs K A H xs vs)(hz:vs.length<=am)(q:Q3 0#5 (st++ [.lst xs])): ∀p,H p=none->Q (.ref p) (zN H p (.lst vs)):=
 λp hp=>k (A++ [p]) _ _ _ _ (.newObj hp) (rs.newObj (q:= .lst xs) hp ⟨vs,xR,r.grow (.newObj hp),hz⟩) (.obj (eL rs.len)) q
theorem znq:yW X (binaryOp .Add) (λx y H Q=> ∃a b xs ys,x= .ref a/\y= .ref b/\xA X.K H a xs/\xA X.K H b ys/\xs.length+ys.length<=am/\∀p,H p=none->Q (.ref p) (zN H p (.lst (xs++ys)))):=by
 intro mt s σ H x y v u Q I rx ry h;obtain⟨a,b,xs,ys,rfl,rfl,ha,hb,hz,q⟩:=h;cases rx;cases ry;obtain⟨xn,n,r1,e,_⟩:=I.listX ha;obtain⟨xu,n2,r2,e2,_⟩:=I.listX hb;have l1:=r1.length;have l2:=r2.length;refine PySem.P.add_list e e2 ?_ (by rw[bj,bj];grobner);have ea:xn.toArray++xu.toArray=(xn++xu).toArray:=3#0
 rw[ea];exact⟨.ref _,_,I.lnew (t':=s.toks) (r1.append r2) (by rw[af];grobner),rfl,q _ I.fresh⟩
theorem xF:yW X (binaryOp .Add) (vU X.K kH):=o4 λmt s σ H A st x y v w vv ww Q3 Q I rs ex ey rv rw h k=>by
 unfold kH at h
 split at h
 ·cases wC ex;cases wC ey
  exact zvA mt s σ H _ _ vv ww Q I rv rw ⟨_,_,rfl,rfl,k.now rs (.val (.int _)) h⟩
 ·cases u8 ex;cases u8 ey
  exact zvB mt s σ H _ _ vv ww Q I rv rw ⟨_,_,rfl,rfl,h.1,k.now rs (.val 7#4) h.2⟩
 ·cases ex with | val ex=>cases ey with | val ey=>cases ex with | tup t z r=>cases ey with | tup t2 z2 r2=>
   have hl:_:=h.1;rw[r.len,r2.len]at hl;refine zvD mt s σ H _ _ vv ww Q I rv rw ⟨_,_,_,_,rfl,rfl,t.sq,t2.sq,hl,λe=> ?_,λe=> ?_,k.tup rs (r.append r2) (by rw[af];exact hl) h.2⟩
   ·have e2:=r.nil_iff e
    subst e2;exact k.now rs (.val (.tup t2 z2 r2)) h.2
   ·have e2:=r2.nil_iff e
    subst e2;refine k.now rs (.val (.tup t z r)) ?_;have:=h.2;rw[cg]at this;exact this
 ·cases ex with | val ex=>cases ey with | val ey=>cases ex with | lst t z r=>cases ey with | lst t2 z2 r2=>
   have hl:_:=h.1;rw[r.len,r2.len]at hl;exact znq mt s σ H _ _ vv ww Q I rv rw ⟨_,_,_,_,rfl,rfl,t.sq,t2.sq,hl,k.lst rs (r.append r2) (by rw[af];exact hl) h.2⟩
 ·exact h.elim
end
mutual
def yO:PV->PV->Bool
 | .non,.non=>true
 | .bl a,.bl b=>a==b
 | .bl a,.int b=>(if a then 1 else 0)==b
 | .int a,.bl b=>a==(if b then 1 else 0)
 | .int a,.int b=>a==b
 | .str a,.str b=>a==b
 | .tup xs,.tup ys=>eqPs xs ys
 | .lst xs,.lst ys=>eqPs xs ys
 | _,_=>false
def eqPs:List PV->List PV->Bool
 | [],[]=>true
 | x::xs,y::ys=>yO x y&&eqPs xs ys
 | _,_=>false
end
mutual
def yA:PV->Nat
 | .tup xs=>dpts xs+1
 | .lst xs=>dpts xs+1
 | .dct _=>1000
 | .itb _=>1000
 | .clo _=>1000
 | .ty _=>1000
 | .obj _=>1000
 | _=>0
def dpts:List PV->Nat
 | []=>0
 | x::xs=>max (yA x) (dpts xs)
end
theorem zbX: ∀{xs:List PV} {i:Nat} {x:PV},xs[i]?=some x->yA x<=dpts xs
 | y::ys,0,x,h=>by simp at h;subst h;unfold dpts;exact Nat.le_max_left _ _
 | y::ys,i+1,x,h=>by
  have:=zbX (xs:=ys) (i:=i) (x:=x) (by simpa using h);unfold dpts;exact cb this (Nat.le_max_right _ _)
mutual
theorem zbZ: ∀(x:PV),yA x < 1000->yO x x=true
 | .non,_=>by unfold yO;rfl
 | .bl b,_=>by unfold yO;simp
 | .int i,_=>by unfold yO;simp
 | .str s,_=>by unfold yO;simp
 | .tup xs,h=>by unfold yO;exact eqPs_refl xs (by unfold yA at h;grobner)
 | .lst xs,h=>by unfold yO;exact eqPs_refl xs (by unfold yA at h;grobner)
 | .dct _,h=>by unfold yA at h;grobner
 | .itb _,h=>by unfold yA at h;grobner
 | .clo _,h=>by unfold yA at h;grobner
 | .ty _,h=>by unfold yA at h;grobner
 | .obj _,h=>by unfold yA at h;grobner
theorem eqPs_refl: ∀(xs:List PV),dpts xs < 1000->eqPs xs xs=true
 | [],_=>by unfold eqPs;rfl
 | x::xs,h=>by
  unfold dpts at h;unfold eqPs;rw[zbZ x 0#0,eqPs_refl xs 0#0];rfl
end
theorem aC: ∀(xs ys:List PV),eqPs xs ys=((List.range (min xs.length ys.length)).all (λj=>match xs[j]?,ys[j]? with | some x,some y=>yO x y | _,_=>true)&&xs.length==ys.length)
 | [],[]=>by unfold eqPs;rfl
 | [],y::ys=>by unfold eqPs;simp
 | x::xs,[]=>by unfold eqPs;simp
 | x::xs,y::ys=>by
  unfold eqPs;rw[aC xs ys];rw[ao,ao,Nat.succ_min_succ,List.range_succ_eq_map,jg,lg];simp only[kr,Bool.and_assoc]
  congr 1
  have e:((λj=>match(x::xs)[j]?,(y::ys)[j]? with | some x,some y=>yO x y | _,_=>true) ∘ Nat.succ)=λj=>match xs[j]?,ys[j]? with | some x,some y=>yO x y | _,_=>true:=by
   funext j;simp
  rw[e]
  congr 1
  rw[Bool.eq_iff_iff];simp
section
variable {X:Cx} {mt:List (aa×aj)} {σ:St} {H:Hp} {s:ag} {A:List aa}
theorem z9.lst_tup (I:z9 X mt σ H s){a:aa}{xs ys:List V}(h1:xA X.K H a xs)(h2:xV X.K H a ys):False:=by
 obtain⟨xn,_,p,_⟩:=I.list h1;obtain⟨xu,_,p2,_⟩:=I.tuple h2;exact SeqAt.ne_of_list_tuple p.isList p2 rfl
mutual
theorem RV.inj (I:z9 X mt σ H s){x y:PV}{v:V}(a:RV X.K A H x v)(b:RV X.K A H y v)(h1:yA x < 1000)(h2:yA y < 1000):x=y:=by
 cases a with
 | non=>cases b;rfl
 | bl _=>cases b;rfl
 | int _=>cases b;rfl
 | str _=>cases b;rfl
 | ty _=>cases b;rfl
 | tup t z r=>
  cases b with
  | tup t2 z2 r2=>
   have e:=I.tuple_inj t.sq t2.sq;subst e;rw[RVs.inj2 I r r2 (by unfold yA at h1;grobner) (by unfold yA at h2;grobner)]
  | lst t2 z2 r2=>exact(z9.lst_tup I t2.sq t.sq).elim
  | dct _ _ _=>unfold yA at h2;grobner
  | itb _ _=>unfold yA at h2;grobner
  | clo _=>unfold yA at h2;grobner
 | lst t z r=>
  cases b with
  | lst t2 z2 r2=>
   have e:=I.list_inj t.sq t2.sq;subst e;rw[RVs.inj2 I r r2 (by unfold yA at h1;grobner) (by unfold yA at h2;grobner)]
  | tup t2 z2 r2=>exact(z9.lst_tup I t.sq t2.sq).elim
  | dct _ _ _=>unfold yA at h2;grobner
  | itb _ _=>unfold yA at h2;grobner
  | clo _=>unfold yA at h2;grobner
 | dct _ _ _=>unfold yA at h1;grobner
 | itb _ _=>unfold yA at h1;grobner
 | clo _=>unfold yA at h1;grobner
theorem RVs.inj2 (I:z9 X mt σ H s){xs ys:List PV}{vs:List V}(a:RVs X.K A H xs vs)(b:RVs X.K A H ys vs)(h1:dpts xs < 1000)(h2:dpts ys < 1000):xs=ys:=by
 cases a with
 | nil=>cases b;rfl
 | cons r t=>
  cases b with
  | cons r2 t2=>
   unfold dpts at h1 h2;rw[RV.inj I r r2 0#0 0#0,RVs.inj2 I t t2 0#0 0#0]
end
theorem hU {n:Nat}{B:ci}{xs ys:List PV}{vs ws:List V}{xn xu:List ad}(rx:RVs X.K A H xs vs)(ry:RVs X.K A H ys ws)(r1:zR vs xn)(r2:zR ws xu)
  (ih: ∀x y v w vv ww,yA x<=n->yA y < 1000->RV X.K A H x v->RV X.K A H y w->y4 v vv->y4 w ww->SeqAt.EqAt B s vv ww (yO x y)) (hx:dpts xs<=n) (hy:dpts ys < 1000):
  ∀j (h1:j < xn.toArray.size) (h2:j < xu.toArray.size),SeqAt.EqAt B s xn.toArray[j] xu.toArray[j] ((λj=>match xs[j]?,ys[j]? with | some x,some y=>yO x y | _,_=>true) j):=λj h1 h2=>by
 obtain⟨v,ev,rv⟩:=zbb r1 h1;obtain⟨w,ew,rw'⟩:=zbb r2 h2;obtain⟨x,ex,rx'⟩:=rx.get' ev;obtain⟨y,ey,ry'⟩:=ry.get' ew;show SeqAt.EqAt B s _ _ (match xs[j]?,ys[j]? with | some x,some y=>yO x y | _,_=>true);rw[ex,ey];exact ih x y v w _ _ (cb (zbX ex) hx) (mj (zbX ey) hy) rx' ry' rv rw'
def za7:PV->PV->Bool
 | .tup _,.tup _=>true
 | .lst _,.lst _=>true
 | _,_=>false
inductive Kd (s:ag):PV->ad->Prop
 | non:Kd s .non .none
 | bl (b:Bool):Kd s (.bl b) (.bool b)
 | int (i:Int) (t:lx):Kd s 1#5 (.int i t)
 | str (z:Str) (t:lx):Kd s (.str z) (.str z t)
 | tup {xs:List PV} {a:aa} {xn:Array ad} :IsTup s.heap a xn->Kd s 2#6 (.ref a)
 | lst {xs:List PV} {a:aa} {xn:Array ad} :s.heap.IsList a xn->Kd s 2#4 (.ref a)
theorem mS (I:z9 X mt σ H s){x:PV}{v:V}{vv:ad}(rx:RV X.K A H x v)(rv:y4 v vv)(h:yA x < 1000):Kd s x vv:=by
 cases rx with
 | non=>cases rv;exact .non
 | bl b=>cases rv;exact .bl b
 | int i=>obtain⟨t,rfl⟩:=rv;exact .int i t
 | str z=>obtain⟨t,rfl⟩:=rv;exact .str z t
 | ty n=>unfold yA at h;grobner
 | tup t z r=>cases rv;obtain⟨xn,_,p,_⟩:=I.tuple t.sq;exact .tup p
 | lst t z r=>cases rv;obtain⟨xn,_,p,_⟩:=I.list t.sq;exact .lst p.isList
 | dct t z r=>unfold yA at h;grobner
 | itb _ _=>unfold yA at h;grobner
 | clo _=>unfold yA at h;grobner
local macro_rules | `(tactic| exact?)=> `(tactic| simp only[yO,Bool.not_false,Bool.not_true])
open SeqAt in
theorem zj6 {B:ci}(hu:B.units < cLine): ∀{x y:PV} {vv ww:ad},Kd s x vv->Kd s y ww->za7 x y=false->EqAt B s vv ww (yO x y)
 | _,_,_,_,.non,.non,_=>by exact?;exact EqAt.same _
 | _,_,_,_,.non,.bl b,_=>by exact?;exact EqAt.none_bool _
 | _,_,_,_,.non,.int b b2,_=>by exact?;exact EqAt.none_int _ _
 | _,_,_,_,.non,.str b b2,_=>by exact?;exact EqAt.none_str _ _
 | _,_,_,_,.non,.tup b,_=>by exact?;exact EqAt.none_tuple b hu
 | _,_,_,_,.non,.lst b,_=>by exact?;exact EqAt.none_list b hu
 | _,_,_,_,.bl a,.non,_=>by exact?;exact EqAt.bool_none _
 | _,_,_,_,.bl a,.bl b,_=>by exact?;exact EqAt.bool_bool _ _
 | _,_,_,_,.bl a,.int b b2,_=>by exact?;exact EqAt.bool_int _ _ _
 | _,_,_,_,.bl a,.str b b2,_=>by exact?;exact EqAt.bool_str _ _ _
 | _,_,_,_,.bl a,.tup b,_=>by exact?;exact EqAt.bool_tuple _ b hu
 | _,_,_,_,.bl a,.lst b,_=>by exact?;exact EqAt.bool_list _ b hu
 | _,_,_,_,.int a a2,.non,_=>by exact?;exact EqAt.int_none _ _
 | _,_,_,_,.int a a2,.bl b,_=>by exact?;exact EqAt.int_bool _ _ _
 | _,_,_,_,.int a a2,.int b b2,_=>by exact?;exact EqAt.int_int _ _ _ _
 | _,_,_,_,.int a a2,.str b b2,_=>by exact?;exact EqAt.int_str _ _ _ _
 | _,_,_,_,.int a a2,.tup b,_=>by exact?;exact EqAt.int_tuple _ _ b hu
 | _,_,_,_,.int a a2,.lst b,_=>by exact?;exact EqAt.int_list _ _ b hu
 | _,_,_,_,.str a a2,.non,_=>by exact?;exact EqAt.str_none _ _
 | _,_,_,_,.str a a2,.bl b,_=>by exact?;exact EqAt.str_bool _ _ _
 | _,_,_,_,.str a a2,.int b b2,_=>by exact?;exact EqAt.str_int _ _ _ _
 | _,_,_,_,.str a a2,.str b b2,_=>by exact?;exact EqAt.str_str _ _ _ _
 | _,_,_,_,.str a a2,.tup b,_=>by exact?;exact EqAt.str_tuple _ _ b hu
 | _,_,_,_,.str a a2,.lst b,_=>by exact?;exact EqAt.str_list _ _ b hu
 | _,_,_,_,.tup a,.non,_=>by exact?;exact EqAt.tuple_none a hu
 | _,_,_,_,.tup a,.bl b,_=>by exact?;exact EqAt.tuple_bool _ a hu
 | _,_,_,_,.tup a,.int b b2,_=>by exact?;exact EqAt.tuple_int _ _ a hu
 | _,_,_,_,.tup a,.str b b2,_=>by exact?;exact EqAt.tuple_str _ _ a hu
 | _,_,_,_,.tup _,.tup _,h=>Bool.noConfusion h
 | _,_,_,_,.tup a,.lst b,_=>by exact?;exact EqAt.tuple_list a b hu
 | _,_,_,_,.lst a,.non,_=>by exact?;exact EqAt.list_none a hu
 | _,_,_,_,.lst a,.bl b,_=>by exact?;exact EqAt.list_bool _ a hu
 | _,_,_,_,.lst a,.int b b2,_=>by exact?;exact EqAt.list_int _ _ a hu
 | _,_,_,_,.lst a,.str b b2,_=>by exact?;exact EqAt.list_str _ _ a hu
 | _,_,_,_,.lst a,.tup b,_=>by exact?;exact EqAt.list_tuple a b hu
 | _,_,_,_,.lst _,.lst _,h=>Bool.noConfusion h
open SeqAt in
theorem zxN {B:ci}(hu:B.units < cLine): ∀{x y:PV} {vv ww:ad},Kd s x vv->Kd s y ww->za7 x y=false->RcAt B s vv ww (yO x y)
 | _,_,_,_,.non,.non,_=>by exact?;exact RcAt.none_none
 | _,_,_,_,.non,.bl b,_=>by exact?;exact RcAt.none_bool _
 | _,_,_,_,.non,.int b b2,_=>by exact?;exact RcAt.none_int _ _
 | _,_,_,_,.non,.str b b2,_=>by exact?;exact RcAt.none_str _ _
 | _,_,_,_,.non,.tup b,_=>by exact?;exact RcAt.none_tuple b hu
 | _,_,_,_,.non,.lst b,_=>by exact?;exact RcAt.none_list b hu
 | _,_,_,_,.bl a,.non,_=>by exact?;exact RcAt.bool_none _
 | _,_,_,_,.bl a,.bl b,_=>by exact?;exact RcAt.bool_bool _ _
 | _,_,_,_,.bl a,.int b b2,_=>by exact?;exact RcAt.bool_int _ _ _
 | _,_,_,_,.bl a,.str b b2,_=>by exact?;exact RcAt.bool_str _ _ _
 | _,_,_,_,.bl a,.tup b,_=>by exact?;exact RcAt.bool_tuple _ b hu
 | _,_,_,_,.bl a,.lst b,_=>by exact?;exact RcAt.bool_list _ b hu
 | _,_,_,_,.int a a2,.non,_=>by exact?;exact RcAt.int_none _ _
 | _,_,_,_,.int a a2,.bl b,_=>by exact?;exact RcAt.int_bool _ _ _
 | _,_,_,_,.int a a2,.int b b2,_=>by exact?;exact RcAt.int_int _ _ _ _
 | _,_,_,_,.int a a2,.str b b2,_=>by exact?;exact RcAt.int_str _ _ _ _
 | _,_,_,_,.int a a2,.tup b,_=>by exact?;exact RcAt.int_tuple _ _ b hu
 | _,_,_,_,.int a a2,.lst b,_=>by exact?;exact RcAt.int_list _ _ b hu
 | _,_,_,_,.str a a2,.non,_=>by exact?;exact RcAt.str_none _ _
 | _,_,_,_,.str a a2,.bl b,_=>by exact?;exact RcAt.str_bool _ _ _
 | _,_,_,_,.str a a2,.int b b2,_=>by exact?;exact RcAt.str_int _ _ _ _
 | _,_,_,_,.str a a2,.str b b2,_=>by exact?;exact RcAt.str_str _ _ _ _
 | _,_,_,_,.str a a2,.tup b,_=>by exact?;exact RcAt.str_tuple _ _ b hu
 | _,_,_,_,.str a a2,.lst b,_=>by exact?;exact RcAt.str_list _ _ b hu
 | _,_,_,_,.tup a,.non,_=>by exact?;exact RcAt.tuple_none a hu
 | _,_,_,_,.tup a,.bl b,_=>by exact?;exact RcAt.tuple_bool _ a hu
 | _,_,_,_,.tup a,.int b b2,_=>by exact?;exact RcAt.tuple_int _ _ a hu
 | _,_,_,_,.tup a,.str b b2,_=>by exact?;exact RcAt.tuple_str _ _ a hu
 | _,_,_,_,.tup _,.tup _,h=>Bool.noConfusion h
 | _,_,_,_,.tup a,.lst b,_=>by exact?;exact RcAt.tuple_list a b hu
 | _,_,_,_,.lst a,.non,_=>by exact?;exact RcAt.list_none a hu
 | _,_,_,_,.lst a,.bl b,_=>by exact?;exact RcAt.list_bool _ a hu
 | _,_,_,_,.lst a,.int b b2,_=>by exact?;exact RcAt.list_int _ _ a hu
 | _,_,_,_,.lst a,.str b b2,_=>by exact?;exact RcAt.list_str _ _ a hu
 | _,_,_,_,.lst a,.tup b,_=>by exact?;exact RcAt.list_tuple a b hu
 | _,_,_,_,.lst _,.lst _,h=>Bool.noConfusion h
open SeqAt in
theorem zxQ {B:ci}(hu:B.units < cLine): ∀{x y:PV} {vv ww:ad},Kd s x vv->Kd s y ww->za7 x y=false->RcNeAt B s vv ww (!yO x y)
 | _,_,_,_,.non,.non,_=>by exact?;exact RcNeAt.none_none
 | _,_,_,_,.non,.bl b,_=>by exact?;exact RcNeAt.none_bool _
 | _,_,_,_,.non,.int b b2,_=>by exact?;exact RcNeAt.none_int _ _
 | _,_,_,_,.non,.str b b2,_=>by exact?;exact RcNeAt.none_str _ _
 | _,_,_,_,.non,.tup b,_=>by exact?;exact RcNeAt.none_tuple b hu
 | _,_,_,_,.non,.lst b,_=>by exact?;exact RcNeAt.none_list b hu
 | _,_,_,_,.bl a,.non,_=>by exact?;exact RcNeAt.bool_none _
 | _,_,_,_,.bl a,.bl b,_=>by exact?;exact RcNeAt.bool_bool _ _
 | _,_,_,_,.bl a,.int b b2,_=>by exact?;exact RcNeAt.bool_int _ _ _
 | _,_,_,_,.bl a,.str b b2,_=>by exact?;exact RcNeAt.bool_str _ _ _
 | _,_,_,_,.bl a,.tup b,_=>by exact?;exact RcNeAt.bool_tuple _ b hu
 | _,_,_,_,.bl a,.lst b,_=>by exact?;exact RcNeAt.bool_list _ b hu
 | _,_,_,_,.int a a2,.non,_=>by exact?;exact RcNeAt.int_none _ _
 | _,_,_,_,.int a a2,.bl b,_=>by exact?;exact RcNeAt.int_bool _ _ _
 | _,_,_,_,.int a a2,.int b b2,_=>by exact?;exact RcNeAt.int_int _ _ _ _
 | _,_,_,_,.int a a2,.str b b2,_=>by exact?;exact RcNeAt.int_str _ _ _ _
 | _,_,_,_,.int a a2,.tup b,_=>by exact?;exact RcNeAt.int_tuple _ _ b hu
 | _,_,_,_,.int a a2,.lst b,_=>by exact?;exact RcNeAt.int_list _ _ b hu
 | _,_,_,_,.str a a2,.non,_=>by exact?;exact RcNeAt.str_none _ _
 | _,_,_,_,.str a a2,.bl b,_=>by exact?;exact RcNeAt.str_bool _ _ _
 | _,_,_,_,.str a a2,.int b b2,_=>by exact?;exact RcNeAt.str_int _ _ _ _
 | _,_,_,_,.str a a2,.str b b2,_=>by exact?;exact RcNeAt.str_str _ _ _ _
 | _,_,_,_,.str a a2,.tup b,_=>by exact?;exact RcNeAt.str_tuple _ _ b hu
 | _,_,_,_,.str a a2,.lst b,_=>by exact?;exact RcNeAt.str_list _ _ b hu
 | _,_,_,_,.tup a,.non,_=>by exact?;exact RcNeAt.tuple_none a hu
 | _,_,_,_,.tup a,.bl b,_=>by exact?;exact RcNeAt.tuple_bool _ a hu
 | _,_,_,_,.tup a,.int b b2,_=>by exact?;exact RcNeAt.tuple_int _ _ a hu
 | _,_,_,_,.tup a,.str b b2,_=>by exact?;exact RcNeAt.tuple_str _ _ a hu
 | _,_,_,_,.tup _,.tup _,h=>Bool.noConfusion h
 | _,_,_,_,.tup a,.lst b,_=>by exact?;exact RcNeAt.tuple_list a b hu
 | _,_,_,_,.lst a,.non,_=>by exact?;exact RcNeAt.list_none a hu
 | _,_,_,_,.lst a,.bl b,_=>by exact?;exact RcNeAt.list_bool _ a hu
 | _,_,_,_,.lst a,.int b b2,_=>by exact?;exact RcNeAt.list_int _ _ a hu
 | _,_,_,_,.lst a,.str b b2,_=>by exact?;exact RcNeAt.list_str _ _ a hu
 | _,_,_,_,.lst a,.tup b,_=>by exact?;exact RcNeAt.list_tuple a b hu
 | _,_,_,_,.lst _,.lst _,h=>Bool.noConfusion h
theorem zhr (x y:PV):za7 x y=false∨(∃xs ys,x= .tup xs/\y= .tup ys)∨∃xs ys,x= .lst xs/\y= .lst ys:=by
 cases x <;> cases y <;> first | exact .inl rfl | exact .inr (.inl ⟨_,_,rfl,rfl⟩) | exact .inr (.inr ⟨_,_,rfl,rfl⟩)
theorem zgR {xs ys:List PV}{n m:Nat}(h1:xs.length=n)(h2:ys.length=m):((List.range (min n m)).all (λj=>match xs[j]?,ys[j]? with | some x,some y=>yO x y | _,_=>true)&&n==m)=eqPs xs ys:=by
 subst h1 h2;exact(aC xs ys).symm
theorem zgS {xs ys:List PV}{n m:Nat}(h1:xs.length=n)(h2:ys.length=m)(h:n=m):(List.range n).all (λj=>match xs[j]?,ys[j]? with | some x,some y=>yO x y | _,_=>true)=eqPs xs ys:=by
 rw[aC,h1,h2,<- h,Nat.min_self];simp
theorem zca {xs ys:List PV}(h:xs.length≠ys.length):eqPs xs ys=false:=by
 rw[aC];simp[h]
theorem aD (I:z9 X mt σ H s): ∀(n:Nat) (B:ci) (x y:PV) (v w:V) (vv ww:ad),B.units+n < cLine->yA x<=n->n < 1000->yA y < 1000->RV X.K A H x v->RV X.K A H y w->y4 v vv->y4 w ww->SeqAt.EqAt B s vv ww (yO x y):=by
 intro n
 induction n with
 | zero=>
  intro B x y v w vv ww hu hx hn hy rx ry rv rw;refine zj6 0#0 (mS I rx rv 0#0) (mS I ry rw hy) ?_;cases x <;> first | (unfold yA at hx;grobner) | rfl
 | succ n ih=>
  intro B x y v w vv ww hu hx hn hy rx ry rv rw;rcases zhr x y with h | ⟨xs,ys,rfl,rfl⟩ | ⟨xs,ys,rfl,rfl⟩
  ·exact zj6 0#0 (mS I rx rv 0#0) (mS I ry rw hy) h
  ·cases rx with | tup t z r=>cases ry with | tup t2 z2 r2=>
    rename_i a vs b ws;cases rv;cases rw;by_cases hab:a=b
    ·subst hab
     have e:=RV.inj I (.tup t z r) (.tup t2 z2 r2) 0#0 hy;rw[e,zbZ _ hy];exact ly _
    ·obtain⟨xn,r3,p,_⟩:=I.tuple t.sq
     obtain⟨xu,r4,p2,_⟩:=I.tuple t2.sq;have hh:=qy (A:=B) (show s.heap.IsTuple a xn.toArray from p) (show s.heap.IsTuple b xu.toArray from p2) 0#0 (hU r r2 r3 r4 (λx y v w vv ww h1 h2=>ih B.in1 x y v w vv ww (by show B.units+1+n < cLine;grobner) h1 0#0 h2) (by unfold yA at hx;grobner) (by unfold yA at hy;grobner));rw[zgR (by rw[r.len,r3.length];simp) (by rw[r2.len,r4.length];simp)]at hh;unfold yO;exact mh hab hh
  ·cases rx with | lst t z r=>cases ry with | lst t2 z2 r2=>
    rename_i a vs b ws;cases rv;cases rw;by_cases hab:a=b
    ·subst hab
     have e:=RV.inj I (.lst t z r) (.lst t2 z2 r2) 0#0 hy;rw[e,zbZ _ hy];exact ly _
    ·obtain⟨xn,r3,p,_⟩:=I.list t.sq
     obtain⟨xu,r4,p2,_⟩:=I.list t2.sq;have l1:xs.length=xn.toArray.size:=by rw[r.len,r3.length];simp
     have l2:ys.length=xu.toArray.size:=by rw[r2.len,r4.length];simp
     unfold yO;refine mh hab ?_;by_cases hl:xn.toArray.size=xu.toArray.size
     ·have hh:=sg (A:=B) p.isList p2.isList hl 0#0 (hU r r2 r3 r4 (λx y v w vv ww h1 h2=>ih B.in1 x y v w vv ww (by show B.units+1+n < cLine;grobner) h1 0#0 h2) (by unfold yA at hx;grobner) (by unfold yA at hy;grobner))
      rw[zgS l1 l2 hl]at hh;exact hh
     ·rw[zca 0#0]
      exact sk p.isList p2.isList (by simpa using hl) 0#0
def zop:R3:=λx y st Q=>(yA x<=50/\yA y < 1000)/\Q (.bl (yO x y)) st
def zos:R3:=λx y st Q=>(yA x<=50/\yA y < 1000)/\Q (.bl (!yO x y)) st
theorem eK {x:PV}(h:yA x < 1000):xJ x=true:=by
 cases x <;> first | rfl | (unfold yA at h;grobner)
theorem x8 {k:Nat}(hr:zH k X.A):yW X (compareOp .Eq) (vU X.K zop):=o4 λmt s σ H A st x y v w vv ww Q3 Q I rs ex ey rv rw h k=>by
 obtain⟨⟨h1,h2⟩,h⟩:=h;have hu:=hr.units;have rx:=ex.rv (eK 0#0);have ry:=ey.rv (eK h2);have fin: ∀b,b=yO x y->EP X mt σ Q (.bool b) s:=λb e=>⟨.bl b,H,I,rfl,by rw[e];exact k.now rs (.val (.bl _)) h⟩;rcases zhr x y with hn | ⟨xs,ys,rfl,rfl⟩ | ⟨xs,ys,rfl,rfl⟩
 ·exact zxN 0#0 (mS I rx rv 0#0) (mS I ry rw h2) hn _ _ _ _ (fin _ rfl)
 ·cases rx with | tup t z r=>cases ry with | tup t2 z2 r2=>
   cases rv;cases rw;obtain⟨xn,r3,p,_⟩:=I.tuple t.sq;obtain⟨xu,r4,p2,_⟩:=I.tuple t2.sq;refine qy (show s.heap.IsTuple _ xn.toArray from p) (show s.heap.IsTuple _ xu.toArray from p2) 0#0 5#2 _ _ _ _ (fin _ ?_);rw[zgR (by rw[r.len,r3.length];simp) (by rw[r2.len,r4.length];simp)];unfold yO;rfl
 ·cases rx with | lst t z r=>cases ry with | lst t2 z2 r2=>
   cases rv;cases rw;obtain⟨xn,r3,p,_⟩:=I.list t.sq;obtain⟨xu,r4,p2,_⟩:=I.list t2.sq;have l1:xs.length=xn.toArray.size:=by rw[r.len,r3.length];simp
   have l2:ys.length=xu.toArray.size:=by rw[r2.len,r4.length];simp
   by_cases hl:xn.toArray.size=xu.toArray.size
   ·refine sg p.isList p2.isList hl 0#0 5#2 _ _ _ _ (fin _ ?_)
    rw[zgS l1 l2 hl];unfold yO;rfl
   ·refine sk p.isList p2.isList (by simpa using hl) 0#0 _ _ _ _ (fin _ ?_)
    unfold yO;rw[zca 0#0]
theorem lX {k:Nat}(hr:zH k X.A):yW X (compareOp .NotEq) (vU X.K zos):=o4 λmt s σ H A st x y v w vv ww Q3 Q I rs ex ey rv rw h k=>by
 obtain⟨⟨h1,h2⟩,h⟩:=h;have hu:=hr.units;have rx:=ex.rv (eK 0#0);have ry:=ey.rv (eK h2);have fin: ∀b,b= !yO x y->EP X mt σ Q (.bool b) s:=λb e=>⟨.bl b,H,I,rfl,by rw[e];exact k.now rs (.val (.bl _)) h⟩;rcases zhr x y with hn | ⟨xs,ys,rfl,rfl⟩ | ⟨xs,ys,rfl,rfl⟩
 ·exact zxQ 0#0 (mS I rx rv 0#0) (mS I ry rw h2) hn _ _ _ _ (fin _ rfl)
 ·cases rx with | tup t z r=>cases ry with | tup t2 z2 r2=>
   cases rv;cases rw;obtain⟨xn,r3,p,_⟩:=I.tuple t.sq;obtain⟨xu,r4,p2,_⟩:=I.tuple t2.sq;refine(SeqAt.RcNeAt.tuples (show s.heap.IsTuple _ xn.toArray from p) (show s.heap.IsTuple _ xu.toArray from p2) 0#0 5#2) _ _ _ _ (fin _ ?_);rw[zgR (by rw[r.len,r3.length];simp) (by rw[r2.len,r4.length];simp)];unfold yO;rfl
 ·cases rx with | lst t z r=>cases ry with | lst t2 z2 r2=>
   cases rv;cases rw;obtain⟨xn,r3,p,_⟩:=I.list t.sq;obtain⟨xu,r4,p2,_⟩:=I.list t2.sq;have l1:xs.length=xn.toArray.size:=by rw[r.len,r3.length];simp
   have l2:ys.length=xu.toArray.size:=by rw[r2.len,r4.length];simp
   by_cases hl:xn.toArray.size=xu.toArray.size
   ·refine(SeqAt.RcNeAt.lists p.isList p2.isList hl 0#0 5#2) _ _ _ _ (fin _ ?_)
    rw[zgS l1 l2 hl];unfold yO;rfl
   ·refine(qk p.isList p2.isList (by simpa using hl) 0#0) _ _ _ _ (fin _ ?_)
    unfold yO;rw[zca 0#0];rfl
end
def tF (kvs:List (zK×PV))(k:zK):Option PV:=(kvs.find? λkv=>decide (kv.1=k)).map (·.2)
def k6 (kvs:List (zK×PV))(k:zK)(v:PV):List (zK×PV):=
 if 5#6=true then kvs.map (λkv=>if kv.1=k then(kv.1,v)else kv)else kvs++ [(k,v)]
def rD:PV->Option zK
 | .int i=>some (.inl i)
 | .str x=>some (.inr x)
 | _=>none
section
variable {K:Frag} {A:List aa} {H:Hp}
theorem RKs.val {k:zK} : ∀{kvs:List (zK×PV)} {us:List (zK×V)},RKs K A H kvs us->(∃x v,tF kvs k=some x/\rH us k=some v/\RV K A H x v)∨(tF kvs k=none/\rH us k=none)
 | _,_,.nil=> .inr ⟨rfl,rfl⟩
 | _,_,.cons (k:=k') (x:=x) (v:=v) (xs:=xs) (vs:=vs) r t=>by
  by_cases e:k'=k
  ·refine .inl ⟨x,v,?_,?_,r⟩
   ·unfold tF;rw[im,decide_eq_true e];rfl
   ·exact zba e
  ·have e1:tF ((k',x)::xs) k=tF xs k:=by unfold tF;rw[im,decide_eq_false e]
   have e2:rH ((k',v)::vs) k=rH vs k:=zaZ e;rw[e1,e2];exact RKs.val t
theorem RKs.any {k:zK} : ∀{kvs:List (zK×PV)} {us:List (zK×V)},RKs K A H kvs us->(us.any λkv=>decide (kv.1=k))=5#6
 | _,_,.nil=>rfl
 | _,_,.cons r t=>by rw[ir,ir,RKs.any t]
theorem RKs.map {k:zK}{x:PV}{v:V}(r:RV K A H x v): ∀{kvs:List (zK×PV)} {us:List (zK×V)},RKs K A H kvs us->RKs K A H (kvs.map λkv=>if kv.1=k then(kv.1,x)else kv) (us.map λkv=>if kv.1=k then(kv.1,v)else kv)
 | _,_,.nil=> .nil
 | _,_,.cons (k:=k') r' t=>by
  rw[cc,cc];by_cases e:k'=k
  ·rw[if_pos e,if_pos e];exact .cons r (RKs.map r t)
  ·rw[if_neg e,if_neg e];exact .cons r' (RKs.map r t)
theorem RKs.append: ∀{a b:List (zK×PV)} {c d:List (zK×V)},RKs K A H a c->RKs K A H b d->RKs K A H (a++b) (c++d)
 | _,_,_,_,.nil,h=>h
 | _,_,_,_,.cons r t,h=> .cons r (RKs.append t h)
theorem RKs.put {k:zK}{x:PV}{v:V}(r:RV K A H x v){kvs:List (zK×PV)}{us:List (zK×V)}(h:RKs K A H kvs us):RKs K A H (k6 kvs k x) (qZ us k v):=by
 unfold k6 qZ;rw[h.any]
 split
 ·exact h.map r
 ·exact h.append (.cons r .nil)
theorem aT {y:PV}{w:V}{k:zK}(e:RE K A H y w)(h:rD y=some k):w=kV k:=by
 cases e with
 | obj e=>cases h
 | val e=>cases e <;> first | cases h;rfl | cases h
end
section
variable {X:Cx} {a b e:Expr} {es:List Expr} {pos p2:di} {Ta Tb:zE} {TA:yC}
def kJ:R3:=λx y st Q=>match x with
 | .tup xs=>match y with | .int i=>(match atI xs i with | some z=>Q z st | none=>False) | _=>False
 | .lst xs=>match y with | .int i=>(match atI xs i with | some z=>Q z st | none=>False) | _=>False
 | .str z=>match y with | .int i=>z.length<=am/\(match atI z.cps.toList i with | some c=>Q (.str ⟨#[c]⟩) st | none=>False) | _=>False
 | .dct kvs=>(match rD y with | some k=>(match tF kvs k with | some z=>Q z st | none=>False) | none=>False)
 | .obj n=>(match st[n]? with
  | some 2#4=>(match y with | .int i=>(match atI xs i with | some z=>Q z st | none=>False) | _=>False)
  | some 4#5=>(match rD y with | some k=>(match tF kvs k with | some z=>Q z st | none=>False) | none=>False)
  | _=>False)
 | _=>False
theorem RVs.atI {K:Frag}{A:List aa}{H:Hp}{xs:List PV}{vs:List V}{i:Int}{x:PV}(r:RVs K A H xs vs)(h:L2.atI xs i=some x): ∃v,L2.atI vs i=some v/\RV K A H x v:=by
 unfold L2.atI at h⊢
 rw[<- r.len];cases e:uH xs.length i with
 | none=>rw[e]at h;cases h
 | some j=>rw[e]at h;exact r.get h
theorem zmg {k:Nat}(hr:zH k X.A):qG X (λx y H Q=> ∃a v,x= .ref a/\cA H a y (some v)/\Q v H):=by
 intro value slice mt s σ H x y vv ww Q I rx ry h hs;obtain⟨a,v,rfl,g,q⟩:=h;cases rx;have hT:=zsk I g;unfold subscriptTail;refine ac ?_;rw[getitemInPython_of_ne hT.not_modules];refine ac (nv hT PySem.F.slot_dict_getitem.lookup ?_);have fin:av 3#2 X.A (subscripted slice false (.ref a) ww) (λr s₃=>av 3#2 X.A (letTemporaryGo value (.ref a) r >>= λ_=>pure r) 2#5 X.xe s₃) X.xe s:=by
  rw[hs];exact wpAny_operating (zrZ (by have:=hr.units;grobner) I g ry λw' s3 I3 rw'=>ac (wpAny_letTemporaryGo (al ⟨v,H,I3,rw',q⟩)))
 first
  | exact al (ac fin)
  | exact ac (al (ac fin))
  | exact ac fin
theorem yD {k:Nat}(hr:zH k X.A):qG X (vU X.K kJ):=by
 intro value slice mt s σ H v w vv ww Q I rv rw ⟨A,st,x,y,Q3,rs,ex,ey,h,k⟩ hs;unfold kJ at h
 split at h
 ·-- tuples
  cases ex with | val ex=>cases ex with | tup t z r=>
   split at h
   ·cases wC ey
    split at h
    ·rename_i i q z' e
     obtain⟨v',e',r'⟩:=r.atI e;exact zmj value slice mt s σ H _ _ vv ww Q I rv rw ⟨_,_,_,_,rfl,rfl,t.sq,e',k.now rs (.val r') h⟩ hs
    ·exact h.elim
   ·exact h.elim
 ·cases ex with | val ex=>cases ex with | lst t z r=>
   split at h
   ·cases wC ey
    split at h
    ·rename_i i q z' e
     obtain⟨v',e',r'⟩:=r.atI e;exact zfN value slice mt s σ H _ _ vv ww Q I rv rw ⟨_,_,_,_,rfl,rfl,t.sq,e',k.now rs (.val r') h⟩ hs
    ·exact h.elim
   ·exact h.elim
 ·cases u8 ex
  split at h
  ·cases wC ey
   obtain⟨hz,h⟩:=h
   split at h
   ·rename_i i q c e
    exact zmi value slice mt s σ H _ _ vv ww Q I rv rw ⟨_,_,_,rfl,rfl,hz,e,k.now rs (.val 7#4) h⟩ hs
   ·exact h.elim
  ·exact h.elim
 ·cases ex with | val ex=>cases ex with | dct t z r=>
   split at h
   ·rename_i kk ek
    split at h
    ·rename_i z' e
     rcases r.val (k:=kk)with⟨x',v',e1,e2,r'⟩ | ⟨e1,e2⟩
     ·rw[e]at e1;cases e1
      exact zmg hr value slice mt s σ H _ _ vv ww Q I rv rw ⟨_,v',rfl,.inl ⟨_,kk,.inl t.1,aT ey ek,e2.symm⟩,k.now rs (.val r') h⟩ hs
     ·rw[e]at e1;cases e1
    ·exact h.elim
   ·exact h.elim
 ·cases ex with
  | val ex=>cases ex
  | obj eo=>
   split at h
   ·rename_i n xs q
    obtain⟨vs,h1,r,hzz⟩:=rs.at_ _ _ _ eo q
    split at h
    ·cases wC ey
     split at h
     ·rename_i i q z' e
      obtain⟨v',e',r'⟩:=r.atI e;exact zfN value slice mt s σ H _ _ vv ww Q I rv rw ⟨_,_,_,_,rfl,rfl,.of h1,e',k.now rs (.val r') h⟩ hs
     ·exact h.elim
    ·exact h.elim
   ·rename_i n kvs q
    obtain⟨us,h1,r,hzz⟩:=rs.at_ _ _ _ eo q
    split at h
    ·rename_i kk ek
     split at h
     ·rename_i z' e
      rcases r.val (k:=kk)with⟨x',v',e1,e2,r'⟩ | ⟨e1,e2⟩
      ·rw[e]at e1;cases e1
       exact zmg hr value slice mt s σ H _ _ vv ww Q I rv rw ⟨_,v',rfl,.inl ⟨_,kk,.inl h1,aT ey ek,e2.symm⟩,k.now rs (.val r') h⟩ hs
      ·rw[e]at e1;cases e1
     ·exact h.elim
    ·exact h.elim
   ·exact h.elim
 ·exact h.elim
def dA:PV->PV->PV->z7->(z7->Prop)->Prop:=λo i v st Q=>match o with
 | .obj n=>(match st[n]? with
  | some 2#4=>(match i with | .int k=>xJ v=true/\(match uH xs.length k with | some j=>Q (st.set n (.lst (xs.set j v))) | none=>False) | _=>False)
  | some 4#5=>(match rD i with | some k=>xJ v=true/\kvs.length < am/\Q (st.set n (.dct (k6 kvs k v))) | none=>False)
  | _=>False)
 | _=>False
def zrN (K:Frag):V->V->V->Hp->(Hp->Prop)->Prop:=λo i v H Q=> ∃A st x y z Q3,RS K A H st/\RE K A H x o/\RE K A H y i/\RE K A H z v/\dA x y z st Q3/\∀A' H' xp,zZ A H A' H'->RS K A' H' xp->Q3 xp->Q H'
theorem RVs.set {K:Frag}{A:List aa}{H:Hp}{x:PV}{v:V}(rx:RV K A H x v): ∀{xs:List PV} {vs:List V} (j:Nat),RVs K A H xs vs->RVs K A H (xs.set j x) (vs.set j v)
 | _,_,_,.nil=> .nil
 | _,_,0,.cons _ t=> .cons rx t
 | _,_,j+1,.cons r t=> .cons r (RVs.set rx j t)
theorem zyb {k:Nat}(hr:zH k X.A):zb9 X (zrN X.K):=by
 intro mt s σ H o i v ov iv u Q I ro ri rv ⟨A,st,x,y,z,Q3,rs,ex,ey,ez,h,k⟩;unfold dA at h
 split at h
 ·cases ex with
  | val ex=>cases ex
  | obj eo=>
   have hm:=bf eo
   split at h
   ·rename_i n xs q
    obtain⟨vs,h1,r,hzz⟩:=rs.at_ _ _ _ eo q
    split at h
    ·cases wC ey
     obtain⟨hz,h⟩:=h
     split at h
     ·rename_i kk q2 j e
      rw[r.len]at e;exact set_list mt s σ H _ _ _ ov iv u Q I ro ri rv ⟨_,vs,_,j,rfl,rfl,h1,e,k A _ _ (.put hm) (rs.put (q:= .lst (xs.set j z)) eo ⟨_,xR,RVs.set ((ez.rv hz).grow (.put hm)) j (r.grow (.put hm)),by rw[fq];exact hzz⟩) h⟩
     ·exact h.elim
    ·exact h.elim
   ·rename_i n kvs q
    obtain⟨us,h1,r,hzz⟩:=rs.at_ _ _ _ eo q
    split at h
    ·rename_i kk ek
     obtain⟨hz,hl,h⟩:=h;cases ro;refine zsc (by have:=hr.units;grobner) I (.inl ⟨us,kk,h1,aT ey ek,by rw[<- r.len];exact hl,rfl⟩) ri rv λs' I'=>⟨_,I',k A _ _ (.put hm) (rs.put (q:= .dct (k6 kvs kk z)) eo ⟨_,xR,RKs.put ((ez.rv hz).grow (.put hm)) (r.grow (.put hm)),cb (zfV us kk v) (by rw[<- r.len];exact hl)⟩) h⟩
    ·exact h.elim
   ·exact h.elim
 ·exact h.elim
def gS (To Ti:zE):wP:=λv env st Q=>To env st λo xm=>Ti env xm λi xr=>dA o i v xr λyd=>Q env yd
theorem zof {k:Nat}(hr:zH k X.A)(ho:PE X a 6#6)(hi:PE X b (zV X.K Tb))
  (ha: ∀v,assign (.Subscript a b pos) X.env v=(do
   let ov <- holding [v] (eval a X.env)
   let iv <- holding [v,ov] (eval b X.env)
   standAt pos
   holding [v,ov,iv] (setItem ov iv v)
   release [v,ov,iv] []):=by intro _;rfl):PG X (.Subscript a b pos) (sD X.K (gS Ta Tb)):=
 znC (zw8 ho hi (zyb hr) ha) λv σ H Q ⟨A,env,st,x,Q3,xo,e,h,k⟩=>⟨A,env,st,_,xo,h,λA1 H1 xm o v1 g1 s1 e1 h1=>⟨A1,env,xm,_,xo.grow g1 s1,h1,λA2 H2 xr i v2 g2 s2 e2 h2=>
  ⟨A2,xr,o,i,x,_,s2,e1.grow g2,e2,e.grow (g1.trans g2),h2,λA3 H3 yd g3 s3 h3=>k A3 H3 σ env yd ((g1.trans g2).trans g3) (xo.grow ((g1.trans g2).trans g3) s3) h3⟩⟩⟩
theorem xC.one {K:Frag}{A:List aa}{H:Hp}{x:PV}{vs:List V}(h:xC K A H [x] vs): ∃v,vs= [v]/\RE K A H x v:=by
 cases h with
 | cons r t=>cases t;exact⟨_,rfl,r⟩
theorem xC.two {K:Frag}{A:List aa}{H:Hp}{x y:PV}{vs:List V}(h:xC K A H [x,y] vs): ∃v w,vs= [v,w]/\RE K A H x v/\RE K A H y w:=by
 cases h with
 | cons r t=>obtain⟨w,rfl,e⟩:=xC.one t;exact⟨_,w,rfl,r,e⟩
def jJ:PV->z7->(Nat->Prop)->Prop
 | .tup xs,_,k=>k xs.length
 | .lst xs,_,k=>k xs.length
 | .dct xs,_,k=>False
 | .str z,_,k=>z.length<=am/\k z.length
 | .obj i,st,k=>match st[i]? with | some 2#4=>k xs.length | some 4#5=>k kvs.length | _=>False
 | _,_,_=>False
def zgE:zT:=λxs st Q=>match xs with | [x]=>jJ x st λn=>Q (.int n) st | _=>False
theorem q0:vF X (.builtin "len") (sE X.K zgE):=by
 intro mt s σ H vs us Q I rv ⟨A,st,xs,Q3,rs,ex,h,k⟩;unfold zgE at h
 split at h
 ·rename_i x
  obtain⟨v,rfl,ex1⟩:=xC.one ex;have fin: ∀{n:Nat},Q3 (.int n) st->Q (.int n) H:=λq=>k.now rs (.val (.int _)) q;cases ex1 with
  | obj eo=>
   dsimp only[jJ]at h
   split at h
   ·rename_i q
    obtain⟨vs,h1,r,hzz⟩:=rs.at_ _ _ _ eo q;exact bS mt s σ H _ us Q I rv ⟨_,_,rfl,.inl ⟨_,.of h1,rfl⟩,by rw[<- r.len];exact fin h⟩
   ·rename_i q
    obtain⟨vs,h1,r,hzz⟩:=rs.at_ _ _ _ eo q;exact zrF mt s σ H _ us Q I rv ⟨_,_,rfl,h1,by rw[<- r.len];exact fin h⟩
   ·exact h.elim
  | val e=>
   cases e with
   | str z=>exact bS mt s σ H _ us Q I rv ⟨_,_,rfl,⟨h.1,rfl⟩,fin h.2⟩
   | tup t z r=>exact bS mt s σ H _ us Q I rv ⟨_,_,rfl,.inr ⟨_,t.sq,rfl⟩,by rw[<- r.len];exact fin h⟩
   | lst t z r=>exact bS mt s σ H _ us Q I rv ⟨_,_,rfl,.inl ⟨_,t.sq,rfl⟩,by rw[<- r.len];exact fin h⟩
   | _=>exact False.elim h
 ·exact h.elim
def zgQ:zT:=λxs st Q=>match xs with
 | [.lst ys]=>Q (.tup ys) st
 | [.tup ys]=>Q (.tup ys) st
 | [.obj i]=>(match st[i]? with | some (.lst ys)=>Q (.tup ys) st | some 4#5=>Q (.tup (kvs.map λq=>match q.1 with | .inl i=> .int i | .inr z=> .str z)) st | _=>False)
 | _=>False
def dB:zT:=λxs st Q=>match xs with
 | [.lst ys]=>Q (.tup ys) st
 | [.tup ys]=>Q (.tup ys) st
 | [.obj i]=>(match st[i]? with | some (.lst ys)=>Q (.tup ys) st | _=>False)
 | _=>False
theorem qV:vF X (.type 22#1) (sE X.K dB):=by
 intro mt s σ H vs us Q I rv ⟨A,st,xs,Q3,rs,ex,h,k⟩;unfold dB at h
 split at h
 ·cases ex with | cons ex et=>cases et;cases ex with | val e=>cases e with | lst t z r=>
   exact zbS mt s σ H _ us Q I rv ⟨_,_,rfl,.inl ⟨t.sq,k.tup rs r z h⟩⟩
 ·cases ex with | cons ex et=>cases et;cases ex with | val e=>cases e with | tup t z r=>
   exact zbS mt s σ H _ us Q I rv ⟨_,_,rfl,.inr ⟨t.sq,k.now rs (.val (.tup t z r)) h⟩⟩
 ·cases ex with | cons ex et=>cases et;cases ex with
  | val e=>cases e
  | obj eo=>
   split at h
   ·rename_i q
    obtain⟨vs,h1,r,hz⟩:=rs.at_ _ _ _ eo q;exact zbS mt s σ H _ us Q I rv ⟨_,_,rfl,.inl ⟨.of h1,k.tup rs r hz h⟩⟩
   ·exact h.elim
 ·exact h.elim
def qP (xs:List PV)(lo hi:Option Int):List PV:=(xs.drop (HT.sIx xs.length 0 lo)).take 2#7
def jS:PV->Option Int->Option Int->z7->K3->Prop:=λx lo hi st Q=>match x with
 | .tup xs=>Q (.tup (qP xs lo hi)) st
 | .lst xs=>Q (.lst (qP xs lo hi)) st
 | .str z=>z.length<=am/\((Txt.slice z lo hi).length<=z.length->Q (.str (Txt.slice z lo hi)) st)
 | _=>False
def zrO (K:Frag):V->Option Int->Option Int->Hp->VK->Prop:=λv lo hi H Q=> ∃A st x Q3,RS K A H st/\RE K A H x v/\jS x lo hi st Q3/\vQ K A H Q3 Q
theorem RVs.cut {K:Frag}{A:List aa}{H:Hp}{xs:List PV}{vs:List V}(r:RVs K A H xs vs)(lo hi:Option Int):RVs K A H (qP xs lo hi) (lM vs lo hi):=by
 unfold qP lM;rw[r.len];exact(r.drop _).take _
theorem zvh:fF X (zrO X.K):=by
 intro mt s σ H v vv vl vu lo hi sl Q I rx hs pl pu ⟨A,st,x,Q3,rs,ex,h,k⟩;unfold jS at h
 split at h
 ·cases ex with | val e=>cases e with | tup t z r=>
   rename_i xs a vs;by_cases hw:HT.sIx vs.length 0 lo=0/\HT.sIx vs.length vs.length hi=vs.length
   ·cases rx
    obtain⟨xn,r',ht,hz⟩:=I.tuple t.sq;refine⟨22#1,_,gh.lookup,ht.typeIs,?_⟩;have hl:xn.toArray.size=vs.length:=by rw[bj,<- r'.length]
    refine zsO ht hs pl pu (by rw[hl];exact hw) ⟨.ref a,H,I,rfl,k.now rs (.val (.tup t z r)) ?_⟩;rw[<- r.len]at hw;have e:qP xs lo hi=xs:=by
     unfold qP;rw[hw.1,hw.2,ox,vy,bq (aq _)]
    rw[e]at h;exact h
   ·refine zy6 mt s σ H _ vv vl vu lo hi sl Q I rx hs pl pu ⟨_,_,rfl,t.sq,?_,k.tup rs (r.cut lo hi) (cb (a8 _ lo hi) z) h⟩
    exact hw
 ·cases ex with | val e=>cases e with | lst t z r=>
   exact zy4 mt s σ H _ vv vl vu lo hi sl Q I rx hs pl pu ⟨_,_,rfl,t.sq,k.lst rs (r.cut lo hi) (cb (a8 _ lo hi) z) h⟩
 ·cases u8 ex
  exact zy5 mt s σ H _ vv vl vu lo hi sl Q I rx hs pl pu ⟨_,rfl,h.1,λhl=>k.now rs (.val 7#4) (h.2 hl)⟩
 ·exact h.elim
abbrev lG:=zI->z7->(Option Int->z7->Prop)->Prop
def bX (K:Frag)(T:lG):TO:=λσ H Q=> ∃A env st Q3,wB K A H σ env st/\T env st Q3/\∀A' H' xp i,zZ A H A' H'->RS K A' H' xp->Q3 i xp->Q i H'
def zmS:lG:=λ_ st Q=>Q none st
def zmT (T:zE):lG:=λenv st Q=>T env st λx xm=>match x with | .int i=>Q (some i) xm | _=>False
theorem znI {o:Option Expr}{t t':TO}(h:L2.PO X o t)(w: ∀σ H Q,t' σ H Q->t σ H Q):L2.PO X o t':=⟨λmt s σ H Q I q=>h mt s σ H Q I (w σ H Q q)⟩
theorem eX:L2.PO X none (bX X.K zmS):=znI zwH λσ H Q ⟨A,env,st,Q3,xo,h,k⟩=>k A H st none (.refl _ _) xo.rs h
theorem eY (h:PE X e 6#6):L2.PO X (some e) (bX X.K (zmT Ta)):=by
 refine znI (zwI h) λσ H Q ⟨A,env,st,Q3,xo,h,k⟩=>⟨A,env,st,_,xo,h,λA1 H1 xm x v g1 s1 e1 h1=> ?_⟩;cases x with
 | int i=>cases wC e1;exact⟨i,rfl,k A1 H1 xm _ g1 s1 h1⟩
 | _=>exact False.elim h1
def vSl (T:zE)(Tl Th:lG):zE:=λenv st Q=>T env st λx xm=>Tl env xm λl xr=>Th env xr λu yd=>jS x l u yd Q
theorem eV {lo hi:Option Expr}{Tl Th:lG}(he:PE X e 6#6)(hl:L2.PO X lo (bX X.K Tl))(hu:L2.PO X hi (bX X.K Th)):PE X (.Subscript e (.Slice lo hi none p2) pos) (zV X.K (vSl Ta Tl Th)):=
 vI (zwx zvh he hl hu) λσ H Q ⟨A,env,st,Q3,xo,h,k⟩=>⟨A,env,st,_,xo,h,λA1 H1 xm x v g1 s1 e1 h1=>⟨A1,env,xm,_,xo.grow g1 s1,h1,λA2 H2 xr l g2 s2 h2=>⟨A2,env,xr,_,(xo.grow g1 s1).grow g2 s2,h2,λA3 H3 yd u g3 s3 h3=>
  ⟨A3,yd,x,Q3,s3,e1.grow (g2.trans g3),h3,k.after (g1.trans (g2.trans g3))⟩⟩⟩⟩
end
section
variable {X:Cx} {tg iter a b e:Expr} {es:List Expr} {pos p:di} {Ta:zE} {TA:yC}
def zte (K:Frag)(tl:TE):TI:=λσ H R=>tl σ H λx H1=>(∃a,x= .ref a/\(∃xs,xA K H1 a xs)/\R (cK K a) H1)∨(∃a,x= .ref a/\(∃xs,xV K H1 a xs)/\R (Itt K a) H1)∨∃z,x= .str z/\R (cM z) H1
theorem zw9 {tl:TE}(hl:PE X iter tl):PI X tg iter (zte X.K tl):=by
 refine⟨λmt s σ H R I h=> ?_⟩;refine zY (hl mt s σ H _ I h) λv s1 ⟨x,H1,I1,r1,q1⟩=> ?_;rcases q1 with⟨a,rfl,⟨xs,hq⟩,q⟩ | ⟨a,rfl,⟨xs,hq⟩,q⟩ | ⟨x,rfl,q⟩
 ·cases r1
  obtain⟨xn,rv,p,hz⟩:=I1.list hq;refine qw p.isList ?_;refine⟨s1.heap.objs.size,[s1.heap.objs.size],_,_,H1,rfl,I1.kept (t':=s1.toks) λb o e=>ak _ e,zz9 a _,⟨_,be _ rfl,rfl,rfl⟩,λb hb=> ?_,q⟩;have e:b=s1.heap.objs.size:=by simpa using hb
  subst e;exact I1.fpOk (aq _) (I1.hok.fresh (aq _))
 ·cases r1
  obtain⟨xn,rv,p,hz⟩:=I1.tuple hq;refine ku (show s1.heap.IsTuple a xn.toArray from p) ?_;refine⟨s1.heap.objs.size,[s1.heap.objs.size],_,_,H1,rfl,I1.kept (t':=s1.toks) λb o e=>ak _ e,zzA a _,⟨_,be _ rfl,rfl,rfl⟩,λb hb=> ?_,q⟩;have e:b=s1.heap.objs.size:=by simpa using hb
  subst e;exact I1.fpOk (aq _) (I1.hok.fresh (aq _))
 ·obtain⟨t,rfl⟩:=r1
  have fin: ∀(n:String) (o:aj),lH X.prog X.w X.K tg (cM x) [s1.heap.objs.size] s1.heap.objs.size (λi h=>h.IsStrIter s1.heap.objs.size n x t i)->(s1.heap.push o).IsStrIter s1.heap.objs.size n x t 0->b9 X mt σ tg R (.ref s1.heap.objs.size) {s1 with heap:=s1.heap.push o} :=λn o T st=>
   ⟨s1.heap.objs.size,[s1.heap.objs.size],_,_,H1,rfl,I1.kept (t':=s1.toks) λb u e=>ak _ e,T,st,λb hb=>by
    have e:b=s1.heap.objs.size:=by simpa using hb
    subst e;exact I1.fpOk (aq _) (I1.hok.fresh (aq _)),q⟩
  cases ha:x.cps.all (· < 128)
  ·exact wpAny_pyIter_wide ha (fin "str_iterator" _ (zpw _ x t 2#0 (λA hA=>Walks.strWide hA _ x t) λ_ _ _ _ _ st hQ=>wpAny_pyIter_striter_wide st hQ) ⟨_,be _ rfl,rfl,rfl⟩)
  ·exact wpAny_pyIter_ascii ha (fin "str_ascii_iterator" _ (zpw _ x t 2#0 (λA hA=>Walks.strAscii hA _ x t) λ_ _ _ _ _ st hQ=>wpAny_pyIter_striter_ascii st hQ) ⟨_,be _ rfl,rfl,rfl⟩)
def pC (z:Str):List PV:=z.cps.toList.map λc=> .str ⟨#[c]⟩
theorem zt1 {K:Frag}{A:List aa}{H:Hp}{z:Str}(hz:z.length<=am):nZ K A H none (cM z) (pC z) where
 go:=λi A' H' st g s _ hi=>by
  unfold pC at hi;have hi':i < z.cps.size:=by simpa using hi
  exact hi'
 yld:=λi x A' H' st v H2 hx g s _ y=>by
  obtain⟨rfl,c,hc,rfl⟩:=y;unfold pC at hx;rw[dv]at hx;have hc':z.cps.toList[i]?=some c:=by simpa using hc
  rw[hc']at hx;cases hx;exact⟨.refl _ _,s,.val 7#4⟩
 stop:=λA' H' st g s _=>by
  unfold pC;show _=z.cps.size;simp
 small:=by
  unfold pC;rw[ah];have:z.cps.toList.length=z.length:=by simp[Str.length]
  grobner
def zlO (T:zE):uN:=λenv st Q=>T env st λx xm=>match x with
 | .lst xs=>Q none xs xm
 | .tup xs=>Q none xs xm
 | .str z=>z.length<=am/\Q none (pC z) xm
 | .obj i=>(match xm[i]? with | some 2#4=>Q (some (i,.lst xs)) xs xm | _=>False)
 | _=>False
theorem u5 (h:PE X iter 6#6):PI X tg iter (qO X.K (zlO Ta)):=by
 refine zan (zw9 h) λσ H R ⟨A,env,st,Q3,xo,h,k⟩=>⟨A,env,st,_,xo,h,λA1 H1 xm x v g1 s1 e1 h1=> ?_⟩;cases e1 with
 | obj eo=>
  dsimp only at h1
  split at h1
  ·rename_i q
   obtain⟨vs,h2,r,hz⟩:=s1.at_ _ _ _ eo q;exact .inl ⟨_,rfl,⟨_,.of h2⟩,k A1 H1 xm _ _ _ g1 s1 (ztz eo (by rw[r.len];exact hz)) h1⟩
  ·exact h1.elim
 | val e=>
  cases e with
  | tup t z r=>exact .inr (.inl ⟨_,rfl,⟨_,t.sq⟩,k A1 H1 xm none _ _ g1 s1 (zt2 t z r) h1⟩)
  | lst t z r=>exact .inl ⟨_,rfl,⟨_,t.sq⟩,k A1 H1 xm none _ _ g1 s1 (zty t z r) h1⟩
  | str z=>exact .inr (.inr ⟨z,rfl,k A1 H1 xm none _ _ g1 s1 (zt1 h1.1) h1.2⟩)
  | _=>exact False.elim h1
theorem l3 (hg:Gl X "range")(hm:X.mg "range" =none)(ha:PA X [a] (wU X.K TA))(hs:starEach [a] X.env= [(false,eval a X.env)]:=by rfl):PI X tg (.Call (.Name "range" p) [a] [] pos) (qO X.K (zlR TA)):=by
 refine zan (zwA hg hm ha hs) λσ H R ⟨A,env,st,Q3,xo,h,k⟩=>⟨A,env,st,_,xo,h,λA1 H1 xm xs vs g1 s1 e1 h1=> ?_⟩
 split at h1
 ·rename_i j
  obtain⟨v,rfl,e⟩:=xC.one e1;cases wC e;have hb:(2000000:Nat)<=am:=by rw[iz];decide
  exact⟨j,rfl,0#0,0#0,k A1 H1 xm none _ _ g1 s1 (zt0 0#0) h1.2⟩
 ·exact h1.elim
end
def kP (N:List Str)(xs:List PV):zI:=xs.map some++List.replicate (N.length - xs.length) none
def wX (m:Nat)(Q:K3):K3:=λr st=>match r with
 | .obj i=>if i < m then Q (.obj i) (st.take m)else(match st[i]? with | some 2#4=>Q 2#4 (st.take m) | some (.dct xs)=>Q (.dct xs) (st.take m) | some (.itb xs)=>Q (.itb xs) (st.take m) | _=>False)
 | r=>Q r (st.take m)
section
variable {K:Frag} {A B:List aa} {H H':Hp}
theorem wB.begin {st:z7}{xs:List PV}{vs:List V}{N:List Str}(s:RS K A H st)(e:xC K A H xs vs):wB K A H (L2.start N vs) (kP N xs) st:=by
 have hl:xs.length=vs.length:=gx e;refine⟨s,by unfold L2.start kP;rw[af,af,ah,ah,iw,iw,hl],λi x h=> ?_⟩;unfold kP at h;by_cases hi:i < xs.length
 ·rw[cn (by rw[ah];exact hi),dv]at h
  cases ex:xs[i]? with
  | none=>rw[ex]at h;cases h
  | some y=>
   rw[ex]at h;cases h;have hv:i < vs.length:=0#0
   refine⟨vs[i],?_,zgq e ex (bn hv)⟩;unfold L2.start;rw[cn (by rw[ah];exact hv),dv,bn hv];rfl
 ·rw[dg (by rw[ah];grobner),ko]at h
  split at h <;> cases h
theorem oW.less {A A':List aa}(h: ∀b,b∈A'->b∈A){a:aa}{vs:List V}(t:oW K A H a vs):oW K A' H a vs:=t.imp (λt=>⟨t.1,λm=>t.2 (h _ m)⟩) id
theorem oV.less {A A':List aa}(h: ∀b,b∈A'->b∈A){a:aa}{vs:List V}(t:oV K A H a vs):oV K A' H a vs:=t.imp (λt=>⟨t.1,λm=>t.2 (h _ m)⟩) id
mutual
theorem RV.less {A A':List aa}(h: ∀b,b∈A'->b∈A){x:PV}{v:V} :RV K A H x v->RV K A' H x v
 | .non=> .non
 | .bl b=> .bl b
 | .int i=> .int i
 | .str x=> .str x
 | .ty n=> .ty n
 | .tup t z r=> .tup (t.less h) z (RVs.less h r)
 | .lst t z r=> .lst (t.less h) z (RVs.less h r)
 | .dct t z r=> .dct ⟨t.1,λm=>t.2 (h _ m)⟩ z (RKs.less h r)
 | .itb e n=> .itb e λm=>n (h _ m)
 | .clo e=> .clo ⟨⟨e.fn.1,λm=>e.fn.2 (h _ m)⟩,⟨e.cd.1,λm=>e.cd.2 (h _ m)⟩,⟨e.cl.1,λm=>e.cl.2 (h _ m)⟩,⟨e.dt.1,λm=>e.dt.2 (h _ m)⟩⟩
theorem RVs.less {A A':List aa}(h: ∀b,b∈A'->b∈A){xs:List PV}{vs:List V} :RVs K A H xs vs->RVs K A' H xs vs
 | .nil=> .nil
 | .cons r t=> .cons (RV.less h r) (RVs.less h t)
theorem RKs.less {A A':List aa}(h: ∀b,b∈A'->b∈A){xs:List (zK×PV)}{vs:List (zK×V)} :RKs K A H xs vs->RKs K A' H xs vs
 | .nil=> .nil
 | .cons r t=> .cons (RV.less h r) (RKs.less h t)
end
def bC (A A':List aa)(a:aa):Prop:= ∀(i j:Nat) (p:aa),A[i]?=some a->j < i->A[j]?=some p->∃i',A'[i']?=some a/\j < i'/\A'[j]?=some p
theorem RR.less {A A':List aa}(h: ∀b,b∈A'->b∈A){a:aa}(hp:bC A A' a){x:PV}{v:V}(r:RR K A H a x v):RR K A' H a x v:=by
 cases r with
 | val r=>exact .val (r.less h)
 | obj e l e'=>obtain⟨_,x,y,z⟩:=hp _ _ _ e l e';exact .obj x y z
theorem pR.less {A A':List aa}(h: ∀b,b∈A'->b∈A){a:aa}(hp:bC A A' a){xs:List (zK×PV)}{vs:List (zK×V)} :pR K A H a xs vs->pR K A' H a xs vs
 | .nil=> .nil
 | .cons r t=> .cons ⟨r.1,r.2.less h hp⟩ (pR.less h hp t)
theorem pQ.less {A A':List aa}(h: ∀b,b∈A'->b∈A){a:aa}(hp:bC A A' a){xs:List PV}{vs:List V} :pQ K A H a xs vs->pQ K A' H a xs vs
 | .nil=> .nil
 | .cons r t=> .cons (r.less h hp) (pQ.less h hp t)
theorem vZ.less {A A':List aa}(h: ∀b,b∈A'->b∈A){xs:List (Str×PV)}{vs:List (Str×V)} :vZ K A H xs vs->vZ K A' H xs vs
 | .nil=> .nil
 | .cons r t=> .cons ⟨r.1,r.2.less h⟩ (vZ.less h t)
theorem OA.less {A A':List aa}(h: ∀b,b∈A'->b∈A){a:aa}{o:PO}(hp:bC A A' a)(x:OA K A H a o):OA K A' H a o:=by
 cases o with
 | lst xs=>obtain⟨vs,e,r,z⟩:=x;exact⟨vs,e,r.less h,z⟩
 | dct xs=>obtain⟨vs,e,r,z⟩:=x;exact⟨vs,e,r.less h,z⟩
 | tbl T pos q=>obtain⟨ea,ps,e,r⟩:=x;exact⟨ea,ps,e,r.imp id λ⟨c',e1,e2,e3⟩=>⟨c',e1,e2,λm=>e3 (h _ m)⟩⟩
 | itb kvs=>exact x
 | rcd xs=>obtain⟨vs,e,r,z⟩:=x;exact⟨vs,e,pR.less h hp r,z⟩
 | fd ob xs=>obtain⟨vs,e,r,z⟩:=x;exact⟨vs,e,r.less h,z⟩
 | ros xs=>obtain⟨vs,e,r,z⟩:=x;exact⟨vs,e,pQ.less h hp r,z⟩
 | ins C dx fs=>obtain⟨vs,e,r⟩:=x;exact⟨vs,e,vZ.less h r⟩
theorem aZ {α:Type}{l:List α}{m:Nat} : ∀b,b∈l.take m->b∈l:=λb h=>nw h
theorem RS.take {st:z7}(s:RS K A H st)(m:Nat):RS K (A.take m) H (st.take m):=by
 refine⟨List.Nodup.sublist (qt _ _) s.nd,by rw[fj,fj,s.len],λi a o h1 h2=> ?_⟩;have hi:i < m:=by
  have:=(ba.mp h1).1;rw[fj]at this;grobner
 rw[ib hi]at h1 h2;refine(s.at_ i a o h1 h2).less aZ λi' j p e l e'=> ?_;have hii:i'=i:=(qz (ba.mp e).1 s.nd).mp (e.trans h1.symm);subst hii;exact⟨i',by rw[ib hi];exact e,l,by rw[ib 0#0];exact e'⟩
theorem zZ.take {B':List aa}(g:zZ A H B' H'){m:Nat}(h:A.length<=m):zZ A H (B'.take m) H':=by
 obtain⟨⟨C,rfl,hC⟩,k,l⟩:=g;refine⟨⟨C.take (m - A.length),?_,λb hb=>hC b (nw hb)⟩,k,l⟩;rw[List.take_append,bq h]
theorem vQ.exit {Q3:K3}{Q:VK}{m:Nat}(k:vQ K A H Q3 Q)(hm:A.length<=m):vQ K A H (wX m Q3) Q:=by
 intro A' H' xp r v g s e q;have g':=g.take hm;have s':=s.take m;cases e with
 | val e=>
  refine k _ H' _ r v g' s' (.val (e.less aZ)) ?_;cases r with
  | obj i=>cases e
  | _=>exact q
 | obj eo=>
  rename_i i a;unfold wX at q;dsimp only at q;by_cases hi:i < m
  ·rw[if_pos hi]at q
   exact k _ H' _ _ _ g' s' (.obj (by rw[ib hi];exact eo)) q
  ·rw[if_neg hi]at q
   have na:a∉A'.take m:=λhm'=>by
    obtain⟨j,hj,e⟩:=jl hm';rw[fj]at hj;have e2:A'[j]?=some a:=by
     rw[<- ib (show j < m by grobner),bn (by rw[fj];grobner),e]
    have:=(qz (ba.mp e2).1 s.nd).mp (e2.trans eo.symm);grobner
   split at q
   ·rename_i xs e
    obtain⟨vs,h1,r,z⟩:=s.at_ _ _ _ eo e;exact k _ H' _ _ _ g' s' (.val (.lst (.inl ⟨.inl h1,na⟩) z (r.less aZ))) q
   ·rename_i xs e
    obtain⟨vs,h1,r,z⟩:=s.at_ _ _ _ eo e;exact k _ H' _ _ _ g' s' (.val (.dct ⟨h1,na⟩ z (r.less aZ))) q
   ·rename_i xs e
    exact k _ H' _ _ _ g' s' (.val (.itb (s.at_ _ _ _ eo e) na)) q
   ·exact q.elim
end
theorem xE {P:br}{w:bz}{K:Frag}{mg:Str->Option ad}{base:cf}{x qual:Str}{st:bw}{f:aa}{fd:bh}{N ps:List Str}{k:Nat}{S:zT}(keep:Nat)(F:zS K x qual st f fd)(sc:yQ N ps (zX st))(len: ∀xs st Q,S xs st Q->xs.length=ps.length)
  (hB: ∃T:xD,(∀(xw:ad) (A:ci) (outer:List lc) (s:ag) (H:Hp) (E:XK),zH k 5#7->xI (qQ yG P w K mg base N qual (zX st) f xw A outer s H E).nox (pU st) (xH K T))/\
   ∀xs sto Q,S xs sto Q->T {nx:=λ_ s'=>wX (sto.length+keep) Q .non s',rt:=wX (sto.length+keep) Q} (kP N xs) sto):yK P w K mg base yG (k+1) f fd ps (yF K S):=by
 obtain⟨T,hT,hb⟩:=hB;refine F.ok sc (λvs H Q E h=> ?_) (λxw A outer s H vs Q E hr h=>⟨_,hT xw A outer s H E hr,?_⟩)
 ·obtain⟨A,sto,xs,Q3,rs,ex,hS,_⟩:=h
  rw[<- len xs sto Q3 hS];exact(gx ex).symm
 ·obtain⟨A,sto,xs,Q3,rs,ex,hS,k⟩:=h
  have hm:A.length<=sto.length+keep:=by rw[rs.len];grobner
  refine⟨A,kP N xs,sto,_,wB.begin rs ex,hb xs sto Q3 hS,⟨λA' H' σ' xt xp g r q=> ?_,k.exit hm,λA' H' σ' xt xp g r q=>q.elim,λA' H' σ' xt xp g r q=>q.elim⟩⟩;exact k.exit hm A' H' xp .non .non g r.rs (.val .non) q
section
variable {X:Cx} {scope:kb} {N' own:List Str} {Ti:uN} {Tg:wP} {tt:xL} {te:zE}
theorem zxx {yn xq iter:Expr}{yl:List Expr}{pos spos pos':di}{i0:Nat}{x:Str}(S:oJ X scope N' own)(hN:X.N.Nodup)(hi0:X.N[i0]?=some x)(hx:rP X.env.scope x)(hc:X.calm=true)(hi:PI X xq iter (qO X.K Ti))
  (hg: ∀C s H fp mt,PG 1#3 xq (sD X.K Tg)) (ht: ∀C s H fp mt,PF 1#3 yl (yY X.K tt)) (he: ∀C s H fp mt,PE 1#3 yn (zV X.K te))
  (hs: ∀x,foldedSetIterable iter X.env x=pure x:=by intro _;rfl) (hsw:swapsWith 9#2 (some (.Name x pos')) spos.line X.env=pure true:=by rfl)
  (hf:X.fn x=true∨X.env.scope.names.lookup x=some .local:=by first | exact .inl rfl | exact .inr rfl | assumption):
  PS X (.Assign [.Name x pos'] 9#2 spos) (xH X.K (nV (zaW own.length Ti Tg tt te) (gN i0))):=by
 refine o6 (znN hN hi0 hx S hc hi hg ht he hs hsw hf) λD σ H h=> ?_;obtain⟨A,env,st,Q3,xo,h,k⟩:=iQ h;exact zjc ⟨A,env,st,Q3,xo,h,λA1 H1 xm r v g s e q=>iS (k A1 H1 xm r v g s e q)⟩
theorem zoj {yn xq iter:Expr}{yl:List Expr}{pos spos pos':di}{i0:Nat}{x:Str}(S:oJ X scope N' own)(hN:X.N.Nodup)(hi0:X.N[i0]?=some x)(hx:rP X.env.scope x)(hc:X.calm=true)(hi:PI X xq iter (qO X.K Ti))
  (hg: ∀C s H fp mt,PG 1#3 xq (sD X.K Tg)) (ht: ∀C s H fp mt,PF 1#3 yl (yY X.K tt)) (he: ∀C s H fp mt,PE 1#3 yn (zV X.K te))
  (hs: ∀x,foldedSetIterable iter X.env x=pure x:=by intro _;rfl) (hsw:swapsWith 9#2 (some (.Name x pos')) spos.line X.env=pure true:=by rfl)
  (hf:X.fn x=true∨X.env.scope.names.lookup x=some .local:=by first | exact .inl rfl | exact .inr rfl | assumption):
  PS X (.Assign [.Name x pos'] 9#2 spos) (xH X.K (nV (zhB own.length Ti Tg tt te) (gN i0))):=by
 refine o6 (znN hN hi0 hx S hc hi hg ht he hs hsw hf) λD σ H h=> ?_;obtain⟨A,env,st,Q3,xo,h,k⟩:=iQ h;exact zrP ⟨A,env,st,Q3,xo,h,λA1 H1 xm r v g s e q=>iS (k A1 H1 xm r v g s e q)⟩
end
def jI (a b c d e:Bool)(n:String):Option Bool:=if n= "int" then some a else if n= "bool" then some b else if n= "str" then some c else if n= 22#1 then some d else if n= 9#1 then some e else none
def uF:PV->String->Option Bool
 | .bl _,n=>jI true true false false false n
 | .int _,n=>jI true false false false false n
 | .str _,n=>jI false false true false false n
 | .tup _,n=>jI false false false true false n
 | .lst _,n=>jI false false false false true n
 | _,_=>none
theorem eE {a b c d e r:Bool}{n:String}(h:jI a b c d e n=some r):(n= "int" /\r=a)∨(n= "bool" /\r=b)∨(n= "str" /\r=c)∨(n= 22#1 /\r=d)∨(n= 9#1 /\r=e):=by
 unfold jI at h;by_cases h1:n= "int"
 ·rw[if_pos h1]at h;cases h;exact .inl ⟨h1,rfl⟩
 rw[if_neg h1]at h;by_cases h2:n= "bool"
 ·rw[if_pos h2]at h;cases h;exact .inr (.inl ⟨h2,rfl⟩)
 rw[if_neg h2]at h;by_cases h3:n= "str"
 ·rw[if_pos h3]at h;cases h;exact .inr (.inr (.inl ⟨h3,rfl⟩))
 rw[if_neg h3]at h;by_cases h4:n= 22#1
 ·rw[if_pos h4]at h;cases h;exact .inr (.inr (.inr (.inl ⟨h4,rfl⟩)))
 rw[if_neg h4]at h;by_cases h5:n= 9#1
 ·rw[if_pos h5]at h;cases h;exact .inr (.inr (.inr (.inr ⟨h5,rfl⟩)))
 rw[if_neg h5]at h;cases h
def eZ:zT:=λxs st Q=>match xs with | [x,.ty n]=>(match uF x n with | some b=>Q (.bl b) st | none=>False) | _=>False
section
variable {X:Cx} {mt:List (aa×aj)} {σ:St} {H:Hp} {s:ag} {A:List aa}
theorem ztw {Q:VK}{x:PV}{n:String}{b:Bool}{vv:ad}(I:z9 X mt σ H s)(kx:Kd s x vv)(h:uF x n=some b)(q:Q (.bl b) H):av 3#2 X.A (call (.builtin "isinstance") [vv,.type n]) 2#5 X.xe s:=by
 cases kx with
 | bl=>
  rcases eE h with⟨rfl,rfl⟩ | ⟨rfl,rfl⟩ | ⟨rfl,rfl⟩ | ⟨rfl,rfl⟩ | ⟨rfl,rfl⟩
  ·exact IsiPair.bool_int ⟨.bl true,H,I,rfl,q⟩
  ·exact IsiPair.bool_bool ⟨.bl true,H,I,rfl,q⟩
  ·exact IsiPair.bool_str ⟨.bl false,H,I.tok _,rfl,q⟩
  ·exact IsiPair.bool_tuple ⟨.bl false,H,I.tok _,rfl,q⟩
  ·exact IsiPair.bool_list ⟨.bl false,H,I.tok _,rfl,q⟩
 | int=>
  rcases eE h with⟨rfl,rfl⟩ | ⟨rfl,rfl⟩ | ⟨rfl,rfl⟩ | ⟨rfl,rfl⟩ | ⟨rfl,rfl⟩
  ·exact IsiPair.int_int ⟨.bl true,H,I,rfl,q⟩
  ·exact IsiPair.int_bool ⟨.bl false,H,I.tok _,rfl,q⟩
  ·exact IsiPair.int_str ⟨.bl false,H,I.tok _,rfl,q⟩
  ·exact IsiPair.int_tuple ⟨.bl false,H,I.tok _,rfl,q⟩
  ·exact IsiPair.int_list ⟨.bl false,H,I.tok _,rfl,q⟩
 | str=>
  rcases eE h with⟨rfl,rfl⟩ | ⟨rfl,rfl⟩ | ⟨rfl,rfl⟩ | ⟨rfl,rfl⟩ | ⟨rfl,rfl⟩
  ·exact IsiPair.str_int ⟨.bl false,H,I.tok _,rfl,q⟩
  ·exact IsiPair.str_bool ⟨.bl false,H,I.tok _,rfl,q⟩
  ·exact IsiPair.str_str ⟨.bl true,H,I,rfl,q⟩
  ·exact IsiPair.str_tuple ⟨.bl false,H,I.tok _,rfl,q⟩
  ·exact IsiPair.str_list ⟨.bl false,H,I.tok _,rfl,q⟩
 | tup p=>
  rcases eE h with⟨rfl,rfl⟩ | ⟨rfl,rfl⟩ | ⟨rfl,rfl⟩ | ⟨rfl,rfl⟩ | ⟨rfl,rfl⟩
  ·obtain⟨o,e,c,_⟩:=id p;exact IsiPair.tuple_int e c ⟨.bl false,H,I.tok _,rfl,q⟩
  ·obtain⟨o,e,c,_⟩:=id p;exact IsiPair.tuple_bool e c ⟨.bl false,H,I.tok _,rfl,q⟩
  ·obtain⟨o,e,c,_⟩:=id p;exact IsiPair.tuple_str e c ⟨.bl false,H,I.tok _,rfl,q⟩
  ·obtain⟨o,e,c,_⟩:=id p;exact IsiPair.tuple_tuple e c ⟨.bl true,H,I,rfl,q⟩
  ·obtain⟨o,e,c,_⟩:=id p;exact IsiPair.tuple_list e c ⟨.bl false,H,I.tok _,rfl,q⟩
 | lst p=>
  rcases eE h with⟨rfl,rfl⟩ | ⟨rfl,rfl⟩ | ⟨rfl,rfl⟩ | ⟨rfl,rfl⟩ | ⟨rfl,rfl⟩
  ·obtain⟨o,e,c,_⟩:=id p;exact IsiPair.list_int e c ⟨.bl false,H,I.tok _,rfl,q⟩
  ·obtain⟨o,e,c,_⟩:=id p;exact IsiPair.list_bool e c ⟨.bl false,H,I.tok _,rfl,q⟩
  ·obtain⟨o,e,c,_⟩:=id p;exact IsiPair.list_str e c ⟨.bl false,H,I.tok _,rfl,q⟩
  ·obtain⟨o,e,c,_⟩:=id p;exact IsiPair.list_tuple e c ⟨.bl false,H,I.tok _,rfl,q⟩
  ·obtain⟨o,e,c,_⟩:=id p;exact IsiPair.list_list e c ⟨.bl true,H,I,rfl,q⟩
 | _=>cases h
theorem lW:vF X (.builtin "isinstance") (sE X.K eZ):=by
 intro mt s σ H vs us Q I rv ⟨A,st,xs,Q3,rs,ex,h,k⟩;unfold eZ at h
 split at h
 ·rename_i x n
  obtain⟨v,w,rfl,ex1,ey1⟩:=xC.two ex;have hw:w= .ty n:=by cases ey1 with | val e=>cases e;rfl
  subst hw;obtain⟨u1,u2,rfl,r1,r2⟩:=zhI rv;cases r2
  split at h
  ·rename_i b e
   have hd:yA x < 1000∨∃ys,x= .tup ys∨x= .lst ys:=by
    cases x with
    | tup ys=>exact .inr ⟨ys,.inl rfl⟩
    | lst ys=>exact .inr ⟨ys,.inr rfl⟩
    | non=>cases e
    | bl b=>exact .inl (by unfold yA;decide)
    | int b=>exact .inl (by unfold yA;decide)
    | str b=>exact .inl (by unfold yA;decide)
    | _=>cases e
   have q:=k.now rs (.val (.bl b)) h;refine ztw I ?_ e q;rcases hd with hd | ⟨ys,rfl | rfl⟩
   ·exact mS I (ex1.rv (eK hd)) r1 hd
   ·cases ex1 with | val e=>cases e with | tup t z r=>cases r1;obtain⟨xn,_,p,_⟩:=I.tuple t.sq;exact .tup p
   ·cases ex1 with | val e=>cases e with | lst t z r=>cases r1;obtain⟨xn,_,p,_⟩:=I.list t.sq;exact .lst p.isList
  ·exact h.elim
 ·exact h.elim
def zaq:zT:=λxs st Q=>match xs with | [.int i]=>Q 1#5 st | [.bl b]=>Q (.int (if b then 1 else 0)) st | _=>False
theorem zuY:vF X (.type "int") (sE X.K zaq):=by
 intro mt s σ H vs us Q I rv ⟨A,st,xs,Q3,rs,ex,h,k⟩;unfold zaq at h
 split at h
 ·obtain⟨v,rfl,ex1⟩:=xC.one ex
  cases wC ex1;exact ziZ mt s σ H _ us Q I rv (.inl ⟨_,rfl,k.now rs (.val (.int _)) h⟩)
 ·obtain⟨v,rfl,ex1⟩:=xC.one ex
  cases ziU ex1;exact ziZ mt s σ H _ us Q I rv (.inr ⟨_,rfl,k.now rs (.val (.int _)) h⟩)
 ·exact h.elim
def zgH:zT:=λxs st Q=>match xs with | [.int i,.int j]=>Q (.int (if j < i then j else i)) st | _=>False
def zgG:zT:=λxs st Q=>match xs with | [.int i,.int j]=>Q (.int (if j > i then j else i)) st | _=>False
theorem zvd (hc:X.calm=true):vF X (.builtin "min") (sE X.K zgH):=by
 intro mt s σ H vs us Q I rv ⟨A,st,xs,Q3,rs,ex,h,k⟩;unfold zgH at h
 split at h
 ·obtain⟨v,w,rfl,ex1,ey1⟩:=xC.two ex
  cases wC ex1;cases wC ey1;exact zrI hc mt s σ H _ us Q I rv ⟨_,_,rfl,k.now rs (.val (.int _)) h⟩
 ·exact h.elim
theorem zvc (hc:X.calm=true):vF X (.builtin "max") (sE X.K zgG):=by
 intro mt s σ H vs us Q I rv ⟨A,st,xs,Q3,rs,ex,h,k⟩;unfold zgG at h
 split at h
 ·obtain⟨v,w,rfl,ex1,ey1⟩:=xC.two ex
  cases wC ex1;cases wC ey1;exact zrH hc mt s σ H _ us Q I rv ⟨_,_,rfl,k.now rs (.val (.int _)) h⟩
 ·exact h.elim
theorem zo1 {K:Frag} : ∀{bs:List Bool} {vs:List V},RVs K A H (bs.map PV.bl) vs->vs=bs.map V.bl
 | [],_,.nil=>rfl
 | b::bs,_,.cons r t=>by cases r;rw[zo1 t];rfl
theorem zay {K:Frag} : ∀{bs:List Str} {vs:List V},RVs K A H (bs.map PV.str) vs->vs=bs.map V.str
 | [],_,.nil=>rfl
 | b::bs,_,.cons r t=>by cases r;rw[zay t];rfl
theorem zoV {K:Frag} : ∀(bs:List Str),RVs K A H (bs.map PV.str) (bs.map V.str)
 | []=> .nil
 | b::bs=> .cons (.str b) (zoV bs)
theorem zlY {K:Frag} : ∀(bs:List Int),RVs K A H (bs.map PV.int) (bs.map V.int)
 | []=> .nil
 | b::bs=> .cons (.int b) (zlY bs)
def rE:PV->z7->Option (List PV)
 | .lst xs,_=>some xs
 | .obj i,st=>(match st[i]? with | some 2#4=>some xs | _=>none)
 | _,_=>none
theorem jK {st:z7}{x:PV}{v:V}{xs:List PV}(rs:RS X.K A H st)(ex:RE X.K A H x v)(h:rE x st=some xs): ∃a vs,v= .ref a/\xA X.K H a vs/\RVs X.K A H xs vs/\vs.length<=am:=by
 cases ex with
 | val e=>
  cases e with
  | lst t z r=>cases h;exact⟨_,_,rfl,t.sq,r,z⟩
  | _=>cases h
 | obj eo=>
  dsimp only[rE]at h
  split at h
  ·rename_i q
   cases h;obtain⟨vs,h1,r,z⟩:=rs.at_ _ _ _ eo q;exact⟨_,_,rfl,.of h1,r,z⟩
  ·cases h
def zg8:zT:=λxs st Q=>match xs with | [x]=> ∃bs:List Bool,rE x st=some (bs.map PV.bl)/\Q (.bl (bs.all id)) st | _=>False
theorem zmV (hc:X.calm=true):vF X (.builtin "all") (sE X.K zg8):=by
 intro mt s σ H vs us Q I rv ⟨A,st,xs,Q3,rs,ex,h,k⟩;unfold zg8 at h
 split at h
 ·obtain⟨v,rfl,ex1⟩:=xC.one ex
  obtain⟨bs,e,h⟩:=h;obtain⟨a,ws,rfl,hs,r,z⟩:=jK rs ex1 e;cases zo1 r;exact zrD hc mt s σ H _ us Q I rv ⟨a,bs,rfl,hs,k.now rs (.val (.bl _)) h⟩
 ·exact h.elim
def nJ:zK->PV
 | .inl i=> .int i
 | .inr z=> .str z
def nI:PV->z7->Option (List PV)
 | .lst xs,_=>some xs
 | .tup xs,_=>some xs
 | .obj i,st=>(match st[i]? with | some 2#4=>some xs | some 4#5=>some 1#7 | _=>none)
 | .dct kvs,_=>some 1#7
 | _,_=>none
def zgF:zT:=λxs st Q=>match xs with | [x]=>(match nI x st with | some ys=>Q (.lst ys) st | none=>False) | _=>False
def zxB:zT:=λxs st Q=>match xs with | [x]=>(match nI x st with | some ys=>Q 0#5 (st++ [.lst ys]) | none=>False) | _=>False
theorem zfP {K:Frag} : ∀{kvs:List (zK×PV)} {us:List (zK×V)},RKs K A H kvs us->RVs K A H 1#7 (us.map λq=>kV q.1)
 | _,_,.nil=> .nil
 | _,_,.cons (k:=k) r t=>by
  rw[cc,cc];refine .cons ?_ (zfP t);cases k with
  | inl i=>exact .int i
  | inr z=>exact .str z
theorem ztT (hc:X.calm=true){vs:List V}{us:List ad}{Q:VK}{st:z7}{x:PV}{ys:List PV}{v:V}(I:z9 X mt σ H s)(rv:zR [v] us)(rs:RS X.K A H st)(ex1:RE X.K A H x v)(e:nI x st=some ys)
  (k: ∀ws,RVs X.K A H ys ws->ws.length<=am->∀p,H p=none->Q (.ref p) (zN H p (.lst ws))):av 3#2 X.A (call (.type 9#1) us) 2#5 X.xe s:=by
 cases ex1 with
 | val e1=>
  cases e1 with
  | lst t z r=>cases e;exact zbR mt s σ H _ us Q I rv ⟨_,_,rfl,.inl t.sq,k _ r z⟩
  | tup t z r=>cases e;exact zbR mt s σ H _ us Q I rv ⟨_,_,rfl,.inr t.sq,k _ r z⟩
  | dct t z r=>cases e;exact zja hc mt s σ H _ us Q I rv ⟨_,_,rfl,t.1,k _ (zfP r) (by rw[ah];exact z)⟩
  | _=>cases e
 | obj eo=>
  dsimp only[nI]at e
  split at e
  ·rename_i q
   cases e;obtain⟨ws,h1,r,z⟩:=rs.at_ _ _ _ eo q;exact zbR mt s σ H _ us Q I rv ⟨_,_,rfl,.inl (.of h1),k _ r z⟩
  ·rename_i q
   cases e;obtain⟨ws,h1,r,z⟩:=rs.at_ _ _ _ eo q;exact zja hc mt s σ H _ us Q I rv ⟨_,_,rfl,h1,k _ (zfP r) (by rw[ah];exact z)⟩
  ·cases e
theorem zmY (hc:X.calm=true):vF X (.type 9#1) (sE X.K zgF):=by
 intro mt s σ H vs us Q I rv ⟨A,st,xs,Q3,rs,ex,h,k⟩;unfold zgF at h
 split at h
 ·obtain⟨v,rfl,ex1⟩:=xC.one ex
  split at h
  ·rename_i ys e
   exact ztT (vs:= []) hc I rv rs ex1 e λws r z=>k.lst rs r z h
  ·exact h.elim
 ·exact h.elim
def zzN:zE:=λ_ st Q=>Q 0#5 (st++ [.dct []])
end
def nH:PV->z7->String
 | .lst _,_=> 9#1
 | .dct _,_=> "dict"
 | .str _,_=> "str"
 | .obj i,st=>(match st[i]? with | some (.lst _)=> 9#1 | some (.dct _)=> "dict" | _=> "")
 | _,_=> ""
def mH (K:Frag)(R:PV->zT):V->List V->Hp->VK->Prop:=λv vs H Q=> ∃A st x xs Q3,RS K A H st/\RE K A H x v/\xC K A H xs vs/\R x xs st Q3/\vQ K A H Q3 Q
def vBM (T:String)(R:PV->zT)(To:zE)(TA:yC):zE:=λenv st Q=>To env st λx xm=>nH x xm=T/\TA env xm λxs xr=>R x xs xr Q
def zp0 (T:String)(R:PV->zT)(To:zE):zE:=λenv st Q=>To env st λx xm=>nH x xm=T/\R x [] xm Q
section
variable {X:Cx} {o e:Expr} {es:List Expr} {xz xy:di} {To:zE} {TA:yC} {T id:String} {name:Str} {R:PV->zT}
theorem zpy {K:Frag}{A:List aa}{H:Hp}{st:z7}{x:PV}{v:V}(rs:RS K A H st)(ex:RE K A H x v)(h:nH x st=T)(hT:T≠ ""):tyV K T v H:=by
 subst h;cases ex with
 | val e=>
  cases e with
  | lst t z r=>exact .inl ⟨rfl,_,t.sq⟩
  | dct t z r=>exact .inr (.inr (.inl ⟨rfl,.inl ⟨_,t.1⟩⟩))
  | str z=>exact rfl
  | _=>exact absurd rfl hT
 | obj eo=>
  dsimp only[nH]at hT⊢
  split
  ·rename_i q
   obtain⟨vs,h1,r,z⟩:=rs.at_ _ _ _ eo q;exact .inl ⟨rfl,_,.of h1⟩
  ·rename_i q
   obtain⟨vs,h1,r,z⟩:=rs.at_ _ _ _ eo q;exact .inr (.inr (.inl ⟨rfl,.inl ⟨_,h1⟩⟩))
  ·exfalso
   split at hT
   ·rename_i n1 n2 _ _ q;exact n1 _ q
   ·rename_i n1 n2 _ _ q;exact n2 _ q
   ·exact hT rfl
theorem vE (pa:PlainAttrs T)(slot:Slot T name id)(hty:typeOf (.builtin id)=pure (.type "method_descriptor"))(hT:T≠ "")(hm:sW X id (mH X.K R))(ho:PE X o (zV X.K To))(ha:PA X (e::es) (wU X.K TA))
  (yh:attributeBase o name X.env (eval o X.env)=eval o X.env:=by rfl)
  (hfew:((backTo xy (starEach (e::es) X.env)).all (λx=> !x.1)&&(backToKw xy (keywordEach [] X.env)).all (λx=>x.1.isSome)
   &&decide ((e::es).length+([]:List Keyword).length+(if([]:List Keyword).isEmpty then 0 else 1) < 30))=true:=by rfl)
  (yg:(xz.endLine==xy.line)=true:=by rfl) (hs:starEach (e::es) X.env=8#2::starEach es X.env:=by rfl) (hplain:(backTo xy 3#3).any (·.1)=false:=by rfl):
  PE X (.Call (.Attribute o name xz) (e::es) [] xy) (zV X.K (vBM T R To TA)):=
 vI (zam pa slot hty hm ho ha yh hfew yg hs hplain) λσ H Q ⟨A,env,st,Q3,xo,h,k⟩=>⟨A,env,st,_,xo,h,λA1 H1 xm x v g1 s1 e1 h1=>⟨zpy s1 e1 h1.1 hT,A1,env,xm,_,xo.grow g1 s1,h1.2,λA2 H2 xr xs vs g2 s2 e2 h2=>
  ⟨A2,xr,x,xs,Q3,s2,e1.grow g2,e2,h2,k.after (g1.trans g2)⟩⟩⟩
theorem zxo (pa:PlainAttrs T)(slot:Slot T name id)(hty:typeOf (.builtin id)=pure (.type "method_descriptor"))(hT:T≠ "")(hm:sW X id (mH X.K R))(ho:PE X o (zV X.K To))
  (yh:attributeBase o name X.env (eval o X.env)=eval o X.env:=by rfl) (yg:(xz.endLine==xy.line)=true:=by rfl):PE X (.Call (.Attribute o name xz) [] [] xy) (zV X.K (zp0 T R To)):=
 vI (zwk pa slot hty hm ho yh yg) λσ H Q ⟨A,env,st,Q3,xo,h,k⟩=>⟨A,env,st,_,xo,h,λA1 H1 xm x v g1 s1 e1 h1=>⟨zpy s1 e1 h1.1 hT,A1,xm,x,[],Q3,s1,e1,.nil,h1.2,k.after g1⟩⟩
def zg9:PV->zT:=λx xs st Q=>match x,xs with
 | .obj i,[y]=>(match st[i]? with | some (.lst zs)=>xJ y=true/\zs.length < am/\Q .non (st.set i (.lst (zs++ [y]))) | _=>False)
 | _,_=>False
theorem nK:sW X "list.append" (mH X.K zg9):=by
 intro mt s σ H v vs vv us Q I rv rvs ⟨A,st,x,xs,Q3,rs,ex,exs,h,k⟩;unfold zg9 at h
 split at h
 ·rename_i i y
  obtain⟨w,rfl,ey⟩:=xC.one exs;cases ex with
  | val e=>cases e
  | obj eo=>
   have hm:=bf eo
   split at h
   ·rename_i zs q
    obtain⟨ws,h1,r,z⟩:=rs.at_ _ _ _ eo q;obtain⟨hn,hl,h⟩:=h;rw[r.len]at hl;refine zaa mt s σ H _ _ vv us Q I rv rvs ⟨_,ws,w,rfl,rfl,h1,hl,k A _ _ _ _ (.put hm) (rs.put (q:= .lst (zs++ [y])) eo ⟨_,xR,(r.grow (.put hm)).append (.cons ((ey.rv hn).grow (.put hm)) .nil),?_⟩) (.val .non) h⟩;rw[af,gf];exact hl
   ·exact h.elim
 ·exact h.elim
def zgA:PV->zT:=λx xs st Q=>match x,xs with
 | .obj i,[.lst ys]=>(match st[i]? with | some (.lst zs)=>zs.length+ys.length<=am/\Q .non (st.set i (.lst (zs++ys))) | _=>False)
 | _,_=>False
theorem zaf:sW X "list.extend" (mH X.K zgA):=by
 intro mt s σ H v vs vv us Q I rv rvs ⟨A,st,x,xs,Q3,rs,ex,exs,h,k⟩;unfold zgA at h
 split at h
 ·rename_i i ys
  obtain⟨w,rfl,ey⟩:=xC.one exs;cases ex with
  | val e=>cases e
  | obj eo=>
   have hm:=bf eo
   split at h
   ·rename_i zs q
    obtain⟨ws,hH,r,z⟩:=rs.at_ _ _ _ eo q;obtain⟨hl,h⟩:=h;cases ey with | val ey=>cases ey with | lst t z2 r2=>
     cases rv;obtain⟨u,rfl,ru⟩:=zR.one rvs;cases ru;obtain⟨zz,xn,n,rr,hl1,e⟩:=I.lstM hH;obtain⟨xu,n2,rr2,e2,_⟩:=I.listX t.sq;have hl2:=rr2.length;have e3:=r.len;have e4:=r2.len;have hsz:xn.toArray.size+xu.toArray.size<=am:=by rw[bj,bj];grobner
     have hlong: ¬ (!xn.toArray.isEmpty&&Builtin.List.listTooLong (xn.toArray.size+xu.toArray.size))=true:=by
      rw[zuW hsz,oy];exact cr
     refine ll F.slot_list_extend ⟨_,e,rfl⟩ F.entry_list_extend (F.args_list_extend_2 _ _)
      (AutoSeq1.list_extend_list_list_0 _ xn.toArray n _ xu.toArray n2 hlong (by rw[bj];grobner) 0#0) ⟨e,e2,?_⟩
     refine⟨.non,_,I.lset (its':=xn++xu) hH e 3#0 (rr.append rr2) ?_,rfl,k A _ _ _ _ (.put hm) (rs.put (q:= .lst (zs++ys)) eo ⟨_,xR,(r.grow (.put hm)).append (r2.grow (.put hm)),?_⟩) (.val .non) h⟩
     ·rw[af];grobner
     ·rw[af];grobner
   ·exact h.elim
 ·exact h.elim
def zgK:PV->zT:=λx xs st Q=>match x,xs with
 | .obj i,[]=>(match st[i]? with | some (.lst zs)=>(match zs.getLast? with | some y=>Q y (st.set i (.lst zs.dropLast)) | none=>False) | _=>False)
 | _,_=>False
theorem RVs.last {K:Frag}{A:List aa}{H:Hp}{xs:List PV}{vs:List V}{y:PV}(r:RVs K A H xs vs)(h:xs.getLast?=some y): ∃w,vs[vs.length - 1]?=some w/\RV K A H y w:=by
 rw[List.getLast?_eq_getElem?,r.len]at h;exact r.get h
theorem RVs.front {K:Frag}{A:List aa}{H:Hp}{xs:List PV}{vs:List V}(r:RVs K A H xs vs):RVs K A H xs.dropLast vs.dropLast:=by
 rw[uo,uo,r.len];exact r.take _
theorem zvf:sW X "list.pop" (mH X.K zgK):=by
 intro mt s σ H v vs vv us Q I rv rvs ⟨A,st,x,xs,Q3,rs,ex,exs,h,k⟩;unfold zgK at h
 split at h
 ·cases exs
  cases ex with
  | val e=>cases e
  | obj eo=>
   have hm:=bf eo
   split at h
   ·rename_i zs q
    obtain⟨ws,h1,r,z⟩:=rs.at_ _ _ _ eo q
    split at h
    ·rename_i y e
     obtain⟨w,ew,rw'⟩:=r.last e;refine zu2 mt s σ H _ _ vv us Q I rv rvs ⟨_,ws,w,rfl,rfl,h1,ew,k A _ _ _ _ (.put hm) (rs.put (q:= .lst zs.dropLast) eo ⟨_,xR,(r.front).grow (.put hm),?_⟩) (.val (rw'.grow (.put hm))) h⟩;rw[nk];grobner
    ·exact h.elim
   ·exact h.elim
 ·exact h.elim
def iU:PV->z7->Option (List (zK×PV))
 | .dct kvs,_=>some kvs
 | .obj i,st=>(match st[i]? with | some 4#5=>some kvs | _=>none)
 | _,_=>none
theorem zsd {K:Frag}{A:List aa}{H:Hp}{st:z7}{x:PV}{v:V}{kvs:List (zK×PV)}(rs:RS K A H st)(ex:RE K A H x v)(h:iU x st=some kvs): ∃a us,v= .ref a/\H a=some (.dK us)/\RKs K A H kvs us/\us.length<=am:=by
 cases ex with
 | val e=>
  cases e with
  | dct t z r=>cases h;exact⟨_,_,rfl,t.1,r,z⟩
  | _=>cases h
 | obj eo=>
  dsimp only[iU]at h
  split at h
  ·rename_i q
   cases h;obtain⟨vs,h1,r,z⟩:=rs.at_ _ _ _ eo q;exact⟨_,_,rfl,h1,r,z⟩
  ·cases h
def z4x:PV->zT:=λx xs st Q=>match iU x st,xs with
 | some kvs,[y]=>(match rD y with | some k=>Q ((tF kvs k).getD .non) st | none=>False)
 | some kvs,[y,z]=>(match rD y with | some k=>xJ z=true/\Q ((tF kvs k).getD z) st | none=>False)
 | _,_=>False
def gI:PV->zT:=λx xs st Q=>match x,xs with
 | .str sep,[y]=> ∃ss:List Str,rE y st=some (ss.map PV.str)/\(ss.map (·.length)).sum+ss.length * sep.length<=16777216/\Q (.str (Txt.join sep ss)) st
 | _,_=>False
theorem nM:sW X "str.join" (mH X.K gI):=by
 intro mt s σ H v vs vv us Q I rv rvs ⟨A,st,x,xs,Q3,rs,ex,exs,h,k⟩;unfold gI at h
 split at h
 ·obtain⟨w,rfl,ey⟩:=xC.one exs
  cases u8 ex;obtain⟨ss,e,hl,h⟩:=h;obtain⟨a,ws,rfl,hs,r,z⟩:=jK rs ey e;cases zay r;exact zu1 mt s σ H _ _ vv us Q I rv rvs ⟨_,a,ss,rfl,rfl,hs,hl,k.now rs (.val 7#4) h⟩
 ·exact h.elim
def sJ:PV->Bool
 | .non=>true
 | .bl _=>true
 | .int _=>true
 | .str _=>true
 | _=>false
def lS (x:PV)(ys:List PV):Bool:=ys.any λy=>yO y x
theorem zlD {K:Frag}{A:List aa}{H:Hp}{x:PV}{v:V}(r:RV K A H x v):r9 v=sJ x:=by
 cases r <;> rfl
theorem zlE {K:Frag}{A:List aa}{H:Hp} : ∀{xs:List PV} {vs:List V},RVs K A H xs vs->vs.all r9=xs.all sJ
 | _,_,.nil=>rfl
 | _,_,.cons r t=>by rw[jg,jg,zlD r,zlE t]
theorem zsr {K:Frag}{A:List aa}{H:Hp}{x y:PV}{v w:V}(r:RV K A H x v)(r2:RV K A H y w)(f:sJ x=true)(f2:sJ y=true):r0 v w=yO x y:=by
 cases r <;> first | (exact absurd f cr) | skip
 all_goals (cases r2 <;> first | (exact absurd f2 cr) | skip)
 all_goals (unfold r0 yO;rfl)
theorem zlX {K:Frag}{A:List aa}{H:Hp}{x:PV}{v:V}(r:RV K A H x v)(f:sJ x=true): ∀{xs:List PV} {vs:List V},RVs K A H xs vs->xs.all sJ=true->iZ v vs=lS x xs
 | _,_,.nil,_=>rfl
 | _,_,.cons r1 t,h=>by
  rw[jg,bv]at h;have ih:=zlX r f t h.2;unfold iZ lS at ih⊢
  rw[ir,ir,ih,zsr r1 r h.1 f]
def zhq:PV->z7->Option (List PV)
 | .tup xs,_=>some xs
 | .lst xs,_=>some xs
 | .obj i,st=>(match st[i]? with | some 2#4=>some xs | _=>none)
 | _,_=>none
def sN (neg:Bool):R3:=λx y st Q=>match zhq y st with
 | some xs=>(sJ x=true/\xs.all sJ=true)/\Q (.bl (if neg then !lS x xs else lS x xs)) st
 | none=>(match iU y st with
  | some kvs=>(match rD x with | some k=>Q (.bl (if neg then !(tF kvs k).isSome else(tF kvs k).isSome)) st | none=>False)
  | none=>(match x,y with | .str i,.str j=>Q (.bl (if neg then !(!(Builtin.Str.occurrences j i 0 j.length 1).isEmpty)else !(Builtin.Str.occurrences j i 0 j.length 1).isEmpty)) st | _,_=>False))
theorem zyr {K:Frag}{A:List aa}{H:Hp}{st:z7}{x:PV}{v:V}{xs:List PV}(rs:RS K A H st)(ex:RE K A H x v)(h:zhq x st=some xs): ∃a vs,v= .ref a/\(xA K H a vs∨xV K H a vs)/\RVs K A H xs vs:=by
 cases ex with
 | val e=>
  cases e with
  | lst t z r=>cases h;exact⟨_,_,rfl,.inl t.sq,r⟩
  | tup t z r=>cases h;exact⟨_,_,rfl,.inr t.sq,r⟩
  | _=>cases h
 | obj eo=>
  dsimp only[zhq]at h
  split at h
  ·rename_i q
   cases h;obtain⟨vs,h1,r,z⟩:=rs.at_ _ _ _ eo q;exact⟨_,_,rfl,.inl (.of h1),r⟩
  ·cases h
theorem zs_ {x:PV}(h:sJ x=true):xJ x=true:=by
 cases x <;> first | rfl | cases h
theorem o0 {k:Nat}(hr:zH k X.A):yW X (compareOp .In) (vU X.K (sN false)):=o4 λmt s σ H A st x y v w vv ww Q3 Q I rs ex ey rv rw h k=>by
 have hu:X.A.units+1 < cLine:=by have:=hr.units;grobner
 unfold sN at h
 split at h
 ·rename_i xs e
  obtain⟨a,ws,rfl,hs,r⟩:=zyr rs ey e;obtain⟨⟨f1,f2⟩,h⟩:=h;have ex':=ex.rv (zs_ f1);refine zvI mt s σ H _ _ vv ww Q I rv rw ⟨a,ws,rfl,hs,by rw[zlD ex'];exact f1,by rw[zlE r];exact f2,?_⟩;have e2:=zlX ex' f1 r f2;have:(if false=true then !iZ v ws else iZ v ws)=lS x xs:=by rw[if_neg cr,e2]
  rw[this];exact k.now rs (.val (.bl _)) h
 ·split at h
  ·rename_i kvs e
   obtain⟨a,us,rfl,h1,r,z⟩:=zsd rs ey e
   split at h
   ·rename_i kk ek
    cases rw;refine zsa hu I (.inl ⟨us,kk,.inl h1,aT ex ek,rfl⟩) rv λs' I'=>⟨.bl _,H,I',rfl,?_⟩;rcases r.val (k:=kk)with⟨x',v',e1,e2,r'⟩ | ⟨e1,e2⟩
    ·rw[e2];rw[e1]at h;exact k.now rs (.val (.bl _)) h
    ·rw[e2];rw[e1]at h;exact k.now rs (.val (.bl _)) h
   ·exact h.elim
  ·split at h
   ·cases u8 ex;cases u8 ey
    exact zvJ mt s σ H _ _ vv ww Q I rv rw ⟨_,_,rfl,rfl,k.now rs (.val (.bl _)) h⟩
   ·exact h.elim
end
theorem at0 {α:Type}{x:α}{xs:List α} :atI (x::xs) 0=some x:=qM (j:=0) rfl
theorem at1 {α:Type}{x y:α}{xs:List α} :atI (x::y::xs) 1=some y:=qM (j:=1) rfl
theorem at2 {α:Type}{x y z:α}{xs:List α} :atI (x::y::z::xs) 2=some z:=qM (j:=2) rfl
theorem at3 {α:Type}{x y z u:α}{xs:List α} :atI (x::y::z::u::xs) 3=some u:=qM (j:=3) rfl
theorem at4 {α:Type}{x y z u v:α}{xs:List α} :atI (x::y::z::u::v::xs) 4=some v:=qM (j:=4) rfl
theorem ix0 {n:Nat} :uH (n+1) 0=some 0:=by unfold uH;rw[if_pos 2#0,if_pos 0#0];rfl
theorem ix1 {n:Nat} :uH (n+2) 1=some 1:=by unfold uH;rw[if_pos 2#0,if_pos 0#0];rfl
theorem zz1 {α:Type}{st:List α} :st.take (st.length+0)=st:=3#0
theorem zpk {α:Type}{st:List α}{i:Nat}{x:α} :(st.set i x).take (st.length+0)=st.set i x:=by rw[Nat.add_zero,bq 3#0]
theorem set_set {α:Type}{st:List α}{i:Nat}{x y:α} :(st.set i x).set i y=st.set i y:=3#0
theorem zsR {α:Type}{st:List α}{i:Nat}{x y:α}(h:st[i]?=some y):(st.set i x)[i]?=some x:=df (ba.mp h).1
def jA (l:List (Str×Int)):PV:= .tup (l.map λq=> .tup [.str q.1,.int q.2])
theorem zsS {α:Type}{st:List α}{i:Nat}{x:α}(h:(st[i]?).isSome=true):(st.set i x)[i]?=some x:=by
 obtain⟨y,e⟩:=rq.mp h;exact zsR e
theorem zst {Q:K3}{st:z7}{x:PO} :wX (st.length+1) Q 0#5 (st++ [x])=Q 0#5 (st++ [x]):=by
 show(if st.length < st.length+1 then _ else _)=_;rw[if_pos (ia _),bq 3#0]
theorem zj_ {Q:K3}{st:z7}{xs:List PV} :wX (st.length+0) Q 0#5 (st++ [.lst xs])=Q 2#4 st:=by
 show(if st.length < st.length+0 then _ else _)=_;rw[if_neg 0#0];have:(st++ [PO.lst xs])[st.length]?=some 2#4:=3#0
 rw[this];simp
theorem zjA {Q:K3}{st:z7}{xs:List (zK×PV)} :wX (st.length+0) Q 0#5 (st++ [.dct xs])=Q (.dct xs) st:=by
 show(if st.length < st.length+0 then _ else _)=_;rw[if_neg 0#0];have:(st++ [PO.dct xs])[st.length]?=some (.dct xs):=3#0
 rw[this];simp
theorem ziJ {α:Type}(f:α->PV){ns:List α}{k:Int}(h0:0<=k)(h1:k < ns.length): ∃z∈ns,atI (ns.map f) k=some (f z):=by
 obtain⟨y,hy,e⟩:=zrl (ns.map f) h0 (by simpa using h1);obtain⟨z,hz,rfl⟩:=bt.mp hy;exact⟨z,hz,e⟩
theorem ztP {α:Type}{st:List α}{x:α} :(st++ [x])[st.length]?=some x:=3#0
theorem zys {α:Type}{st:List α}{x y:α} :(st++ [x]).set st.length y=st++ [y]:=3#0
theorem zpi {α:Type}{st:List α}{x:α} :(st++ [x]).take (st.length+0)=st:=3#0
theorem zz0 {α:Type}{st:List α}{x:α} :(st++ [x]).take (st.length+1)=st++ [x]:=by rw[bq 3#0]
theorem zms {α:Type}{e:List α}(h:e.length=1): ∃a,e= [a]:=List.length_eq_one_iff.mp h
theorem ztO {α:Type}{e:List α}(h:e.length=2): ∃a b,e= [a,b]:=by
 match e,h with
 | [a,b],_=>exact⟨a,b,rfl⟩
theorem zmt {α:Type}{e:List α}(h:e.length=3): ∃a b c,e= [a,b,c]:=by
 match e,h with
 | [a,b,c],_=>exact⟨a,b,c,rfl⟩
def CP (f:PV->Option PV)(own:Nat)(xs:List PV)(env:zI)(st:z7)(i:Nat)(ys:List PV)(xt:zI)(xp:z7):Prop:=ys=(xs.take i).filterMap f/\xp=st/\∃e',e'.length=own/\xt=env++e'
theorem qC {α:Type}{xs:List α}{i:Nat}{x:α}(h:xs[i]?=some x):xs.take (i+1)=xs.take i++ [x]:=by rw[xk,h];rfl
theorem CP.yes {f:PV->Option PV}{own:Nat}{xs:List PV}{env:zI}{st:z7}{i:Nat}{x y:PV}{e':zI}(h:xs[i]?=some x)(hf:f x=some y)(he:e'.length=own):CP f own xs env st (i+1) ((xs.take i).filterMap f++ [y]) (env++e') st:=by
 refine⟨?_,rfl,e',he,rfl⟩;rw[qC h,List.filterMap_append,jk,hf];rfl
theorem zjp {own:Nat}{g:wP}{tt:xL}{el:zE}{xs:List PV}{Q:List PV->z7->Prop}{env:zI}{st:z7}(f:PV->Option PV)
  (hs: ∀i x e,xs[i]?=some x->e.length=own->g x (env++e) st λe1 s1=>tt e1 s1 λb s2=>if b=true then el e1 s2 λy s3=>xJ y=true/\CP f own xs env st (i+1) ((xs.take i).filterMap f++ [y]) e1 s3 else CP f own xs env st (i+1) ((xs.take i).filterMap f) e1 s2)
  (hd:Q (xs.filterMap f) st):qF own g tt el none xs Q env st:=by
 refine⟨CP f own xs env st,⟨3#0,rfl,_,3#0,rfl⟩,?_,?_⟩
 ·rintro i x ys xt xp hx ⟨rfl,rfl,e',he,rfl⟩
  exact hs i x e' hx he
 ·rintro ys xt xp ⟨rfl,rfl,e',he,rfl⟩
  show Q _ _;rw[bq (aq _)];exact hd
theorem nB {g:wP}{b:xD}{ya:wS}{xs:List PV}{D:w5}{env:zI}{st:z7}(P:Nat->zI->z7->Prop)(h0:P 0 env st)
  (hs: ∀i x env st,xs[i]?=some x->P i env st->sP ya st (g x env st λe s=>b {D with nx:=P (i+1),ct:=P (i+1),bk:=D.nx} e s)) (hd: ∀env st,P xs.length env st->sP ya st (D.nx env st)):zbg g b ya xs D env st:=⟨P,h0,hs,hd⟩
theorem tL {α:Type}{f:α->PV}{l:List α}{i:Nat}{x:PV}(h:(l.map f)[i]?=some x): ∃y,l[i]?=some y/\x=f y:=by
 rw[dv]at h;cases e:l[i]? with
 | none=>rw[e]at h;cases h
 | some y=>rw[e]at h;exact⟨y,rfl,(ca h).symm⟩
theorem zjy {α:Type}{f:α->PV}{n:Nat}(h: ∀x,yA (f x)<=n): ∀(l:List α),dpts (l.map f)<=n
 | []=>by rw[kg];unfold dpts;exact db _
 | x::l=>by
  rw[cc];unfold dpts;exact Nat.max_le.mpr ⟨h x,zjy h l⟩
theorem zju (l:List (Str×Int)):yA (jA l)<=2:=by
 unfold jA yA;exact Nat.succ_le_succ (zjy (λq=>by simp[yA,dpts]) l)
theorem u7 {α:Type}{st:List α}{i:Nat}{x o:α}(h:i < st.length):(st++ [o]).set i x=st.set i x++ [o]:=by rw[uy _ _ h]
theorem zyq {t u:xD}{D:w5}{env:zI}{st:z7}(P:zI->z7->Prop)(h1: ∀N:zI->z7->Prop,(∀e s,P e s->N e s)->t {D with nx:=N} env st)(h2: ∀e s,P e s->u D e s):rG t u D env st:=h1 (u D) h2
theorem zj4:(∀{i j:Int},yO 1#5 (.int j)=(i==j))/\(∀{a b:Str},yO (.str a) (.str b)=(a==b))/\(∀{a b:Bool},yO (.bl a) (.bl b)=(a==b))/\(yO .non .non=true)/\(∀{a b:List PV},yO (.tup a) (.tup b)=eqPs a b)/\(∀{a b:List PV},yO (.lst a) (.lst b)=eqPs a b)/\(∀{i:Int},yO 1#5 .non=false)/\(∀{i:Str},yO (.str i) .non=false)/\(∀{i:List PV},yO (.tup i) .non=false)/\(∀{i:Int},yO .non 1#5=false)/\(∀{i:Str},yO .non (.str i)=false)/\(∀{i:List PV},yO .non (.tup i)=false)/\(∀{a:List PV} {b:Str},yO (.tup a) (.str b)=false)/\(∀{a:List PV} {b:Str},yO (.str b) (.tup a)=false)/\(eqPs [] []=true)/\(∀{x xs},eqPs (x::xs) []=false)/\(∀{x xs},eqPs [] (x::xs)=false)/\(∀{x xs y ys},eqPs (x::xs) (y::ys)=(yO x y&&eqPs xs ys)):=by
 refine⟨?_,?_,?_,?_,?_,?_,?_,?_,?_,?_,?_,?_,?_,?_,?_,?_,?_,?_⟩ <;> intros <;> first | rfl | (unfold yO;rfl) | (unfold eqPs;rfl)
theorem zjv:(yA .non=0)/\(∀{i},yA 1#5=0)/\(∀{i},yA (.str i)=0)/\(∀{i},yA (.bl i)=0)/\(∀{i},yA (.tup i)=dpts i+1)/\(∀{i},yA (.lst i)=dpts i+1)/\(dpts []=0)/\(∀{x xs},dpts (x::xs)=max (yA x) (dpts xs)):=by
 refine⟨?_,?_,?_,?_,?_,?_,?_,?_⟩ <;> intros <;> first | rfl | (unfold yA;rfl) | (unfold dpts;rfl)
theorem zjw (l:List (Str×Int)):yA (jA l)<=50:=cb (zju l) 2#0
theorem zjx (l:List (Str×Int)):yA (jA l) < 1000:=mj (zju l) 2#0
def zp_:xD:=λ_ _ _=>False
section
variable {X:Cx}
theorem sM {st:bw} :PS X st (xH X.K zp_):=o6 zwQ λD σ H ⟨A,env,s,D3,xo,h,k⟩=>h
def z0d (T:zE)(Tl:lG):zE:=λenv st Q=>T env st λx xm=>Tl env xm λl xr=>l=some (-1)/\(match x with | .lst xs=>Q (.lst xs.reverse) xr | _=>False)
end
section
variable {α:Type} [DecidableEq α]
def lcp:List α->List α->Nat
 | x::xs,y::ys=>if x=y then lcp xs ys+1 else 0
 | _,_=>0
def oY (xs ys:List α):Nat:=lcp xs ys
def chE (xs ys:List α):Nat:=lcp (xs.drop (oY xs ys)).reverse (ys.drop (oY xs ys)).reverse
def bZ (xs ys:List α):List α:=(ys.take (ys.length - chE xs ys)).drop (oY xs ys)
end
section
variable {α:Type} [DecidableEq α]
def jC (xs ys:List α):Nat:=xs.length - chE xs ys
def both (w:List α)(a b:Nat)(u:List α)(c d:Nat)(v:List α):List α:=w.take a++u++(w.take c).drop b++v++w.drop d
def z4y (w m y:List α):Option (List α):=
 if y=w then some m else if m=w∨m=y then some y else
 if decide (jC w m<=oY w y)=decide (jC w y<=oY w m)then none else
 if jC w m<=oY w y then some (both w (oY w m) (jC w m) (bZ w m) (oY w y) (jC w y) (bZ w y))
 else some (both w (oY w y) (jC w y) (bZ w y) (oY w m) (jC w m) (bZ w m))
end
section
variable {X:Cx}
def z0h (T:zE):zE:=λenv st Q=>T env st λx xm=>match x with | .tup xs=>Q (.tup xs.reverse) xm | _=>False
end
section
variable {X:Cx} {a b c:Expr} {pos:di} {Tx:yC}
def zzY (i j l:Nat)(T:yC):xD:=λD env st=>T env st λxs xm=>match xs with | [x,y,z]=>D.nx (((env.set l (some z)).set j (some y)).set i (some x)) xm | _=>False
end
set_option smartUnfolding false
def uP {α:Type}(o:Option α)(F:α->Prop):Prop:=match o with | some x=>F x | none=>False
section
variable {i j:Int} {a b:Str} {xs ys zs:List PV} {x y z:PV} {n m:Nat} {st:z7} {Q:K3} {p q:Bool} {kvs:List (zK×PV)} {env:zI}
@[simp] theorem z0R:kH 1#5 (.int j) st Q=Q (.int (i+j)) st:=rfl
@[simp] theorem z0T:kH (.str a) (.str b) st Q=(a.length+b.length<=am/\Q (.str (a++b)) st):=rfl
@[simp] theorem z0U:kH 2#6 (.tup ys) st Q=(xs.length+ys.length<=am/\Q (.tup (xs++ys)) st):=rfl
@[simp] theorem z0S:kH 2#4 (.lst ys) st Q=(xs.length+ys.length<=am/\Q (.lst (xs++ys)) st):=rfl
@[simp] theorem z3i:zgP 1#5 (.int j) st Q=Q (.int (i - j)) st:=rfl
@[simp] theorem z2t:zas 1#5 (.int j) st Q=(((-(2 ^ 64) < i/\i < 2 ^ 64)∨(-(2 ^ 64) < j/\j < 2 ^ 64))/\Q (.int (i * j)) st):=rfl
@[simp] theorem z2u:zas (.str a) 1#5 st Q=(if i=0 then Q (.str Str.empty) st else i=1/\Q (.str a) st):=rfl
@[simp] theorem z2s:zgI 1#5 (.int j) st Q=(0 < j/\Q (.int (i % j)) st):=rfl
@[simp] theorem z1j:zg_ 1#5 (.int j) st Q=((0 < j/\j < 1099511627776)/\Q (.int (i / j)) st):=rfl
@[simp] theorem z2N:zgL 1#5 (.int j) st Q=(c9 i j/\Q (.int (i ^ j.toNat)) st):=rfl
@[simp] theorem z2w:zgJ 1#5 st Q=Q (.int (-i)) st:=rfl
@[simp] theorem z1f {f:Int->Int->Bool} :jR f 1#5 (.int j) st Q=Q (.bl (f i j)) st:=rfl
@[simp] theorem z1D:zx7 x .non st Q=Q (.bl (qR x)) st:=rfl
@[simp] theorem z27:zxE x .non st Q=Q (.bl (!qR x)) st:=rfl
@[simp] theorem z2x:qR .non=true:=rfl
@[simp] theorem z20:qR 1#5=false:=rfl
@[simp] theorem z23:qR (.str a)=false:=rfl
@[simp] theorem z2y:qR (.bl p)=false:=rfl
@[simp] theorem z24:qR 2#6=false:=rfl
@[simp] theorem z21:qR 2#4=false:=rfl
@[simp] theorem z2z:qR 4#5=false:=rfl
@[simp] theorem z22:qR (.obj n)=false:=rfl
@[simp] theorem z2e:rD 1#5=some (.inl i):=rfl
@[simp] theorem z2f:rD (.str a)=some (.inr a):=rfl
def ixO (o:Option PO)(y:PV)(st:z7)(Q:K3):Prop:=match o with
 | some 2#4=>(match y with | .int i=>uP (atI xs i) λz=>Q z st | _=>False)
 | some 4#5=>uP (rD y) λk=>uP (tF kvs k) λz=>Q z st
 | _=>False
@[simp] theorem z2c:kJ 2#6 1#5 st Q=uP (atI xs i) λz=>Q z st:=rfl
@[simp] theorem z1V:kJ 2#4 1#5 st Q=uP (atI xs i) λz=>Q z st:=rfl
@[simp] theorem z2b:kJ (.str a) 1#5 st Q=(a.length<=am/\uP (atI a.cps.toList i) λc=>Q (.str ⟨#[c]⟩) st):=rfl
@[simp] theorem z1T:kJ 4#5 y st Q=uP (rD y) λk=>uP (tF kvs k) λz=>Q z st:=rfl
@[simp] theorem z1X:kJ (.obj n) y st Q=ixO st[n]? y st Q:=rfl
@[simp] theorem z1Z:ixO (some 2#4) 1#5 st Q=uP (atI xs i) λz=>Q z st:=rfl
@[simp] theorem z1Y:ixO (some 4#5) y st Q=uP (rD y) λk=>uP (tF kvs k) λz=>Q z st:=rfl
def zhs (o:Option PO)(n:Nat)(i v:PV)(st:z7)(Q:z7->Prop):Prop:=match o with
 | some 2#4=>(match i with | .int k=>xJ v=true/\uP (uH xs.length k) λj=>Q (st.set n (.lst (xs.set j v))) | _=>False)
 | some 4#5=>uP (rD i) λk=>xJ v=true/\kvs.length < am/\Q (st.set n (.dct (k6 kvs k v)))
 | _=>False
@[simp] theorem z2V {Q:z7->Prop} :dA (.obj n) x y st Q=zhs st[n]? n x y st Q:=rfl
@[simp] theorem z2X {Q:z7->Prop} :zhs (some 2#4) n 1#5 y st Q=(xJ y=true/\uP (uH xs.length i) λj=>Q (st.set n (.lst (xs.set j y)))):=rfl
@[simp] theorem z2W {Q:z7->Prop} :zhs (some 4#5) n x y st Q=uP (rD x) λk=>xJ y=true/\kvs.length < am/\Q (st.set n (.dct (k6 kvs k y))):=rfl
@[simp] theorem z3a {l h:Option Int} :jS 2#6 l h st Q=Q (.tup (qP xs l h)) st:=rfl
@[simp] theorem z2Y {l h:Option Int} :jS 2#4 l h st Q=Q (.lst (qP xs l h)) st:=rfl
@[simp] theorem z2Z {l h:Option Int} :jS (.str a) l h st Q=(a.length<=am/\((Txt.slice a l h).length<=a.length->Q (.str (Txt.slice a l h)) st)):=rfl
def zfU (o:Option PO)(k:Nat->Prop):Prop:=match o with | some 2#4=>k xs.length | some 4#5=>k kvs.length | _=>False
@[simp] theorem z2h:zgE [x] st Q=jJ x st λn=>Q (.int n) st:=rfl
@[simp] theorem z2n {k:Nat->Prop} :jJ 2#6 st k=k xs.length:=rfl
@[simp] theorem z2i {k:Nat->Prop} :jJ 2#4 st k=k xs.length:=rfl
@[simp] theorem z2m {k:Nat->Prop} :jJ (.str a) st k=(a.length<=am/\k a.length):=rfl
@[simp] theorem z2j {k:Nat->Prop} :jJ (.obj n) st k=zfU st[n]? k:=rfl
@[simp] theorem z2l {k:Nat->Prop} :zfU (some 2#4) k=k xs.length:=rfl
@[simp] theorem z2k {k:Nat->Prop} :zfU (some 4#5) k=k kvs.length:=rfl
def zpv (o:Option PO)(st:z7)(Q:K3):Prop:=match o with | some (.lst ys)=>Q (.tup ys) st | _=>False
@[simp] theorem z3l:dB [.lst ys] st Q=Q (.tup ys) st:=rfl
@[simp] theorem z3o:dB [.tup ys] st Q=Q (.tup ys) st:=rfl
@[simp] theorem z3m:dB [.obj n] st Q=zpv st[n]? st Q:=rfl
@[simp] theorem z3n:zpv (some (.lst ys)) st Q=Q (.tup ys) st:=rfl
def zh8 (o:Option PO)(st:z7)(Q:K3):Prop:=match o with | some (.lst ys)=>Q (.tup ys) st | some 4#5=>Q (.tup (kvs.map λq=>match q.1 with | .inl i=> .int i | .inr z=> .str z)) st | _=>False
@[simp] theorem z31:zgQ [.lst ys] st Q=Q (.tup ys) st:=rfl
@[simp] theorem z35:zgQ [.tup ys] st Q=Q (.tup ys) st:=rfl
@[simp] theorem z32:zgQ [.obj n] st Q=zh8 st[n]? st Q:=rfl
@[simp] theorem z34:zh8 (some (.lst ys)) st Q=Q (.tup ys) st:=rfl
@[simp] theorem z33:zh8 (some 4#5) st Q=Q (.tup (kvs.map λq=>match q.1 with | .inl i=> .int i | .inr z=> .str z)) st:=rfl
@[simp] theorem z1M {t:String} :eZ [x,.ty t] st Q=uP (uF x t) λb=>Q (.bl b) st:=rfl
@[simp] theorem z12:uF (.bl p) "int" =some true:=rfl
@[simp] theorem z13:uF (.bl p) "bool" =some true:=rfl
@[simp] theorem z14:uF (.bl p) "str" =some false:=rfl
@[simp] theorem z15:uF (.bl p) 22#1 =some false:=rfl
@[simp] theorem z16:uF (.bl p) 9#1 =some false:=rfl
@[simp] theorem z17:uF 1#5 "int" =some true:=rfl
@[simp] theorem z18:uF 1#5 "bool" =some false:=rfl
@[simp] theorem z19:uF 1#5 "str" =some false:=rfl
@[simp] theorem z1_:uF 1#5 22#1 =some false:=rfl
@[simp] theorem z1A:uF 1#5 9#1 =some false:=rfl
@[simp] theorem z1E:uF (.str a) "int" =some false:=rfl
@[simp] theorem z1F:uF (.str a) "str" =some true:=rfl
@[simp] theorem z1G:uF (.str a) 22#1 =some false:=rfl
@[simp] theorem z1H:uF 2#6 "int" =some false:=rfl
@[simp] theorem z1I:uF 2#6 "str" =some false:=rfl
@[simp] theorem z1J:uF 2#6 22#1 =some true:=rfl
@[simp] theorem z1K:uF 2#6 9#1 =some false:=rfl
@[simp] theorem z1B:uF 2#4 22#1 =some false:=rfl
@[simp] theorem z1C:uF 2#4 9#1 =some true:=rfl
@[simp] theorem z10:zaq [.int i] st Q=Q 1#5 st:=rfl
@[simp] theorem z1z:zaq [.bl p] st Q=Q (.int (if p then 1 else 0)) st:=rfl
@[simp] theorem z2r:zgH [.int i,.int j] st Q=Q (.int (if j < i then j else i)) st:=rfl
@[simp] theorem z2q:zgG [.int i,.int j] st Q=Q (.int (if j > i then j else i)) st:=rfl
def zh7 (o:Option PO)(k:Bool->Prop):Prop:=match o with | some 2#4=>k (!xs.isEmpty) | some (.dct xs)=>k (!xs.isEmpty) | _=>False
@[simp] theorem z3v {k:Bool->Prop} :pA .non st k=k false:=rfl
@[simp] theorem z3r {k:Bool->Prop} :pA (.bl p) st k=k p:=rfl
@[simp] theorem z3t {k:Bool->Prop} :pA 1#5 st k=k (i !=0):=rfl
@[simp] theorem z3z {k:Bool->Prop} :pA (.str a) st k=(a.length<=am/\k ((a.length:Int) !=0)):=rfl
@[simp] theorem z30 {k:Bool->Prop} :pA 2#6 st k=k (!xs.isEmpty):=rfl
@[simp] theorem z3u {k:Bool->Prop} :pA 2#4 st k=k (!xs.isEmpty):=rfl
@[simp] theorem z3s {k:Bool->Prop} :pA 4#5 st k=k (!kvs.isEmpty):=rfl
@[simp] theorem z3w {k:Bool->Prop} :pA (.obj n) st k=zh7 st[n]? k:=rfl
@[simp] theorem z3y {k:Bool->Prop} :zh7 (some 2#4) k=k (!xs.isEmpty):=rfl
@[simp] theorem z3x {k:Bool->Prop} :zh7 (some 4#5) k=k (!kvs.isEmpty):=rfl
def ziH (o:Option PO)(n:Nat)(y:PV)(st:z7)(Q:K3):Prop:=match o with | some (.lst zs)=>xJ y=true/\zs.length < am/\Q .non (st.set n (.lst (zs++ [y]))) | _=>False
@[simp] theorem z1d:zg9 (.obj n) [y] st Q=ziH st[n]? n y st Q:=rfl
@[simp] theorem z1e:ziH (some (.lst zs)) n y st Q=(xJ y=true/\zs.length < am/\Q .non (st.set n (.lst (zs++ [y])))):=rfl
def zjB (o:Option PO)(n:Nat)(ys:List PV)(st:z7)(Q:K3):Prop:=match o with | some (.lst zs)=>zs.length+ys.length<=am/\Q .non (st.set n (.lst (zs++ys))) | _=>False
@[simp] theorem z1r:zgA (.obj n) [.lst ys] st Q=zjB st[n]? n ys st Q:=rfl
@[simp] theorem z1s:zjB (some (.lst zs)) n ys st Q=(zs.length+ys.length<=am/\Q .non (st.set n (.lst (zs++ys)))):=rfl
def znJ (o:Option PO)(n:Nat)(st:z7)(Q:K3):Prop:=match o with | some (.lst zs)=>uP zs.getLast? λy=>Q y (st.set n (.lst zs.dropLast)) | _=>False
@[simp] theorem z2L:zgK (.obj n) [] st Q=znJ st[n]? n st Q:=rfl
@[simp] theorem z2M:znJ (some (.lst zs)) n st Q=uP zs.getLast? λy=>Q y (st.set n (.lst zs.dropLast)):=rfl
def zjs (o:Option PO):Option (List (zK×PV)):=match o with | some 4#5=>some kvs | _=>none
@[simp] theorem z1g:iU 4#5 st=some kvs:=rfl
@[simp] theorem z1h:iU (.obj n) st=zjs st[n]?:=rfl
@[simp] theorem z1i:zjs (some 4#5)=some kvs:=rfl
def tyO (o:Option PO):String:=match o with | some (.lst _)=> 9#1 | some (.dct _)=> "dict" | _=> ""
@[simp] theorem z37:nH 2#4 st= 9#1 :=rfl
@[simp] theorem z36:nH 4#5 st= "dict" :=rfl
@[simp] theorem z3A:nH (.str a) st= "str" :=rfl
@[simp] theorem z38:nH (.obj n) st=tyO st[n]?:=rfl
@[simp] theorem z3_:tyO (some 2#4)= 9#1 :=rfl
@[simp] theorem z39:tyO (some 4#5)= "dict" :=rfl
def zfL (o:Option PO):Option (List PV):=match o with | some 2#4=>some xs | some 4#5=>some 1#7 | _=>none
@[simp] theorem z1O:nI 2#4 st=some xs:=rfl
@[simp] theorem z1S:nI 2#6 st=some xs:=rfl
@[simp] theorem z1N:nI 4#5 st=some 1#7:=rfl
@[simp] theorem z1P:nI (.obj n) st=zfL st[n]?:=rfl
@[simp] theorem z1R:zfL (some 2#4)=some xs:=rfl
@[simp] theorem z1Q:zfL (some 4#5)=some 1#7:=rfl
@[simp] theorem z2o:zgF [x] st Q=uP (nI x st) λys=>Q (.lst ys) st:=rfl
@[simp] theorem z2p:zxB [x] st Q=uP (nI x st) λys=>Q 0#5 (st++ [.lst ys]):=rfl
def zpl (Q:Bool->z7->Prop)(x:PV)(st:z7):Prop:=match x with | .bl k=>Q k st | _=>False
@[simp] theorem z3j {T:zE}{Q:Bool->z7->Prop} :zhF T env st Q=T env st (zpl Q):=rfl
@[simp] theorem z3k {Q:Bool->z7->Prop} :zpl Q (.bl p) st=Q p st:=rfl
def ziG (T:zE)(env:zI)(Q:K3)(x:PV)(st:z7):Prop:=match x with | .bl c=>if c=true then T env st Q else Q (.bl false) st | _=>False
@[simp] theorem z0V {T U:zE} :zzF T U env st Q=T env st (ziG U env Q):=rfl
@[simp] theorem z0W {T:zE} :ziG T env Q (.bl p) st=if p=true then T env st Q else Q (.bl false) st:=rfl
def orK (T:zE)(env:zI)(Q:K3)(x:PV)(st:z7):Prop:=match x with | .bl c=>if c=true then Q (.bl true) st else T env st Q | _=>False
@[simp] theorem z2F {T U:zE} :zzW T U env st Q=T env st (orK U env Q):=rfl
@[simp] theorem z2G {T:zE} :orK T env Q (.bl p) st=if p=true then Q (.bl true) st else T env st Q:=rfl
def zmQ (Q:K3)(x:PV)(st:z7):Prop:=match x with | .bl c=>Q (.bl (!c)) st | _=>False
@[simp] theorem z25 {T:zE} :zzV T env st Q=T env st (zmQ Q):=rfl
@[simp] theorem z26:zmQ Q (.bl p) st=Q (.bl (!p)) st:=rfl
@[simp] theorem z1w {gs:pS}{Q:zI->z7->Prop} :gT n gs 2#6 env st Q=(xs.length=n/\gs xs env st Q):=rfl
@[simp] theorem z1u {gs:pS}{Q:zI->z7->Prop} :gT n gs 2#4 env st Q=(xs.length=n/\gs xs env st Q):=rfl
@[simp] theorem z1y {Q:zI->z7->Prop} :gsN [] env st Q=Q env st:=rfl
@[simp] theorem z1x {g:wP}{gs:pS}{Q:zI->z7->Prop} :gsC g gs (x::xs) env st Q=g x env st λenv1 xm=>gs xs env1 xm Q:=rfl
def zn5 (n m:Nat)(D:w5)(env:zI)(xs:List PV)(st:z7):Prop:=match xs with | [x,y]=>D.nx ((env.set n (some x)).set m (some y)) st | _=>False
@[simp] theorem z2H {T:yC}{D:w5} :zzX n m T D env st=T env st (zn5 n m D env):=rfl
@[simp] theorem z2I {D:w5} :zn5 n m D env [x,y] st=D.nx ((env.set n (some x)).set m (some y)) st:=rfl
def zn4 (n m l:Nat)(D:w5)(env:zI)(xs:List PV)(st:z7):Prop:=match xs with | [x,y,z]=>D.nx (((env.set l (some z)).set m (some y)).set n (some x)) st | _=>False
@[simp] theorem z2J {l:Nat}{T:yC}{D:w5} :zzY n m l T D env st=T env st (zn4 n m l D env):=rfl
@[simp] theorem z2K {l:Nat}{D:w5} :zn4 n m l D env [x,y,z] st=D.nx (((env.set l (some z)).set m (some y)).set n (some x)) st:=rfl
def zbE (o:Option PO)(n:Nat)(st:z7)(Q:wS->List PV->z7->Prop):Prop:=match o with | some 2#4=>Q (some (n,.lst xs)) xs st | _=>False
def fH (Q:wS->List PV->z7->Prop)(x:PV)(st:z7):Prop:=match x with
 | .lst xs=>Q none xs st
 | .tup xs=>Q none xs st
 | .str z=>z.length<=am/\Q none (pC z) st
 | .obj n=>zbE st[n]? n st Q
 | _=>False
@[simp] theorem z0X {T:zE}{Q:wS->List PV->z7->Prop} :zlO T env st Q=T env st (fH Q):=rfl
@[simp] theorem z0Y {Q:wS->List PV->z7->Prop} :fH Q 2#4 st=Q none xs st:=rfl
@[simp] theorem z1c {Q:wS->List PV->z7->Prop} :fH Q 2#6 st=Q none xs st:=rfl
@[simp] theorem z1b {Q:wS->List PV->z7->Prop} :fH Q (.str a) st=(a.length<=am/\Q none (pC a) st):=rfl
@[simp] theorem z0Z {Q:wS->List PV->z7->Prop} :fH Q (.obj n) st=zbE st[n]? n st Q:=rfl
@[simp] theorem z1a {Q:wS->List PV->z7->Prop} :zbE (some 2#4) n st Q=Q (some (n,.lst xs)) xs st:=rfl
def zoz (Q:wS->List PV->z7->Prop)(xs:List PV)(st:z7):Prop:=match xs with | [.int j]=>(-1000000<=j/\j<=1000000)/\Q none (oF 0 j.toNat) st | _=>False
@[simp] theorem z2Q {T:yC}{Q:wS->List PV->z7->Prop} :zlR T env st Q=T env st (zoz Q):=rfl
@[simp] theorem z2R {Q:wS->List PV->z7->Prop} :zoz Q [.int j] st=((-1000000<=j/\j<=1000000)/\Q none (oF 0 j.toNat) st):=rfl
def zoy (Q:wS->List PV->z7->Prop)(xs:List PV)(st:z7):Prop:=match xs with | [.int i,.int j]=>(-1000000<=i/\i<=1000000/\ -1000000<=j/\j<=1000000)/\Q none (oF i (j - i).toNat) st | _=>False
@[simp] theorem z2S {T:yC}{Q:wS->List PV->z7->Prop} :ztj T env st Q=T env st (zoy Q):=rfl
@[simp] theorem z2T {Q:wS->List PV->z7->Prop} :zoy Q [.int i,.int j] st=((-1000000<=i/\i<=1000000/\ -1000000<=j/\j<=1000000)/\Q none (oF i (j - i).toNat) st):=rfl
def zoH (Q:Option Int->z7->Prop)(x:PV)(st:z7):Prop:=match x with | .int i=>Q (some i) st | _=>False
@[simp] theorem z3b {T:zE}{Q:Option Int->z7->Prop} :zmT T env st Q=T env st (zoH Q):=rfl
@[simp] theorem z3c {Q:Option Int->z7->Prop} :zoH Q 1#5 st=Q (some i) st:=rfl
def zps (Q:K3)(x:PV)(st:z7):Prop:=match x with | .tup xs=>Q (.tup xs.reverse) st | _=>False
@[simp] theorem z3p {T:zE} :z0h T env st Q=T env st (zps Q):=rfl
@[simp] theorem z3q:zps Q 2#6 st=Q (.tup xs.reverse) st:=rfl
def zov (Q:K3)(x:PV)(st:z7):Prop:=match x with | .lst xs=>Q (.lst xs.reverse) st | _=>False
@[simp] theorem z2O {T:zE}{U:lG} :z0d T U env st Q=T env st λx xm=>U env xm λl xr=>l=some (-1)/\zov Q x xr:=rfl
@[simp] theorem z2P:zov Q 2#4 st=Q (.lst xs.reverse) st:=rfl
@[simp] theorem z1m:wX m Q 1#5 st=Q 1#5 (st.take m):=rfl
@[simp] theorem z1p:wX m Q (.str a) st=Q (.str a) (st.take m):=rfl
@[simp] theorem z1k:wX m Q (.bl p) st=Q (.bl p) (st.take m):=rfl
@[simp] theorem z1o:wX m Q .non st=Q .non (st.take m):=rfl
@[simp] theorem z1q:wX m Q 2#6 st=Q 2#6 (st.take m):=rfl
@[simp] theorem z1n:wX m Q 2#4 st=Q 2#4 (st.take m):=rfl
@[simp] theorem z1l:wX m Q 4#5 st=Q 4#5 (st.take m):=rfl
@[simp] theorem z3B {P:Prop} :sP none st P=P:=rfl
@[simp] theorem z3C {P:Prop}{o:PO} :sP (some (n,o)) st P=(st[n]?=some o/\P):=rfl
@[simp] theorem z2B:xJ .non=true:=rfl
@[simp] theorem z2_:xJ 1#5=true:=rfl
@[simp] theorem z2D:xJ (.str a)=true:=rfl
@[simp] theorem z28:xJ (.bl p)=true:=rfl
@[simp] theorem z2E:xJ 2#6=true:=rfl
@[simp] theorem z2A:xJ 2#4=true:=rfl
@[simp] theorem z29:xJ 4#5=true:=rfl
@[simp] theorem z2C:xJ (.obj n)=false:=rfl
end
@[simp] theorem z5l {D:w5}{env:zI}{st:z7} :zpA D env st=(D.nx env st):=rfl
@[simp] theorem z4A {T:zE}{g:wP}{D:w5}{env:zI}{st:z7} :nV T g D env st=(T env st λx xm=>g x env xm D.nx):=rfl
@[simp] theorem z4W {c:xL}{t u:xD}{D:w5}{env:zI}{st:z7} :c7 c t u D env st=(c env st λb xm=>if b=true then t D env xm else u D env xm):=rfl
@[simp] theorem z5u {T:zE}{D:w5}{env:zI}{st:z7} :zpC T D env st=(T env st D.rt):=rfl
@[simp] theorem z5v {D:w5}{w1:zI}{st:z7} :z0c D w1 st=(D.rt .non st):=rfl
@[simp] theorem z4R {T:zE}{D:w5}{env:zI}{st:z7} :zp1 T D env st=(T env st λ_ xm=>D.nx env xm):=rfl
@[simp] theorem z5z {T:zE}{env:zI}{st:z7}{Q:Bool->z7->Prop} :c8 T env st Q=(T env st λx xm=>pA x xm λk=>Q k xm):=rfl
@[simp] theorem z4_ {t u:xL}{env:zI}{st:z7}{Q:Bool->z7->Prop} :zaV t u env st Q=(t env st λc xm=>if c=true then u env xm Q else Q false xm):=rfl
@[simp] theorem z5p {t u:xL}{env:zI}{st:z7}{Q:Bool->z7->Prop} :vOr t u env st Q=(t env st λc xm=>if c=true then Q true xm else u env xm Q):=rfl
@[simp] theorem z5n {t:xL}{env:zI}{st:z7}{Q:Bool->z7->Prop} :zhE t env st Q=(t env st λc xm=>Q (!c) xm):=rfl
@[simp] theorem z4V {t:xL}{Ta Tb:zE}{env:zI}{st:z7}{Q:K3} :vIf t Ta Tb env st Q=(t env st λc xm=>if c=true then Ta env xm Q else Tb env xm Q):=rfl
@[simp] theorem z5o {R:R3}{Ta Tb:zE}{env:zI}{st:z7}{Q:K3} :jZ R Ta Tb env st Q=(Ta env st λx xm=>Tb env xm λy xr=>R x y xr Q):=rfl
@[simp] theorem z54 {R:PV->z7->K3->Prop}{Ta:zE}{env:zI}{st:z7}{Q:K3} :vUn R Ta env st Q=(Ta env st λx xm=>R x xm Q):=rfl
@[simp] theorem z4F {x:PV}{w0:zI}{st:z7}{Q:K3} :vC x w0 st Q=(Q x st):=rfl
@[simp] theorem z5m {w0:zI}{st:z7}{Q:List PV->z7->Prop} :oH w0 st Q=(Q [] st):=rfl
@[simp] theorem z4N {Ta:zE}{Tr:yC}{env:zI}{st:z7}{Q:List PV->z7->Prop} :tO Ta Tr env st Q=(Ta env st λx xm=>Tr env xm λxs xr=>Q (x::xs) xr):=rfl
@[simp] theorem z53 {T:yC}{env:zI}{st:z7}{Q:K3} :zhG T env st Q=(T env st λxs xm=>rF xs=true/\Q 2#6 xm):=rfl
@[simp] theorem z4Z {T:yC}{env:zI}{st:z7}{Q:K3} :zp5 T env st Q=(T env st λxs xm=>rF xs=true/\Q 2#4 xm):=rfl
@[simp] theorem z5a {T:yC}{env:zI}{st:z7}{Q:K3} :zp6 T env st Q=(T env st λxs xm=>rF xs=true/\Q (.obj xm.length) (xm++ [.lst xs])):=rfl
@[simp] theorem z4G {R:zT}{T:yC}{env:zI}{st:z7}{Q:K3} :tX R T env st Q=(T env st λxs xm=>R xs xm Q):=rfl
@[simp] theorem z5x {T:zE}{Tl Th:lG}{env:zI}{st:z7}{Q:K3} :vSl T Tl Th env st Q=(T env st λx xm=>Tl env xm λl xr=>Th env xr λu yd=>jS x l u yd Q):=rfl
@[simp] theorem z45 {w0:zI}{st:z7}{Q:Option Int->z7->Prop} :zmS w0 st Q=(Q none st):=rfl
@[simp] theorem z40 {To Ti:zE}{v:PV}{env:zI}{st:z7}{Q:zI->z7->Prop} :gS To Ti v env st Q=(To env st λo xm=>Ti env xm λi xr=>dA o i v xr λyd=>Q env yd):=rfl
@[simp] theorem z4B {T:String}{R:PV->zT}{To:zE}{TA:yC}{env:zI}{st:z7}{Q:K3} :vBM T R To TA env st Q=(To env st λx xm=>nH x xm=T/\TA env xm λxs xr=>R x xs xr Q):=rfl
@[simp] theorem z4C {T:String}{R:PV->zT}{To:zE}{env:zI}{st:z7}{Q:K3} :zp0 T R To env st Q=(To env st λx xm=>nH x xm=T/\R x [] xm Q):=rfl
@[simp] theorem z4P {w0:zI}{st:z7}{Q:K3} :zzN w0 st Q=(Q 0#5 (st++ [.dct []])):=rfl
@[simp] theorem z4E {D:w5}{env:zI}{st:z7} :zzH D env st=(D.bk env st):=rfl
@[simp] theorem z4O {D:w5}{env:zI}{st:z7} :zzM D env st=(D.ct env st):=rfl
@[simp] theorem z47 {x:PV}{y:PV}{st:z7}{Q:K3} :zop x y st Q=((yA x<=50/\yA y < 1000)/\Q (.bl (yO x y)) st):=rfl
@[simp] theorem z48 {x:PV}{y:PV}{st:z7}{Q:K3} :zos x y st Q=((yA x<=50/\yA y < 1000)/\Q (.bl (!yO x y)) st):=rfl
@[simp] theorem z4z {i:Nat}{x:PV}{env:zI}{st:z7}{Q:zI->z7->Prop} :gN i x env st Q=(Q (env.set i (some x)) st):=rfl
@[simp] theorem z5k {w0:w5}{w1:zI}{w2:z7} :zp_ w0 w1 w2=(False):=rfl
@[simp] theorem z4U {I:uN}{g:wP}{b:xD}{D:w5}{env:zI}{st:z7} :zaX I g b D env st=(I env st λya xs xm=>zbg g b ya xs D env xm):=rfl
@[simp] theorem z4K {own:Nat}{I:uN}{g:wP}{tt:xL}{el:zE}{env:zI}{st:z7}{Q:K3} :zaW own I g tt el env st Q=(I env st λya xs xm=>qF own g tt el ya xs (λys xr=>Q (.lst ys) xr) env xm):=rfl
@[simp] theorem z4L {own:Nat}{I:uN}{g:wP}{tt:xL}{el:zE}{env:zI}{st:z7}{Q:K3} :zhB own I g tt el env st Q=(I env st λya xs xm=>qF own g tt el ya xs (λys xr=>Q (.obj xr.length) (xr++ [.lst ys])) env xm):=rfl
@[simp] theorem z55 {w0:zI}{st:z7}{Q:Bool->z7->Prop} :i4 w0 st Q=(Q true st):=rfl
@[simp] theorem z49 {N:List Str}{xs:List PV} :kP N xs=xs.map some++List.replicate (N.length - xs.length) none:=rfl
@[simp] theorem z46 {xs:List PV} :rF xs=(xs.all xJ&&Nat.ble xs.length 1000):=rfl
@[simp] theorem z0N {x:PV}{e:zI}{st:z7}{Q:K3} :tP 0 (some x::e) st Q=Q x st:=rfl
@[simp] theorem z0O {i:Nat}{x:Option PV}{e:zI}{st:z7}{Q:K3} :tP (i+1) (x::e) st Q=tP i e st Q:=rfl
@[simp] theorem z0I {α:Type}{x:α}{F:α->Prop} :uP (some x) F=F x:=rfl
section
variable {α β:Type} {x y z u v:α} {xs ys:List α} {f:α->β} {n i:Nat} {p:Prop} {b:Bool} {st:List α}
@[simp] theorem z0D:(x::xs).map f=f x::xs.map f:=rfl
@[simp] theorem z0E:([]:List α).map f= []:=rfl
@[simp] theorem z0B:(x::xs).length=xs.length+1:=rfl
@[simp] theorem z0C:([]:List α).length=0:=rfl
@[simp] theorem z04:(x::xs)++ys=x::(xs++ys):=rfl
@[simp] theorem z05: []++ys=ys:=rfl
@[simp] theorem z0J:List.replicate (n+1) x=x::List.replicate n x:=rfl
@[simp] theorem z0K:List.replicate 0 x= []:=rfl
@[simp] theorem z0L:(x::xs).set 0 y=y::xs:=rfl
@[simp] theorem z0M:(x::xs).set (n+1) y=x::xs.set n y:=rfl
@[simp] theorem z0_:(x::xs)[0]?=some x:=rfl
@[simp] theorem z0A:(x::xs)[n+1]?=xs[n]?:=rfl
@[simp] theorem z0G:(!true)=false:=rfl
@[simp] theorem z0F:(!false)=true:=rfl
@[simp] theorem ziY:(some x).isSome=true:=rfl
@[simp] theorem z09:(some x).getD y=x:=rfl
@[simp] theorem z08:(none:Option α).getD y=y:=rfl
@[simp] theorem z02 {q:α->Bool} :(x::xs).all q=(q x&&xs.all q):=rfl
@[simp] theorem z03 {q:α->Bool} :([]:List α).all q=true:=rfl
@[simp] theorem z06 {m:Nat} :Nat.ble (n+1) (m+1)=Nat.ble n m:=rfl
end
section
variable {Q:K3} {st:z7} {x:PO} {xs:List PV} {kvs:List (zK×PV)} {i j:Int} {a b:Str} {p q:Bool} {l:List (Str×Int)}
@[simp] theorem z07 {m:Nat} :wX m Q (jA l) st=Q (jA l) (st.take m):=rfl
@[simp] theorem z0H:xJ (jA l)=true:=rfl
end
theorem cB:(∀{α:Type} {x:α} {xs:List α},atI (x::xs) 0=some x)/\(∀{α:Type} {x y:α} {xs:List α},atI (x::y::xs) 1=some y)/\(∀{α:Type} {x y z:α} {xs:List α},atI (x::y::z::xs) 2=some z)/\(∀{α:Type} {x y z u:α} {xs:List α},atI (x::y::z::u::xs) 3=some u)/\(∀{α:Type} {x y z u v:α} {xs:List α},atI (x::y::z::u::v::xs) 4=some v)/\
  (∀{n:Nat},uH (n+1) 0=some 0)/\(∀{n:Nat},uH (n+2) 1=some 1)/\(∀{p:Prop},(True/\p)=p)/\(∀{p:Prop},(p/\True)=p)/\(∀{q r:Prop},(if True then q else r)=q)/\(∀{q r:Prop},(if False then q else r)=r)/\((false=true)=False)/\(∀{p:Prop},(p∨True)=True)/\(∀{p:Prop},(True∨p)=True)/\(∀{p:Prop},(p/\p)=p)/\
  (∀{α:Type} {st:List α},st.take (st.length+0)=st)/\(∀{α:Type} {st:List α},st.take st.length=st)/\(∀{α:Type} {st:List α} {i:Nat} {x:α},(st.set i x).take (st.length+0)=st.set i x)/\(∀{α:Type} {st:List α} {i:Nat} {x:α},(st.set i x).take st.length=st.set i x)/\(∀{α:Type} {st:List α} {i:Nat} {x y:α},(st.set i x).set i y=st.set i y)/\
  (∀{α:Type} {st:List α} {i:Nat} {x:α},(st[i]?).isSome=true->(st.set i x)[i]?=some x)/\(∀{α:Type} {st:List α} {x:α},(st++ [x])[st.length]?=some x)/\(∀{α:Type} {st:List α} {x y:α},(st++ [x]).set st.length y=st++ [y])/\(∀{α:Type} {st:List α} {x:α},(st++ [x]).take (st.length+0)=st)/\(∀{α:Type} {st:List α} {x:α},(st++ [x]).take st.length=st)/\(∀{α:Type} {st:List α} {x:α},(st++ [x]).take (st.length+1)=st++ [x])/\
  (∀{b:Bool},(b&&true)=b)/\(∀{b:Bool},(true&&b)=b)/\(∀{m:Nat},Nat.ble 0 m=true)/\(∀{m:Nat},(0<=m)=True)/\(∀{n:Nat},max n 0=n)/\(∀{n:Nat},max 0 n=n)/\(∀{h:Decidable True},@decide True h=true)/\(∀{h:Decidable False},@decide False h=false)/\
  (∀{Q:K3} {st:z7} {x:PO},wX (st.length+1) Q 0#5 (st++ [x])=Q 0#5 (st++ [x]))/\(∀{Q:K3} {st:z7} {xs:List PV},wX (st.length+0) Q 0#5 (st++ [.lst xs])=Q 2#4 st)/\(∀{Q:K3} {st:z7} {kvs:List (zK×PV)},wX (st.length+0) Q 0#5 (st++ [.dct kvs])=Q 4#5 st)/\
  (∀{Q:K3} {st:z7} {xs:List PV},wX st.length Q 0#5 (st++ [.lst xs])=Q 2#4 st)/\(∀{Q:K3} {st:z7} {kvs:List (zK×PV)},wX st.length Q 0#5 (st++ [.dct kvs])=Q 4#5 st):=
 ⟨at0,at1,at2,at3,at4,ix0,ix1,true_and _,and_true _,if_pos trivial,if_neg id,gk,or_true _,true_or _,and_self _,zz1,List.take_length,zpk,zpk,set_set,zsS,ztP,zys,zpi,zpi,zz0,Bool.and_true _,Bool.true_and _,Nat.ble_eq_true_of_le (db _),eq_true (db _),Nat.max_zero _,Nat.zero_max _,3#0,3#0,zst,zj_,zjA,zj_,zjA⟩
open PySem.SeqAt
section
variable {X:Cx} {o e:Expr} {es:List Expr} {xz xy:di} {To:zE} {TA:yC} {id:String} {name:Str} {R:PV->zT}
def zfK:PV->Bool | .tup _=>true | _=>false
@[simp] theorem z1L {xs:List PV} :zfK 2#6=true:=rfl
def zzG (R:PV->zT)(To:zE)(TA:yC):zE:=λenv st Q=>To env st λx xm=>zfK x=true/\TA env xm λys xr=>R x ys xr Q
@[simp] theorem z4D {env:zI}{st:z7}{Q:K3} :zzG R To TA env st Q=To env st λx xm=>zfK x=true/\TA env xm λys xr=>R x ys xr Q:=rfl
end
def aU (kvs:List (List Int×Int))(k:List Int):Option Int:=(kvs.find? λkv=>decide (kv.1=k)).map (·.2)
def znR (kvs:List (List Int×Int))(k:List Int)(v:Int):List (List Int×Int):=
 if 5#6=true then kvs.map (λkv=>if kv.1=k then(kv.1,v)else kv)else kvs++ [(k,v)]
def zmd:PV->z7->Option (List (List Int×Int))
 | .itb kvs,_=>some kvs
 | .obj i,st=>(match st[i]? with | some (.itb kvs)=>some kvs | _=>none)
 | _,_=>none
def zzO:zE:=λ_ st Q=>Q 0#5 (st++ [.itb []])
def zzP (Ta:zE)(TA:yC):zE:=λenv st Q=>Ta env st λx xm=>TA env xm λys xr=> ∃(k:List Int) (kvs:List (List Int×Int)) (v:Int),ys=k.map PV.int/\zmd x xr=some kvs/\k.length<=100/\aU kvs k=some v/\Q (.int v) xr
def zzZ (Td:zE)(TA:yC)(Tv:zE):xD:=λD env st=>Tv env st λv xm=>Td env xm λx xr=>TA env xr λys yd=> ∃(k:List Int) (i:Nat) (kvs:List (List Int×Int)) (z:Int),ys=k.map PV.int/\v= .int z/\x= .obj i/\yd[i]?=some (.itb kvs)/\k.length<=100/\kvs.length < am/\D.nx env (yd.set i (.itb (znR kvs k z)))
@[simp] theorem z4Q {env:zI}{st:z7}{Q:K3} :zzO env st Q=Q 0#5 (st++ [.itb []]):=rfl
@[simp] theorem z4X {Ta:zE}{TA:yC}{env:zI}{st:z7}{Q:K3} :zzP Ta TA env st Q=(Ta env st λx xm=>TA env xm λys xr=> ∃(k:List Int) (kvs:List (List Int×Int)) (v:Int),ys=k.map PV.int/\zmd x xr=some kvs/\k.length<=100/\aU kvs k=some v/\Q (.int v) xr):=rfl
@[simp] theorem z5q {Td:zE}{TA:yC}{Tv:zE}{D:w5}{env:zI}{st:z7} :zzZ Td TA Tv D env st=(Tv env st λv xm=>Td env xm λx xr=>TA env xr λys yd=> ∃(k:List Int) (i:Nat) (kvs:List (List Int×Int)) (z:Int),ys=k.map PV.int/\v= .int z/\x= .obj i/\yd[i]?=some (.itb kvs)/\k.length<=100/\kvs.length < am/\D.nx env (yd.set i (.itb (znR kvs k z)))):=rfl
def zzJ (good:kS->Prop)(i:Nat)(TA:yC):zE:=λenv st Q=> ∃D:kS,env[i]?=some (some (.clo D))/\good D/\TA env st λxs xm=> ∃(k:List Int) (v:Int),xs=k.map PV.int/\k.length=3/\aU D.kvs k=some v/\Q (.int v) xm
@[simp] theorem z4I {good:kS->Prop}{i:Nat}{TA:yC}{env:zI}{st:z7}{Q:K3} :zzJ good i TA env st Q= ∃D:kS,env[i]?=some (some (.clo D))/\good D/\TA env st λxs xm=> ∃(k:List Int) (v:Int),xs=k.map PV.int/\k.length=3/\aU D.kvs k=some v/\Q (.int v) xm:=rfl
def zx2:R3:=λx y st Q=> ∃xs ys,rE x st=some xs/\rE y st=some ys/\xs.length+ys.length<=am/\Q 0#5 (st++ [.lst (xs++ys)])
theorem zad {X:Cx} :yW X (binaryOp .Add) (vU X.K zx2):=o4 λmt s σ H A st x y v w vv ww Q3 Q I rs ex ey rv rw h k=>by
 obtain⟨xs,ys,e1,e2,hl,q⟩:=h;obtain⟨a,vs,rfl,h1,r1,z1⟩:=jK rs ex e1;obtain⟨b,us,rfl,h2,r2,z2⟩:=jK rs ey e2;rw[r1.len,r2.len]at hl;exact znq mt s σ H _ _ vv ww Q I rv rw ⟨_,_,_,_,rfl,rfl,h1,h2,hl,k.lstO rs (r1.append r2) (by rw[af];exact hl) q⟩
section
variable {X:Cx} {a b e:Expr} {es:List Expr} {pos p p2:di} {Ta Tb:zE} {TA:yC}
def lQ (xs:List PV):List PV:=xs.mapIdx λi x=> .tup [.int (i:Int),x]
theorem jF {xs:List PV} :(lQ xs).length=xs.length:=by unfold lQ;simp
theorem aB {xs:List PV}{i:Nat}{y:PV}(h:(lQ xs)[i]?=some y): ∃x,xs[i]?=some x/\y= .tup [.int (i:Int),x]:=by
 unfold lQ at h;rw[List.getElem?_mapIdx]at h;cases e:xs[i]? with
 | none=>rw[e]at h;cases h
 | some x=>rw[e]at h;exact⟨x,rfl,(ca h).symm⟩
theorem zmc {K:Frag}{A:List aa}{H:Hp}{a:aa}{xs:List PV}{ya:wS}(hz:xs.length<=am)(hv: ∀A' H' st,zZ A H A' H'->RS K A' H' st->eM ya st->∃vs,xA K H' a vs/\RVs K A' H' xs vs):nZ K A H ya (iB K a) (lQ xs) where
 go:=λi A' H' st g s ok hi=>by
  obtain⟨vs,h,r⟩:=hv A' H' st g s ok;rw[jF,r.len]at hi;exact⟨vs,vs[i],h,by simp[hi]⟩
 yld:=λi x A' H' st v H2 hx g s ok y=>by
  obtain⟨p,x',hp,hx',rfl,rfl⟩:=y;obtain⟨vs,h,r⟩:=hv A' H' st g s ok;obtain⟨z,hz',rfl⟩:=aB hx;obtain⟨w,ew,rw'⟩:=r.get hz';have:=hx' vs h;rw[ew]at this;cases this;exact⟨.new hp,s.new hp,.val (.tup (.inl ⟨.inl xR,s.fresh hp⟩) (by show 2<=am;decide) (.cons (.int _) (.cons (rw'.grow (.new hp)) .nil)))⟩
 stop:=λA' H' st g s ok=>by
  obtain⟨vs,h,r⟩:=hv A' H' st g s ok;exact⟨vs,h,by rw[jF,r.len];exact aq _⟩
 small:=by rw[jF];exact hz
def zfZ (x:PV)(st:z7)(F:wS->List PV->Prop):Prop:=(∃xs,x= .lst xs/\F none xs)∨∃i xs,x= .obj i/\st[i]?=some 2#4/\F (some (i,.lst xs)) xs
def zlP (T:yC):uN:=λenv st Q=>T env st λzs xm=> ∃z,zs= [z]/\zfZ z xm λya xs=>Q ya (lQ xs) xm
theorem zxu {elts:List Expr}{k:Nat}{pos':di}(hg:Gl X 14#1)(hm:X.mg 14#1 =none)(ha:PA X [a] (wU X.K TA))(hs:starEach [a] X.env= [(false,eval a X.env)]:=by rfl):PI X (.Tuple elts k pos') (.Call (.Name 14#1 p) [a] [] pos) (qO X.K (zlP TA)):=by
 refine zan (znF hg hm ha hs) λσ H R ⟨A,env,st,Q3,xo,h,k⟩=>⟨A,env,st,_,xo,h,λA1 H1 xm zs vs g1 s1 e1 h1=> ?_⟩;obtain⟨z,rfl,h1⟩:=h1;obtain⟨v,rfl,e⟩:=xC.one e1;rcases h1 with⟨xs,rfl,h1⟩ | ⟨i,xs,rfl,q,h1⟩
 ·cases e with | val e=>cases e with | lst t hz r=>
   exact⟨_,rfl,⟨_,t.sq⟩,k A1 H1 xm _ _ _ g1 s1 (zmc (by rw[r.len];exact hz) λA' H' xp g s _=>⟨_,(t.grow g).sq,r.grow g⟩) h1⟩
 ·cases e with
  | val e=>cases e
  | obj eo=>
   obtain⟨vs,h2,r,hz⟩:=s1.at_ _ _ _ eo q;exact⟨_,rfl,⟨_,.of h2⟩,k A1 H1 xm _ _ _ g1 s1 (zmc (by rw[r.len];exact hz) λA' H' xp g s ok=>by
    obtain⟨vs',h2',r',_⟩:=s.at_ _ _ _ (g.sub eo) ok;exact⟨vs',.of h2',r'⟩) h1⟩
end
end L3
namespace Sets
open PySem
def lF (xs:Array Nat):Prop:= ∀i j (hi:i < xs.size) (hj:j < xs.size),i < j->xs[i] < xs[j]
theorem zfA {xs:Array Nat}{j:Nat}(hr:lF xs): ∀(fuel lo hi:Nat),hi - lo<=fuel->lo<=hi->hi<=xs.size->(∀i (h:i < xs.size),i < lo->xs[i] < j)->(∀i (h:i < xs.size),hi<=i->j<=xs[i])->
  SetTable.below.go xs j fuel lo hi<=xs.size/\(∀i (h:i < xs.size),i < SetTable.below.go xs j fuel lo hi->xs[i] < j)/\(∀i (h:i < xs.size),SetTable.below.go xs j fuel lo hi<=i->j<=xs[i])
 | 0,lo,hi,hf,hl,hs,h1,h2=>by
  unfold SetTable.below.go;have:lo=hi:=0#0
  subst this;exact⟨hs,h1,h2⟩
 | f+1,lo,hi,hf,hl,hs,h1,h2=>by
  unfold SetTable.below.go;by_cases yf:lo < hi
  ·rw[if_pos yf]
   dsimp only;have hm:(lo+hi) / 2 < xs.size:=0#0
   have e:xs.getD ((lo+hi) / 2) j=xs[(lo+hi) / 2]:=by simp[Array.getD,hm]
   rw[e];by_cases hc:xs[(lo+hi) / 2] < j
   ·rw[if_pos hc]
    refine zfA hr f _ hi 0#0 0#0 hs (λi h hi'=> ?_) h2;by_cases hq:i=(lo+hi) / 2
    ·subst hq;exact hc
    ·have:=hr i ((lo+hi) / 2) h hm 0#0;grobner
   ·rw[if_neg hc]
    refine zfA hr f lo _ 0#0 0#0 0#0 h1 (λi h hi'=> ?_);by_cases hq:i=(lo+hi) / 2
    ·subst hq;grobner
    ·have:=hr ((lo+hi) / 2) i hm h 0#0;grobner
  ·rw[if_neg yf]
   have:lo=hi:=0#0
   subst this;exact⟨hs,h1,h2⟩
theorem ziP {xs:Array Nat}(hr:lF xs)(j:Nat):SetTable.below xs j<=xs.size/\(∀i (h:i < xs.size),i < SetTable.below xs j->xs[i] < j)/\(∀i (h:i < xs.size),SetTable.below xs j<=i->j<=xs[i]):=
 zfA hr xs.size 0 xs.size 0#0 (db _) (aq _) (λi h hi=>0#0) (λi h hi=>0#0)
theorem zgT {xs:Array Nat} :lF xs↔xs.toList.Pairwise (· < ·):=by
 rw[List.pairwise_iff_getElem];constructor
 ·intro h i j hi hj yu
  simpa using h i j (by simpa using hi) (by simpa using hj) yu
 ·intro h i j hi hj yu
  have:=h i j (by rw[fh];exact hi) (by rw[fh];exact hj) yu
  rwa [kc,kc]at this
theorem ztr {α:Type}(xs:Array α)(p:Nat)(x:α):(SetTable.insertAt xs p x).toList=xs.toList.take p++x::xs.toList.drop p:=by
 rw[SetTable.toList_insertAt]
theorem zts {xs:Array Nat}(hr:lF xs){j:Nat}(hn:xs[SetTable.below xs j]?≠some j):lF (SetTable.insertAt xs (SetTable.below xs j) j):=by
 obtain⟨h0,h1,h2⟩:=ziP hr j;rw[zgT,ztr];have hl:=zgT.mp hr;refine ny.mpr ⟨hl.sublist (qt _ _),jv.mpr ⟨λy hy=> ?_,hl.sublist (List.drop_sublist _ _)⟩,λx hx y hy=> ?_⟩
 ·obtain⟨i,hi,e⟩:=jl hy
  rw[ic,fh]at hi;rw[wj,kc]at e;have:=h2 (SetTable.below xs j+i) 0#0 0#0;by_cases hz:i=0
  ·subst hz
   have yo:xs[SetTable.below xs j+0]≠j:=λq=>hn (by rw[cx 0#0];exact congrArg some q);grobner
  ·have h3:=h2 (SetTable.below xs j) 0#0 (aq _)
   have h4:=hr (SetTable.below xs j) (SetTable.below xs j+i) 0#0 0#0 0#0;grobner
 ·have hx':x < j:=by
   obtain⟨i,hi,e⟩:=jl hx;rw[fj,fh]at hi;rw[List.getElem_take,kc]at e;have:=h1 i 0#0 0#0;grobner
  have hy':j<=y:=by
   rcases ar.mp hy with rfl | hy
   ·exact aq _
   ·obtain⟨i,hi,e⟩:=jl hy
    rw[ic,fh]at hi;rw[wj,kc]at e;have:=h2 (SetTable.below xs j+i) 0#0 0#0;grobner
  grobner
theorem zxM (n:Nat):lF (Array.range n):=by
 intro i j hi hj yu;simpa using yu
structure uV (led:Bool)(n:Nat)(t:SetTable):Prop where
 fits:t.fits n=true
 led:t.led=led
 rise:lF t.place
 dum:t.dummies= #[]
theorem uV.stand {led:Bool}{m:Nat}{t:SetTable}(h:t.led=led)(n:Nat):uV led n (t.standIn n):=
 ⟨SetTable.standIn_fits t n,h,zxM n,rfl⟩
theorem uV.plainOff {led:Bool}{n:Nat}{t:SetTable}(h:uV led n t):uV led n {t with plain:=false} :=⟨SetTable.fits_plain_off h.fits,h.led,h.rise,h.dum⟩
theorem znK {t:SetTable}(hd:t.dummies= #[]){f:Nat->Int}{h:Int} : ∀(fuel:Nat) (p:SetTable.Probe),p.dummy=none->∀j d,SetTable.probe.go t f h fuel p=some (.empty j d)->d=none/\t.place[SetTable.below t.place j]?≠some j
 | 0,p,hp,j,d,e=>by unfold SetTable.probe.go at e;cases e
 | n+1,p,hp,j,d,e=>by
  unfold SetTable.probe.go at e;have hs:t.slot p.j=(if t.place[SetTable.below t.place p.j]?==some p.j then .live (SetTable.below t.place p.j)else .empty):=by
   unfold SetTable.slot;dsimp only
   split
   ·rfl
   ·have:SetTable.has t.dummies p.j=false:=by unfold SetTable.has;rw[hd];simp
    rw[this];rfl
  rw[hs]at e
  split at e
  ·rename_i q
   split at q
   ·cases q
   ·rename_i q2
    cases e;exact⟨hp,by simpa using q2⟩
  ·rename_i q
   split at q <;> cases q
  ·split at e
   ·cases e
   ·refine znK hd n _ ?_ j d e
    unfold SetTable.advance
    split
    ·exact hp
    ·exact hp
theorem zsG {t:SetTable}(hd:t.dummies= #[]){h:Int}{j:Nat}{b:Bool}(e:t.freeSlot h=some (j,b)):b=false/\t.place[SetTable.below t.place j]?≠some j:=by
 unfold SetTable.freeSlot at e
 split at e
 ·rename_i j' d q
  obtain⟨rfl,hn⟩:=znK hd _ _ rfl j' d q;cases e;exact⟨rfl,hn⟩
 ·cases e
theorem ztN {led:Bool}{t:SetTable}{es:Array 9#6}(g:uV led es.size t)(h:Int)(x:ad):uV led (layNew t es h x).1.size (layNew t es h x).2.1/\(layNew t es h x).2.2.1=false:=by
 unfold layNew
 split
 ·rename_i slot wd e
  obtain⟨rfl,hn⟩:=zsG g.dum e;dsimp only;refine⟨?_,rfl⟩;unfold SetTable.orStandIn
  split
  ·rename_i hf
   refine⟨hf,g.led,zts g.rise hn,?_⟩;show(if SetTable.has t.dummies slot=true then SetTable.eraseAt t.dummies (SetTable.below t.dummies slot)else t.dummies)= #[];have:SetTable.has t.dummies slot=false:=by unfold SetTable.has;rw[g.dum];simp
   rw[this,g.dum];rfl
  ·exact uV.stand (m:=0) g.led _
 ·dsimp only
  refine⟨?_,rfl⟩;rw[xg];exact uV.stand (m:=0) g.led _
theorem zxO {led:Bool}{t:SetTable}{es:Array 9#6}(g:uV led es.size t)(n:Nat):uV led (relayAll t es n).1.size (relayAll t es n).2.1:=by
 unfold relayAll
 split
 ·rename_i t' order e
  dsimp only
  split
  ·rename_i hc
   rw[bv]at hc;unfold SetTable.relaid SetTable.laid at e;obtain⟨owner,e1,e2⟩:=Option.bind_eq_some_iff.mp e;cases e2;refine⟨hc.2,g.led,?_,rfl⟩;rw[zgT];show((List.map _ _).toArray.toList).Pairwise _;rw[List.toList_toArray];have hp: ∀(l:List Nat),l.Pairwise (· < ·)->((l.filterMap λj=>(owner.getD j none).map λy=>(j,y)).map λq:Nat×Nat=>q.1).Pairwise (· < ·):=by
    intro l hl
    induction l with
    | nil=>exact .nil
    | cons a l ih=>
     rw[jk];obtain⟨h1,h2⟩:=jv.mp hl
     split
     ·exact ih h2
     ·rename_i b hb
      rw[cc];refine jv.mpr ⟨λy hy=> ?_,ih h2⟩;obtain⟨c,hc1,rfl⟩:=bt.mp hy;obtain⟨j,hj,hj2⟩:=pz.mp hc1;obtain⟨u,_,rfl⟩:=ky.mp hj2;obtain⟨u2,_,rfl⟩:=ky.mp hb;exact h1 j hj
   exact hp _ List.pairwise_lt_range
  ·exact uV.stand (m:=0) g.led _
 ·exact uV.stand (m:=0) g.led _
open PyProof.Rows
def mD (led:Bool)(a:aa)(es:Array 9#6)(h:cf):Prop:= ∃o ep t,h.get? a=some o/\o.ExactSet/\o.data= .set es ep t/\uV led es.size t
theorem mD.keep {led:Bool}{a:aa}{es:Array 9#6}{h h':cf}(x:mD led a es h)(k: ∀o,h.get? a=some o->h'.get? a=some o):mD led a es h':=
 let⟨o,ep,t,e,r⟩:=x;⟨o,ep,t,k _ e,r⟩
section
variable {prog:br} {w:bz} {K:Type} [DecidableEq K] {knd:KeyKind prog w K} {A:ci} {E:ad->ag->Prop} {s:ag}
theorem znS {led:Bool}{a:aa}{o:aj}{es:Array 9#6}{ep:Nat}{t:SetTable}{h:cf}(ho:h.get? a=some o)(hx:o.ExactSet)(hd:o.data= .set es ep t){es':Array 9#6}{t':SetTable}(g:uV led es'.size t'):
  (h.update a (Obj.putSet es' t')).get? a=some {o with data:= .set es' (ep+1) t'} /\mD led a es' (h.update a (Obj.putSet es' t')):=by
 have e:=ck (Obj.putSet es' t') ho (by rw[putSet_of es' t' hd];rfl);rw[putSet_of es' t' hd]at e;exact⟨e,_,_,_,e,hx,rfl,g⟩
theorem zph {led:Bool}{g:Bool->Sem Unit}(hg: ∀(b:Bool) (u:ag) (R:Unit->ag->Prop),R () u->av 6#2 A (g b) R E u){a:aa}{o:aj}{es:Array 9#6}{ep:Nat}{t:SetTable}
  (ho:s.heap.get? a=some o) (hx:o.ExactSet) (hd:o.data= .set es ep t) {e1:Array 9#6} {t2:SetTable} (hz:e1.size < scanBound) (gd:uV led e1.size t2) {wd:Bool} {R:Option Bool->ag->Prop}
  (h: ∀h' e',Heap.SameBut a s.heap h'->mD led a e' h'->e'.toList.Perm e1.toList->R (some true) {s with heap:=h'}):
  av 6#2 A (do
   storeSet a e1 t2
   if(!wd&&t2.tooFull)=true then do
      g (relayAll t2 e1 (SetTable.grown e1.size)).2.2
      storeSet a (relayAll t2 e1 (SetTable.grown e1.size)).1 (relayAll t2 e1 (SetTable.grown e1.size)).2.1
      pure (some true)
    else pure (some true)) R E s:=by
 refine ac (wpAny_storeSet_of ho hd ?_ (fits_of_scanBound hz));obtain⟨p1,p2⟩:=znS ho hx hd gd;have sb:=fz s.heap a (Obj.putSet e1 t2)
 split
 ·have pm:=relayAll_perm t2 e1 (SetTable.grown e1.size)
  have gr:=zxO gd (SetTable.grown e1.size);generalize relayAll t2 e1 (SetTable.grown e1.size)=L at pm gr⊢
  obtain⟨e2,t3,gv⟩:=L;dsimp only at pm gr⊢
  have sz:e2.size=e1.size:=by have:=pm.length_eq;simpa using this
  refine ac (hg _ _ _ (ac (wpAny_storeSet_of p1 rfl ?_ (fits_of_scanBound (by rw[sz];exact hz)))));exact al (h _ e2 (sb.trans (fz _ a _)) (znS p1 hx rfl gr).2 pm)
 ·exact al (h _ e1 sb p2 (ix _))
theorem zrc {led:Bool}{a:aa}{es:Array 9#6}{k:K}{x:ad}{Q:Bool->ag->Prop}(hk:knd.is k x=true)(hc:x.scannable=true)(hel:ElemsOf knd es.toList)(hS:mD led a es s.heap)(hz:es.size+1 < scanBound)
  (h: ∀(b:Bool) h' es',Heap.SameBut a s.heap h'->mD led a es' h'->(if es.toList.any (λe=>knd.is k e.2)=true then es'=es else es'.toList.Perm (es.toList++ [(knd.hash k,x)]))->Q b {s with heap:=h'}):
  av 6#2 A (setAddHashed a x (knd.hash k)) Q E s:=by
 obtain⟨o,ep,t,ho,hx,hd,gd⟩:=hS;have hb:es.size < scanBound:=0#0
 unfold setAddHashed setAddHashedIn;refine ga (ac (jz ho hd gd.fits ?_));dsimp only;rw[byScan_of hc hb hel,if_pos rfl];unfold setAddByScan;refine ac (ac (ju (ac (wpAny_setScan_of hk ho hd gd.fits hel ?_))));cases hr:List.findIdx? (λe=>knd.is k e.2) es.toList with
 | some j=>
  dsimp only;obtain⟨hj,pj,_⟩:=List.findIdx?_eq_some_iff_getElem.mp hr;refine al (al ?_);have e:s= {s with heap:=s.heap} :=by cases s;rfl
  rw[e];refine h _ s.heap es (Heap.SameBut.refl a s.heap) ⟨o,ep,t,ho,hx,hd,gd⟩ ?_;rw[if_pos (wz.mpr ⟨_,lm hj,pj⟩)]
 | none=>
  dsimp only;have hno: ¬ es.toList.any (λe=>knd.is k e.2)=true:=λq=>by
   obtain⟨e,he,hp⟩:=wz.mp q;have:=List.findIdx?_eq_none_iff.mp hr e he;rw[hp]at this;cases this
  have gv: ∀(b:Bool) {u:ag} {R:Unit->ag->Prop},R () u->av 6#2 A (match b with | true=>rule "set.scan.the-table-gave-way" | false=>pure ()) R E u:=
   λb u R q=>by cases b <;> first | exact al q | exact ju q
  have pm:=layNew_perm t es (knd.hash k) x;obtain⟨gl,wd0⟩:=ztN gd (knd.hash k) x;generalize layNew t es (knd.hash k) x=L at pm gl wd0⊢
  obtain⟨e1,t1,wd,gave⟩:=L;dsimp only at pm gl wd0⊢
  rw[ra]at pm;have z1:e1.size < scanBound:=by have:=pm.length_eq;simp at this;grobner
  refine ac (gv _ ?_);have fin: ∀h' e',Heap.SameBut a s.heap h'->mD led a e' h'->e'.toList.Perm e1.toList->Q true {s with heap:=h'} :=λh' e' sb si pe=>h true h' e' sb si (by rw[if_neg hno];exact pe.trans pm)
  split
  ·refine ac ?_
   rw[hashByValue_scannable 8 hc];refine al (zph (led:=led) ?_ ho hx hd z1 ?_ ?_)
   ·intro b u R q;cases b <;> first | exact al q | exact ju q
   ·split
    ·exact gl
    ·exact gl.plainOff
   ·intro h' e' sb si pe;dsimp only;exact al (fin h' e' sb si pe)
  ·refine ac (al ?_)
   rw[if_pos rfl];refine zph (led:=led) ?_ ho hx hd z1 gl ?_
   ·intro b u R q;cases b <;> first | exact al q | exact ju q
   ·intro h' e' sb si pe;dsimp only;exact al (fin h' e' sb si pe)
end
theorem pD:Slot 46#1 "__next__" "set_iterator.__next__" := .of (owner:= 46#1) (n:= "__next__")
 (by rw[nz,lh];kernel_rfl) 1#0 1#0 1#0 (by first | exact .inl 1#0 | exact .inr 1#0) (by rw[isSubtype_type];kernel_rfl)
theorem aA:entryFor table "set_iterator.__next__" =some Builtin.«set_iterator.__next__»:=entryFor_of_tree (by kernel_rfl)
theorem zsn:entryFor table "set.__iter__" =some Builtin.«frozenset.__iter__»:=entryFor_alias (id':= "frozenset.__iter__") (by kernel_rfl) rfl 1#0 (by kernel_rfl)
theorem znu:Manifest.owners.lookup (String.ofList ['r','o','t','a','r','e','t','i','_','t','e','s'].reverse)=some Manifest.sig_set_iterator:=by kernel_rfl
theorem bG (a:ad):argsOk "set_iterator.__next__" ⟨[a],[]⟩:=by
 unfold argsOk;rw[signature?_of (id:= "set_iterator.__next__") (n:= ['_','_','t','x','e','n','_','_']) (o:= ['r','o','t','a','r','e','t','i','_','t','e','s']) (by kernel_rfl) znu];kernel_rfl
def SI (it a:aa)(f:ad)(i n ep:Nat)(h:cf):Prop:= ∃o,h.get? it=some o/\o.cls= .type 46#1 /\o.data= .fields #[f,.int i 0,.ref a,.int n 0,.int ep 0]
theorem SI.type {it a:aa}{f:ad}{i n ep:Nat}{s:ag}(x:SI it a f i n ep s.heap):s.TypeIs (.ref it) 46#1 :=let⟨o,ho,hc,_⟩:=x;⟨o,ho,hc⟩
theorem SI.keep {it a:aa}{f:ad}{i n ep:Nat}{h h':cf}(x:SI it a f i n ep h)(k: ∀o,h.get? it=some o->h'.get? it=some o):SI it a f i n ep h':=let⟨o,ho,r⟩:=x;⟨o,k o ho,r⟩
structure At (a:aa)(es:Array 9#6)(ep:Nat)(t:SetTable)(h:cf):Prop where
 at_: ∃o,h.get? a=some o/\o.ExactSet/\o.data= .set es ep t
theorem At.keep {a:aa}{es:Array 9#6}{ep:Nat}{t:SetTable}{h h':cf}(x:At a es ep t h)(k: ∀o,h.get? a=some o->h'.get? a=some o):At a es ep t h':=let⟨⟨o,e,r⟩⟩:=x;⟨o,k o e,r⟩
section
variable {prog:br} {w:bz} {A:ci} {E:ad->ag->Prop} {s:ag}
theorem bH {Q:Bool->ag->Prop}(h:Q (w.params.followText 67#1) s):av 6#2 A setsByText Q E s:=by
 unfold setsByText;exact ac (sn (al h))
theorem zy1 {it a:aa}{f:ad}{i n ep:Nat}{h:cf}(x:SI it a f i n ep h)(g:ad):
  SI it a g (i+1) n ep ((h.update it (Obj.mapFields (·.setIfInBounds 0 g))).update it 7#6):=by
 obtain⟨o,ho,hc,hd⟩:=x;have e1:=ck (Obj.mapFields (·.setIfInBounds 0 g)) ho (iy (fo hd _));have d1:=fo hd (·.setIfInBounds 0 g);have e2:=ck 7#6 e1 (iy (fo d1 _));refine⟨_,e2,(mr ..).trans ((mr ..).trans hc),?_⟩;rw[fo d1];simp[rawInt]
theorem zy2 {it a:aa}{f:ad}{i n ep:Nat}{h:cf}(x:SI it a f i n ep h):
  SI it a f (i+1) n ep (h.update it 7#6):=by
 obtain⟨o,ho,hc,hd⟩:=x;have e1:=ck 7#6 ho (iy (fo hd _));refine⟨_,e1,(mr ..).trans hc,?_⟩;rw[fo hd];simp[rawInt]
theorem zmL {it a:aa}{slot i ep:Nat}{es:Array 9#6}{t:SetTable}{Q:Option ad->ag->Prop}(x:SI it a (.int slot 0) i es.size ep s.heap)(y:At a es ep t s.heap)(hf:t.fits es.size=true){v:ad}{nx:Nat}
  (hn: ∀(B:ci) (R:Option (ad×Nat)->ag->Prop) (E':ad->ag->Prop),R (some (v,nx)) s->av 6#2 B (setNext a slot i ep) R E' s)
  (h: ∀h',Heap.SameBut it s.heap h'->SI it a (.int nx 0) (i+1) es.size ep h'->Q (some v) {s with heap:=h'}):av 6#2 A (pyNext (.ref it)) Q E s:=by
 obtain⟨o,ho,hc,hd⟩:=id x;obtain⟨⟨oa,ha,hx,nF⟩⟩:=id y;unfold pyNext;refine ac (lu (fc (name:=Str.ofString "__next__") x.type pD (gb pD x.type aA ?_ (bG _))));unfold Builtin.«set_iterator.__next__»;refine ac (al ?_);refine ac (pd ho hd ?_);show av _ _ (setEntries a >>= _) _ _ s;refine ac (kn ha nF hf ?_);rw[if_neg 3#0];refine ac (hn _ _ _ ?_);show av _ _ (setField (.ref it) 0 (rawInt nx) >>= _) _ _ s;refine ac (jo ho hd 3#0 ?_);have e1:=ck (Obj.mapFields (·.setIfInBounds 0 (rawInt nx))) ho (iy (fo hd _));have d1:=fo hd (·.setIfInBounds 0 (rawInt nx));show av _ _ (setField (.ref it) 1 (rawInt ((i:Int)+1)) >>= _) _ _ _;refine ac (jo (s:= {s with heap:=s.heap.update it (Obj.mapFields (·.setIfInBounds 0 (rawInt nx)))}) e1 d1 3#0 ?_);show av _ _ (ret v) _ _ _;refine al ⟨_,rfl,al (h _ ((fz ..).trans (fz ..)) (zy1 x _))⟩
theorem zoS {B:ci}{R:vQ->ag->Prop}{X:ad->ag->Prop}(hh:B.handled=none){u:ag}(h: ∀e h',(∀b o,u.heap.get? b=some o->h'.get? b=some o)->Shared.TypeIs {u with heap:=h'} e 68#1 ->X e {u with heap:=h'}):
  av 6#2 B (newExc (.type 68#1) [] >>= λe=>raiseNew e) R X u:=by
 refine ac ?_;simp only[newExc,newTuple];refine ac (dw ?_ (by size_fits));refine ac (m:=firstArgMember _ _) (wt (a:=Value.none) (by first | rfl | (simp only[firstArgMember];rfl)) ?_);refine dw ?_ (by size_fits);simp only[raiseNew];refine ac (wpAny_handled ?_);rw[hh];refine ac (al (wpAny_throw ?_));exact h _ _ (λb o e=>ak _ (ak _ e)) ⟨_,be _ rfl,rfl⟩
theorem zj2 {it a:aa}{slot i ep:Nat}{es:Array 9#6}{t:SetTable}{Q:Option ad->ag->Prop}(hh:A.handled=none)(x:SI it a (.int slot 0) i es.size ep s.heap)(y:At a es ep t s.heap)(hf:t.fits es.size=true)
  (hn: ∀(B:ci) (R:Option (ad×Nat)->ag->Prop) (E':ad->ag->Prop),R none s->av 6#2 B (setNext a slot i ep) R E' s)
  (h: ∀h',(∀b o,b≠it->s.heap.get? b=some o->h'.get? b=some o)->Q none {s with heap:=h'}):av 6#2 A (pyNext (.ref it)) Q E s:=by
 obtain⟨o,ho,hc,hd⟩:=id x;obtain⟨⟨oa,ha,hx,nF⟩⟩:=id y;unfold pyNext;refine ac (lu (fc (name:=Str.ofString "__next__") x.type pD (gb pD x.type aA ?_ (bG _))));unfold Builtin.«set_iterator.__next__»;refine ac (al ?_);refine ac (pd ho hd ?_);show av _ _ (setEntries a >>= _) _ _ s;refine ac (kn ha nF hf ?_);rw[if_neg 3#0];refine ac (hn _ _ _ ?_);show av _ _ (setField (.ref it) 2 .none >>= _) _ _ s;refine ac (jo ho hd 3#0 ?_);refine zoS (show A.in1.handled=none from hh) λe h' hk hT=> ?_;refine ac (ln (T:= 68#1) (b:=true) hT pf (al (h _ λb o hb eb=>hk b o ?_)));exact(cm _ _ (dh hb)).trans eb
theorem zuU {it a tp:aa}{i ep:Nat}{es:Array 9#6}{t:SetTable}{ps:Array ad}{Q:Option ad->ag->Prop}(x:SI it a (.ref tp) i es.size ep s.heap)(y:At a es ep t s.heap)(hf:t.fits es.size=true)(z:s.heap.IsTuple tp ps)
  {j:Nat} (hp:ps[i]?=some (.int j 0)) {e:Int×ad} (he:es[j]?=some e)
  (h: ∀h',Heap.SameBut it s.heap h'->SI it a (.ref tp) (i+1) es.size ep h'->Q (some e.2) {s with heap:=h'}):av 6#2 A (pyNext (.ref it)) Q E s:=by
 obtain⟨o,ho,hc,hd⟩:=id x;obtain⟨⟨oa,ha,hx,nF⟩⟩:=id y;obtain⟨ot,hot,hct,nt,hdt⟩:=id z;unfold pyNext;refine ac (lu (fc (name:=Str.ofString "__next__") x.type pD (gb pD x.type aA ?_ (bG _))));unfold Builtin.«set_iterator.__next__»;refine ac (al ?_);refine ac (pd ho hd ?_);show av _ _ (setEntries a >>= _) _ _ s;refine ac (kn ha nF hf ?_);rw[if_neg 3#0];show av _ _ (seqItems? (.ref tp) >>= _) _ _ s;unfold seqItems?;refine ac (ac (rh hot ?_));rw[hdt];refine al ?_;dsimp only;have hp':ps[(i:Int).toNat]?=some (.int j 0):=by simpa using hp
 rw[hp'];dsimp only;unfold setNextDrawn;refine ac (ac (jz ha nF hf ?_));dsimp only;rw[if_neg 3#0];have he':es[(j:Int).toNat]?=some e:=by simpa using he
 rw[he'];refine al ?_;show av _ _ (setField (.ref it) 1 (rawInt ((i:Int)+1)) >>= _) _ _ _;refine ac (jo ho hd 3#0 ?_);exact al ⟨_,rfl,al (h _ (fz ..) (zy2 x))⟩
theorem zsp {it a tp:aa}{i ep:Nat}{es:Array 9#6}{t:SetTable}{ps:Array ad}{Q:Option ad->ag->Prop}(hh:A.handled=none)(x:SI it a (.ref tp) i es.size ep s.heap)(y:At a es ep t s.heap)(hf:t.fits es.size=true)(z:s.heap.IsTuple tp ps)
  (hp:ps[i]?=none) (h: ∀h',(∀b o,b≠it->s.heap.get? b=some o->h'.get? b=some o)->Q none {s with heap:=h'}):av 6#2 A (pyNext (.ref it)) Q E s:=by
 obtain⟨o,ho,hc,hd⟩:=id x;obtain⟨⟨oa,ha,hx,nF⟩⟩:=id y;obtain⟨ot,hot,hct,nt,hdt⟩:=id z;unfold pyNext;refine ac (lu (fc (name:=Str.ofString "__next__") x.type pD (gb pD x.type aA ?_ (bG _))));unfold Builtin.«set_iterator.__next__»;refine ac (al ?_);refine ac (pd ho hd ?_);show av _ _ (setEntries a >>= _) _ _ s;refine ac (kn ha nF hf ?_);rw[if_neg 3#0];show av _ _ (seqItems? (.ref tp) >>= _) _ _ s;unfold seqItems?;refine ac (ac (rh hot ?_));rw[hdt];refine al ?_;dsimp only;have hp':ps[(i:Int).toNat]?=none:=by simpa using hp
 rw[hp'];show av _ _ (setField (.ref it) 0 (rawInt 0) >>= _) _ _ s;refine ac (jo ho hd 3#0 ?_);have e1:=ck (Obj.mapFields (·.setIfInBounds 0 (rawInt 0))) ho (iy (fo hd _));have d1:=fo hd (·.setIfInBounds 0 (rawInt 0));show av _ _ (setField (.ref it) 2 .none >>= _) _ _ _;refine ac (jo (s:= {s with heap:=s.heap.update it (Obj.mapFields (·.setIfInBounds 0 (rawInt 0)))}) e1 d1 3#0 ?_);refine zoS (show A.in1.handled=none from hh) λe h' hk hT=> ?_;refine ac (ln (T:= 68#1) (b:=true) hT pf (al (h _ λb o hb eb=>hk b o ?_)));exact(cm _ _ (dh hb)).trans ((cm _ _ (dh hb)).trans eb)
end
theorem zbV {α:Type} : ∀{l:List α} {i:Nat} (h:i < l.length),(l[i]::l.eraseIdx i).Perm l
 | x::l,0,_=>ix _
 | x::l,i+1,h=>(List.Perm.swap _ _ _).trans ((zbV (l:=l) (i:=i) (by simpa using h)).cons x)
theorem znG {α:Type}(f:Nat->Nat): ∀(n k:Nat) (l:List α) (out:Array α),l.length=n->(pickOrder.go f n k l out).toList.Perm (out.toList++l)
 | 0,k,l,out,h=>by
  unfold pickOrder.go;rw[ji.mp h,cg]
 | n+1,k,l,out,h=>by
  unfold pickOrder.go;have yf:f k % l.length < l.length:=rk _ 0#0;rw[bn yf];dsimp only;refine(znG f n (k+1) _ _ (by rw[qm yf];grobner)).trans ?_;rw[ra,wk];exact(ix _).append (zbV yf)
theorem zwC {α:Type}(f:Nat->Nat)(xs:Array α):(pickOrder f xs).toList.Perm xs.toList:=by
 unfold pickOrder;have:=znG f xs.size 0 xs.toList #[] 3#0;simpa using this
section
variable {prog:br} {w:bz} {A:ci} {E:ad->ag->Prop} {s:ag}
theorem zjz {α:Type} : ∀(n:Nat) (xs:List α) (s:ag) {Q:List α->ag->Prop},xs.length<=n->(∀ys d,ys.Perm xs->Q ys {s with drawn:=d})->av 6#2 A (drawOrder n xs) Q E s
 | 0,xs,s,Q,hn,h=>by
  have e:xs= []:=ji.mp 0#0;subst e;unfold drawOrder;exact al (h [] s.drawn (ix _))
 | n+1,[],s,Q,hn,h=>by
  unfold drawOrder;exact al (h [] s.drawn (ix _))
 | n+1,x::xs,s,Q,hn,h=>by
  unfold drawOrder;refine ac (m:=choose .order (x::xs).length) ?_;intro Γ p hΓ;unfold choose;rw[Sem.wp_choose];refine⟨3#0,?_⟩;rw[show(Sem.pure:Nat->Sem Nat)=(pure:Nat->Sem Nat)from rfl];generalize hi:(bb prog w).w.draws Source.order (s.drawn.get Source.order) % (x::xs).length=i;have yf:i < (x::xs).length:=by rw[<- hi];exact rk _ 3#0
  refine al (M:=bb prog w) (A:=A) (E:=E) (s:= {s with drawn:=s.drawn.bump Source.order}) (Q:=λi s'=>av 6#2 A (match(x::xs)[i]? with | some y=>do return y::(<- drawOrder n ((x::xs).eraseIdx i)) | none=>unsupported "internal:drawOrder") Q E s') ?_ Γ p hΓ;rw[bn yf];dsimp only;refine ac (zjz n _ _ (by rw[qm yf];simp at hn yf⊢;grobner) λys d hp=>al (h _ d ?_));exact(hp.cons _).trans (zbV yf)
theorem zmM {a:aa}{es:Array 9#6}{ep slot i:Nat}{t:SetTable}{R:Option (ad×Nat)->ag->Prop}(y:At a es ep t s.heap)(hf:t.fits es.size=true)(hT:w.params.followText 67#1 =true)
  (h:R (((pickOrder (w.params.setOrder a ep) es)[i]?).map λe=>(e.2,slot)) s):av 6#2 A (setNext a slot i ep) R E s:=by
 obtain⟨⟨o,ho,hx,hd⟩⟩:=y;unfold setNext;refine ac (jz ho hd hf (ac (bH ?_)));rw[hT,if_pos rfl,if_neg 3#0];unfold setWalk;refine ac (ac (jz ho hd hf (ac (bH ?_))));rw[hT,if_pos rfl];exact ac (sn (al (al h)))
theorem zmK {a:aa}{es:Array 9#6}{ep slot i:Nat}{t:SetTable}{R:Option (ad×Nat)->ag->Prop}(y:At a es ep t s.heap)(hf:t.fits es.size=true)(hT:w.params.followText 67#1 =false)(hled:t.led=true)(hp:(!t.plain&&decide (es.size > 1))=false)
  (h:R (match es[SetTable.below t.place slot]?,t.place[SetTable.below t.place slot]? with | some (_,x),some j=>some (x,j+1) | _,_=>none) s):av 6#2 A (setNext a slot i ep) R E s:=by
 obtain⟨⟨o,ho,hx,hd⟩⟩:=y;unfold setNext;refine ac (jz ho hd hf (ac (bH ?_)));rw[hT,if_neg cr];show av _ _ (if(!t.plain&&decide (es.size > 1))=true then _ else _) _ _ s;rw[hp,if_neg cr];show av _ _ ((if(!t.led&& !es.isEmpty)=true then unsupported "set:maker-not-led" else pure ()) >>= _) _ _ s;rw[hled];exact ac (al (al h))
def oG (t:SetTable)(i:Nat):Nat:=if i=0 then 0 else t.place.getD (i - 1) 0+1
theorem ziO {t:SetTable}(hr:lF t.place){i:Nat}(hi:i<=t.place.size):SetTable.below t.place (oG t i)=i:=by
 obtain⟨h0,h1,h2⟩:=ziP hr (oG t i);have key: ∀j (h:j < t.place.size),j < i->t.place[j] < oG t i:=λj h hj=>by
  unfold oG;rw[if_neg 0#0];have e:t.place.getD (i - 1) 0=t.place[i - 1]:=by simp[Array.getD,show i - 1 < t.place.size by grobner]
  rw[e];by_cases hq:j=i - 1
  ·subst hq;grobner
  ·have:=hr j (i - 1) h 0#0 0#0;grobner
 have key2: ∀(h:i < t.place.size),oG t i<=t.place[i]:=λh=>by
  unfold oG;by_cases hz:i=0
  ·rw[if_pos hz];grobner
  ·rw[if_neg hz]
   have e:t.place.getD (i - 1) 0=t.place[i - 1]:=by simp[Array.getD,show i - 1 < t.place.size by grobner]
   rw[e];have:=hr (i - 1) i 0#0 h 0#0;grobner
 rcases Nat.lt_trichotomy (SetTable.below t.place (oG t i)) i with h | h | h
 ·have a1:=h2 _ 0#0 (aq _)
  have a2:=key _ 0#0 h;grobner
 ·exact h
 ·have a1:=h1 i 0#0 h
  have a2:=key2 0#0;grobner
theorem zoE:Slot 46#1 "__iter__" "set_iterator.__iter__" := .of (owner:= 46#1) (n:= "__iter__")
 (by rw[nz,lh];kernel_rfl) 1#0 1#0 1#0 (by first | exact .inl 1#0 | exact .inr 1#0) (by rw[isSubtype_type];kernel_rfl)
theorem zso:entryFor table "set_iterator.__iter__" =some Builtin.«dict_keyiterator.__iter__»:=entryFor_alias (id':= "dict_keyiterator.__iter__") (by kernel_rfl) rfl 1#0 (by kernel_rfl)
theorem zrf (a:ad):argsOk "set_iterator.__iter__" ⟨[a],[]⟩:=by
 unfold argsOk;rw[signature?_of (id:= "set_iterator.__iter__") (n:= ['_','_','r','e','t','i','_','_']) (o:= ['r','o','t','a','r','e','t','i','_','t','e','s']) (by kernel_rfl) znu];kernel_rfl
theorem zhp {it a:aa}{f:ad}{i n ep:Nat}{Q:ad->ag->Prop}(x:SI it a f i n ep s.heap)(h:Q (.ref it) s):av 6#2 A (pyIter (.ref it)) Q E s:=by
 refine wpAny_pyIter_slot x.type zoE (gb zoE x.type zso ?_ (zrf _));show av _ _ (ret (.ref it)) _ _ s;exact al ⟨_,rfl,46#1,_,x.type,pD.lookup,h⟩
def bF (prog:br)(w:bz)(I:aa)(fp:List aa)(ord:List ad)(St:Nat->cf->Prop):Prop:= ∀B:ci,B.handled=none->Walks prog w B I fp [I] ord.length (λi v=>ord[i]?=some v) St
theorem z0m {it a:aa}(ne:a≠it){es:Array 9#6}{ep:Nat}{t:SetTable}(hf:t.fits es.size=true)(hT:w.params.followText 67#1 =true):
  bF prog w it [it,a] ((pickOrder (w.params.setOrder a ep) es).toList.map (·.2)) (λi h=>SI it a (.int (0:Nat) 0) i es.size ep h/\At a es ep t h):=λB hB=>
 {sub:=λb hb=>by simp at hb;simp[hb]
  frame:=λi h h' st k=>⟨st.1.keep (k it 3#0),st.2.keep (k a 3#0)⟩
  item:=λi u Q X hi st hQ=>by
   have hl:i < (pickOrder (w.params.setOrder a ep) es).size:=by simpa using hi
   refine zmL (v:=(pickOrder (w.params.setOrder a ep) es)[i].2) (nx:=0) st.1 st.2 hf (λB' R X' r=>zmM st.2 hf hT ?_) λh' sb si=>hQ _ h' u.toks ?_ ⟨si,st.2.keep λo e=>(sb.2 a ne).trans e⟩ λb o hb e=>(sb.2 b (by simpa using hb)).trans e
   ·rw[cx hl];exact r
   ·rw[dv,jx,cx hl];rfl
  done:=λu Q X st hQ=>by
   refine zj2 hB st.1 st.2 hf (λB' R X' r=>zmM st.2 hf hT ?_) λh' k=>hQ h' u.toks λb o hb e=>k b o (by simpa using hb) e;rw[kz 3#0];exact r
  self:=λi u Q X st hQ=>zhp st.1 hQ}
theorem z0l {it a:aa}(ne:a≠it){es:Array 9#6}{ep:Nat}{t:SetTable}(g:uV true es.size t)(hT:w.params.followText 67#1 =false)(hp:(!t.plain&&decide (es.size > 1))=false):
  bF prog w it [it,a] (es.toList.map (·.2)) (λi h=>SI it a (.int (oG t i:Nat) 0) i es.size ep h/\At a es ep t h):=λB hB=>by
 have hsz:t.place.size=es.size:=by have:=g.fits;unfold SetTable.fits at this;simp at this;exact this.1
 exact
 {sub:=λb hb=>by simp at hb;simp[hb]
  frame:=λi h h' st k=>⟨st.1.keep (k it 3#0),st.2.keep (k a 3#0)⟩
  item:=λi u Q X hi st hQ=>by
   have hl:i < es.size:=by simpa using hi
   have hl2:i < t.place.size:=0#0
   have hs:t.place[i]+1=oG t (i+1):=by unfold oG;rw[if_neg 0#0];simp[Array.getD,hl2]
   refine zmL (v:=es[i].2) (nx:=oG t (i+1)) st.1 st.2 g.fits (λB' R X' r=>zmK st.2 g.fits hT g.led hp ?_) λh' sb si=>hQ _ h' u.toks ?_ ⟨si,st.2.keep λo e=>(sb.2 a ne).trans e⟩ λb o hb e=>(sb.2 b (by simpa using hb)).trans e
   ·rw[ziO g.rise 0#0,cx hl,cx hl2,<- hs]at *;exact r
   ·rw[dv,jx,cx hl];rfl
  done:=λu Q X st hQ=>by
   refine zj2 hB st.1 st.2 g.fits (λB' R X' r=>zmK st.2 g.fits hT g.led hp ?_) λh' k=>hQ h' u.toks λb o hb e=>k b o (by simpa using hb) e;rw[ziO g.rise (by simp[hsz]),kz 3#0];exact r
  self:=λi u Q X st hQ=>zhp st.1 hQ}
theorem z0k {it a tp:aa}(ne:a≠it)(nt:tp≠it){es:Array 9#6}{ep:Nat}{t:SetTable}(hf:t.fits es.size=true){js:List Nat}(hj:js.Perm (List.range es.size)):
  bF prog w it [it,a,tp] (js.map λj=>(es.getD j default).2) (λi h=>SI it a (.ref tp) i es.size ep h/\At a es ep t h/\h.IsTuple tp (js.map λ(j:Nat)=>rawInt j).toArray):=λB hB=>
 {sub:=λb hb=>by simp at hb;simp[hb]
  frame:=λi h h' st k=>⟨st.1.keep (k it 3#0),st.2.1.keep (k a 3#0),let⟨o,e,r⟩:=st.2.2;⟨o,k tp 3#0 o e,r⟩⟩
  item:=λi u Q X hi st hQ=>by
   have hl:i < js.length:=by simpa using hi
   have hjl:js[i] < es.size:=ou.mp (hj.mem_iff.mp (lm hl));refine zuU (j:=js[i]) (e:=es[js[i]]) st.1 st.2.1 hf st.2.2 ?_ (cx hjl) λh' sb si=>hQ _ h' u.toks ?_ ⟨si,st.2.1.keep λo e=>(sb.2 a ne).trans e,let⟨o,e,r⟩:=st.2.2;⟨o,(sb.2 tp nt).trans e,r⟩⟩ λb o hb e=>(sb.2 b (by simpa using hb)).trans e
   ·simp[hl,rawInt]
   ·simp[hl,Array.getD,hjl]
  done:=λu Q X st hQ=>by
   refine zsp hB st.1 st.2.1 hf st.2.2 ?_ λh' k=>hQ h' u.toks λb o hb e=>k b o (by simpa using hb) e;simp
  self:=λi u Q X st hQ=>zhp st.1 hQ}
end
section
variable {prog:br} {w:bz} {A:ci} {E:ad->ag->Prop} {s:ag}
structure zpP (prog:br)(w:bz)(a:aa)(es:Array 9#6)(s s1:ag)(I:aa)(fp:List aa)(ord:List ad)(St:Nat->cf->Prop):Prop where
 keep: ∀b o,s.heap.get? b=some o->s1.heap.get? b=some o
 fresh:s.heap.objs.size<=I
 foot: ∀b∈fp,b=a∨s.heap.objs.size<=b
 same:s1.gens=s.gens/\s1.os=s.os/\s1.toks=s.toks
 perm:ord.Perm (es.toList.map (·.2))
 walk:bF prog w I fp ord St
 st:St 0 s1.heap
theorem zsN (es:Array 9#6):((List.range es.size).map λj=>(es.getD j default).2)=es.toList.map (·.2):=by
 apply rb;intro i;rw[dv,dv];by_cases h:i < es.size
 ·rw[vi h];simp[Array.getD,h]
 ·rw[ng (by simpa using h),ng (by simpa using h)];rfl
theorem zt3 {a:aa}{es:Array 9#6}{ep:Nat}{t:SetTable}{Q:ad->ag->Prop}(y:At a es ep t s.heap)(g:uV (!w.params.followText 67#1) es.size t)(hz:es.size<=1000)
  (h: ∀I s1 fp ord St,zpP prog w a es s s1 I fp ord St->Q (.ref I) s1):av 6#2 A (pyIter (.ref a)) Q E s:=by
 obtain⟨⟨o,ho,hx,hd⟩⟩:=id y;have hT:s.TypeIs (.ref a) "set" :=⟨o,ho,hx.1⟩;have hal:a < s.heap.objs.size:=aw ho;refine wpAny_pyIter_slot hT F.slot_set_iter (gb F.slot_set_iter hT zsn ?_ (F.args_set_iter_1 _));unfold Builtin.«frozenset.__iter__» Builtin.Frozenset.slot0 slotArgs;simp only[List.isEmpty_nil,Bool.not_true,gk,if_false,bind_assoc,cz,bne_self_eq_false];unfold Builtin.Frozenset.addrOf Builtin.Frozenset.sizeOf;refine ac (al (ac (al ?_)));refine ac (ac (kn ho hd g.fits (al ?_)));unfold setDrawn;refine ac (ac (jz ho hd g.fits (ac (bH (al ?_)))));show av _ _ (if(!w.params.followText 67#1 &&(!t.plain&&decide (es.size > 1)))=true then _ else _) _ _ s;by_cases hc:(!w.params.followText 67#1 &&(!t.plain&&decide (es.size > 1)))=true
 ·rw[if_pos hc]
  refine ac (zjz es.size (List.range es.size) s 3#0 λjs d hj=> ?_);have hjl:js.length=es.size:=by have:=hj.length_eq;simpa using this
  refine ac (dw ?_ (by show(List.map _ js).toArray.size<=am;rw[bj,ah,hjl];exact cb hz 2#0));refine ac (wpAny_setEpoch_of (ak _ ho) hd g.fits ?_);refine ac (dw ?_ (by size_fits));generalize ht:({cls:= .type 22#1,data:= .seq (js.map λ(i:Nat)=>rawInt i).toArray} :aj)=ot;have e1:(s.heap.push ot).get? s.heap.objs.size=some ot:=be _ (by subst ht;rfl);refine al ⟨_,rfl,46#1,_,⟨_,be _ rfl,rfl⟩,pD.lookup,h _ _ [(s.heap.push ot).objs.size,a,s.heap.objs.size] (js.map λj=>(es.getD j default).2) (λi h=>SI (s.heap.push ot).objs.size a 6#3 i es.size ep h/\At a es ep t h/\h.IsTuple s.heap.objs.size (js.map λ(j:Nat)=>rawInt j).toArray) ?_⟩;have sz:(s.heap.push ot).objs.size=s.heap.objs.size+1:=du ..;refine⟨λb o e=>ak _ (ak _ e),by rw[sz];grobner,λb hb=> ?_,⟨rfl,rfl,rfl⟩,?_,z0k (t:=t) (ep:=ep) (by rw[sz];exact bo (ka hal)) (by rw[sz];exact bo (ia _)) g.fits hj,⟨_,be _ rfl,rfl,rfl⟩,y.keep λo e=>ak _ (ak _ e),⟨ot,ak _ e1,by subst ht;exact⟨rfl,_,rfl⟩⟩⟩
  ·simp only[ar,bu,or_false]at hb
   rcases hb with rfl | rfl | rfl
   ·rw[sz];exact .inr (jt _)
   ·exact .inl rfl
   ·exact .inr (aq _)
  ·rw[<- zsN];exact hj.map _
 ·rw[if_neg hc]
  refine ac (al (ac (wpAny_setEpoch_of ho hd g.fits ?_)));refine ac (dw ?_ (by size_fits));have ne:a≠s.heap.objs.size:=bo hal;have keep: ∀(oI:aj) b o,s.heap.get? b=some o->(s.heap.push oI).get? b=some o:=λoI b o e=>ak _ e;have foot: ∀b∈ [s.heap.objs.size,a],b=a∨s.heap.objs.size<=b:=λb hb=>by
   simp only[ar,bu,or_false]at hb;rcases hb with rfl | rfl
   ·exact .inr (aq _)
   ·exact .inl rfl
  cases hT:w.params.followText 67#1 with
  | true=>
   exact al ⟨_,rfl,46#1,_,⟨_,be _ rfl,rfl⟩,pD.lookup,h _ _ _ _ _ ⟨keep _,aq _,foot,⟨rfl,rfl,rfl⟩,(zwC _ es).map _,z0m (t:=t) (ep:=ep) ne g.fits hT,⟨_,be _ rfl,rfl,rfl⟩,y.keep λo e=>ak _ e⟩⟩
  | false=>
   rw[hT]at hc g;have hp:(!t.plain&&decide (es.size > 1))=false:=by simpa using hc
   exact al ⟨_,rfl,46#1,_,⟨_,be _ rfl,rfl⟩,pD.lookup,h _ _ _ _ _ ⟨keep _,aq _,foot,⟨rfl,rfl,rfl⟩,ix _,z0l (ep:=ep) ne g hT hp,⟨_,be _ rfl,rfl,rfl⟩,y.keep λo e=>ak _ e⟩⟩
theorem ztb {a:aa}{Q:Bool->ag->Prop}(hT:s.TypeIs (.ref a) "set")(h:Q false s):av 6#2 A (Builtin.List.listLengthHint (.ref a)) Q E s:=by
 unfold Builtin.List.listLengthHint;refine ac (nv hT F.slot_set_len.lookup ?_);generalize hid:("set.__len__" :String)=nm
 wp_delta
 rw[show splitId nm=some ("set","__len__")from by subst hid;decide+kernel];subst hid;refine ac (ln (T:= "set") (b:=true) hT sub_set_self ?_);refine md (λz=>absurd z 2#0) (λ_=> ?_);refine md (λ_=> ?_) (λz=>absurd 1#0 z);exact ac (ld hT (al h))
theorem zs4 {a:aa}{es:Array 9#6}{ep:Nat}{t:SetTable}{R:Result->ag->Prop}(hh:A.handled=none)(y:At a es ep t s.heap)(g:uV (!w.params.followText 67#1) es.size t)(hz:es.size<=1000)(S:aa)(hSa:S≠a)(res:ad)(c:Nat)
  (hS:s.heap.get? S=some {cls:= .type 9#1,data:= .seq #[] c})
  (hR: ∀s' yc c',(∀b o,b≠S->s.heap.get? b=some o->s'.heap.get? b=some o)->s'.heap.get? S=some {cls:= .type 9#1,dict:=none,data:= .seq yc c',slots:= #[]} ->yc.toList.Perm (es.toList.map (·.2))->s'.gens=s.gens/\s'.os=s.os/\s.toks<=s'.toks->R (.ok (.ret res)) s'):
  av 6#2 A.in1 (Builtin.List.listExtendWith (.ref S) (.ref a) res) (λfin s'=>match fin with | .done f=>R (.ok f) s' | .again c'=>c'.quiet=true/\jf 6#2 A c' R s') (λe s'=>R (.error e) s') s:=by
 obtain⟨⟨o,ho,hx,hd⟩⟩:=id y;have hT:s.TypeIs (.ref a) "set" :=⟨o,ho,hx.1⟩;have hSl:S < s.heap.objs.size:=aw hS;unfold Builtin.List.listExtendWith;refine ac (ld hT ?_);have h1:Builtin.List.listSameRef (.ref S) (.ref a)=false:=by simp[Builtin.List.listSameRef,hSa]
 simp only[h1,show(Value.type "set" ==Value.type 9#1)=false by decide,show(Value.type "set" ==Value.type 22#1)=false by decide,iq,gk,if_false];refine ac (zt3 y g hz λI s1 fp ord St bg=> ?_);have hS1:=bg.keep _ _ hS;have hT1:s1.TypeIs (.ref a) "set" :=⟨o,bg.keep _ _ ho,hx.1⟩;have hSf:S∉fp:=λz=>by
  rcases bg.foot S z with e | e
  ·exact hSa e
  ·exact absurd hSl (og.mpr e)
 have ol:ord.length=es.size:=by have:=bg.perm.length_eq;simpa using this
 refine ac (ga (ztb hT1 ?_));refine md (λ_=> ?_) (λz=>absurd 2#0 z);refine ac (ju (ac ?_));show av _ _ (updateSeq S (·.push .none) >>= λ_=>updateSeq S (·.pop)) _ _ _;refine ac (ip hS1 rfl ?_);have hS2:=ck (Obj.mapSeq (·.push Value.none)) hS1 rfl;refine ip (hz:=by seq_fits) hS2 rfl ?_;have hS3:=ck (Obj.mapSeq (·.pop)) hS2 rfl;have ot: ∀b ob,b≠S->s1.heap.get? b=some ob->((s1.heap.update S (Obj.mapSeq (·.push Value.none))).update S (Obj.mapSeq (·.pop))).get? b=some ob:=λb ob hb e=>
  (cm _ _ (dh hb)).trans ((cm _ _ (dh hb)).trans e)
 refine al ⟨jh F.plain_extend_loop _,?_⟩;have W:=bg.walk A.in1 hh;refine uz W.toS (by rw[ol];exact cb hz 2#0) S hSf res ord.length 0 _ #[] _ rfl (db _) (W.frame 0 _ _ bg.st λb hb ob e=>ot b ob (λz=>hSf (z▸hb)) e) hS3 (ItemsOf.nil _) λs' yc c' hm hS' yj=> ?_;have ea:yc.toList=ord:=by
  apply rb;intro i;by_cases hi:i < yc.size
  ·have e1:yc[i]?=some yc[i]:=cx hi
   have:=yj.2 i _ e1;rw[jx,e1,this]
  ·rw[jx,kz 0#0,ng (by rw[<- yj.1];grobner)]
 refine hR s' yc c' (λb ob hb e=>hm.heap b ob (λz=> ?_) (ot b ob hb (bg.keep b ob e))) hS' (by rw[ea];exact bg.perm) ?_
 ·rcases ar.mp z with z | z
  ·exact hb z
  ·exact absurd (aw e) (og.mpr (by rw[au.mp z];exact bg.fresh))
 ·obtain⟨g1,g2,g3⟩:=bg.same
  exact⟨Eq.trans hm.gens g1,Eq.trans hm.os g2,by have:=hm.toks;rw[<- g3];exact this⟩
theorem collect_set {a:aa}{es:Array 9#6}{ep:Nat}{t:SetTable}{R:List ad->ag->Prop}(hh:A.handled=none)(y:At a es ep t s.heap)(g:uV (!w.params.followText 67#1) es.size t)(hz:es.size<=1000)
  (h: ∀(s':ag) (vs:List ad),(∀b o,s.heap.get? b=some o->s'.heap.get? b=some o)->vs.Perm (es.toList.map (·.2))->s'.gens=s.gens/\s'.os=s.os/\s.toks<=s'.toks->R vs s'):av 6#2 A (collect (.ref a)) R E s:=by
 have hal:a < s.heap.objs.size:=let⟨⟨o,ho,_⟩⟩:=y;aw ho;unfold collect;refine ac (wpAny_runValue (jd F.entry_proto_collect ?_));rw[ig F.plain_proto_collect _];show av _ A.in1 (newList [] >>= λl=>again (.builtin "list.__iadd__" ⟨[l,.ref a],[]⟩)) _ _ s;refine ac (dw ?_);refine al ⟨jh wl _,jd F.entry_list_iadd ?_⟩;rw[ig wl _];have hS1:(s.heap.push {cls:= .type 9#1,data:= .seq ([]:List ad).toArray}).get? s.heap.objs.size=some {cls:= .type 9#1,data:= .seq #[]} :=be _ rfl;show av _ A.in1 (Builtin.List.listExtendWith 6#3 (.ref a) 6#3) _ _ _;have key:=zs4 (prog:=prog) (A:=A) (s:= {s with heap:=s.heap.push {cls:= .type 9#1,data:= .seq ([]:List ad).toArray}}) (R:=λq s'=> ∃yc c',q= .ok (.ret 6#3)/\(∀b o,s.heap.get? b=some o->s'.heap.get? b=some o)/\
   s'.heap.get? s.heap.objs.size=some {cls:= .type 9#1,dict:=none,data:= .seq yc c',slots:= #[]} /\yc.toList.Perm (es.toList.map (·.2))/\s'.gens=s.gens/\s'.os=s.os/\s.toks<=s'.toks) hh (y.keep λo e=>ak _ e) g hz s.heap.objs.size (cp hal) 6#3 0 hS1
  (λs' yc c' k k2 pm sm=>⟨yc,c',rfl,λb o e=>k b o (bo (aw e)) (ak _ e),k2,pm,sm⟩)
 refine gu key (λfin s' x=> ?_) λe s' x=> ?_
 ·cases fin with
  | done f=>
   obtain⟨yc,c',e,k,k2,pm,sm⟩:=x;cases e;exact ac (rh k2 (al (h s' yc.toList k pm sm)))
  | again c1=>
   refine⟨x.1,kf x.2 λq s2 x=> ?_⟩;obtain⟨yc,c',rfl,k,k2,pm,sm⟩:=x;exact ac (rh k2 (al (h s2 yc.toList k pm sm)))
 ·obtain⟨_,_,e',_⟩:=x
  cases e'
end
section
variable {prog:br} {w:bz} {A:ci} {E:ad->ag->Prop} {s:ag}
abbrev rA (led:Bool):aj:= {cls:= .type "set",dict:=none,data:= .set #[] 0 (.fresh 0 0 led)}
abbrev sK (w:bz):Bool:= !w.params.followText 67#1
theorem zuS (arg:ad){Q:ad->ag->Prop}(h:Q 6#3 {s with heap:=s.heap.push (rA (sK w))}):jf 6#2 A (.call (.builtin "set.__new__") ⟨[.type "set",arg],[]⟩) (wants Q E) s:=by
 refine codeAny_of_tree ?_;show av _ A.in1 (do checkBuiltinCall "set.__new__" ⟨[.type "set",arg],[]⟩;again (.builtin "set.__new__" ⟨[.type "set",arg],[]⟩)) _ _ s;refine ac (wt (F.newCall_set_1 arg) (al ⟨jh F.plain_set_new _,jd F.entry_set_new ?_⟩));rw[ig F.plain_set_new _];unfold Builtin.«set.__new__» Builtin.Frozenset.newClass;have hsub:=sub_set_self;obtain⟨hp,g,d,tk,os⟩:=s;dsimp only
 wp_walk
 refine sn (al ?_);dsimp only;simp only[newObj];refine ac (wpAny_alloc (al ?_));exact al h
theorem zrJ {arg:ad}{Post:ag->Prop}{Q:ad->ag->Prop}(hh:A.handled=none)
  (hu: ∀(B:ci) (X:ad->ag->Prop) (R:Unit->ag->Prop),B.handled=none->(∀s',Post s'->R () s')->av 6#2 B (Builtin.Frozenset.updateFrom "set.__init__" s.heap.objs.size arg) R X {s with heap:=s.heap.push (rA (sK w))})
  (h: ∀s',Post s'->Q 6#3 s'):av 6#2 A (call (.type "set") [arg]) Q E s:=by
 obtain⟨c,tl,hmro⟩:=kh.mro;have hmade:=kh.made;have hsub:=kh.sub;refine uv (codeAny_of_tree ?_);show av _ _ (callAny (.type "set") _) _ _ _;refine al ⟨Code.quiet_builtin _ 1#0,jd F.entry_type_call ?_⟩;rw[Around.under_plain (weight_type_call_type "set" [arg] []) rfl];have h1:=kh.notType;have h2:=kh.canCreate;have hct:=F.typeCall_set_1 arg
 repeat(any_goals (first | assumption | wp_step))
 refine kf (zuS arg (E:=E) (Q:=λobj u=>obj= .ref s.heap.objs.size/\u= {s with heap:=s.heap.push (rA (sK w))}) ⟨rfl,rfl⟩) λr u hr=> ?_;cases r with
 | error e=>exact hr
 | ok fl=>
  cases fl with
  | ret obj=>
   obtain⟨rfl,rfl⟩:=hr;have hS:(s.heap.push (rA (sK w))).get? s.heap.objs.size=some (rA (sK w)):=be _ rfl;have hT:Shared.TypeIs {s with heap:=s.heap.push (rA (sK w))} 6#3 "set" :=⟨_,hS,rfl⟩;have hli:=kh.init.lookup;have hbi:=kh.init.bind 6#3
   repeat(any_goals (first | assumption | wp_step))
   refine kf (codeAny_call_builtin (R:=wants (λr u=>r= .none/\Post u) E) kh.init.plain F.entry_set_init (check_set_init_1 hT ?_)) λr2 s2 hr2=> ?_
   ·unfold Builtin.«set.__init__» noKeywords
    have hu':=hu;generalize Builtin.Frozenset.updateFrom=U at hu'⊢
    wp_walk
    exact hu' _ _ _ (by simp[hh]) λs' hP=>al ⟨rfl,hP⟩
   ·cases r2 with
    | error e=>exact hr2
    | ok fl2=>
     cases fl2 with
     | ret r=>
      obtain⟨rfl,hP⟩:=hr2
      repeat(any_goals (first | assumption | wp_step))
      exact h _ hP
     | _=>exact hr2.elim
  | _=>exact hr.elim
end
inductive Two {α β:Type}(R:α->β->Prop):List α->List β->Prop
 | nil:Two R [] []
 | cons {a:α} {b:β} {l:List α} {m:List β} :R a b->Two R l m->Two R (a::l) (b::m)
theorem Two.perm {α β:Type}{R:α->β->Prop}{l l':List α}(p:l'.Perm l): ∀{m:List β},Two R l m->∃m',m'.Perm m/\Two R l' m':=by
 induction p with
 | nil=>intro m h;exact⟨m,ix _,h⟩
 | cons x _ ih=>
  intro m h;cases h with
  | cons r t=>
   obtain⟨m',p',h'⟩:=ih t;exact⟨_,p'.cons _,.cons r h'⟩
 | swap x y l=>
  intro m h;cases h with
  | cons r t=>
   cases t with
   | cons r' t=>exact⟨_,List.Perm.swap _ _ _,.cons r' (.cons r t)⟩
 | trans _ _ ih1 ih2=>
  intro m h;obtain⟨m1,p1,h1⟩:=ih2 h;obtain⟨m2,p2,h2⟩:=ih1 h1;exact⟨m2,p2.trans p1,h2⟩
theorem Two.append {α β:Type}{R:α->β->Prop}{l l':List α}{m m':List β}(h:Two R l m)(h':Two R l' m'):Two R (l++l') (m++m'):=by
 induction h with
 | nil=>exact h'
 | cons r _ ih=>exact .cons r ih
theorem Two.map {α β γ:Type}{R:α->β->Prop}{S:γ->β->Prop}{f:α->γ}(hf: ∀a b,R a b->S (f a) b){l:List α}{m:List β}(h:Two R l m):Two S (l.map f) m:=by
 induction h with
 | nil=>exact .nil
 | cons r _ ih=>exact .cons (hf _ _ r) ih
theorem Two.len {α β:Type}{R:α->β->Prop}{l:List α}{m:List β}(h:Two R l m):l.length=m.length:=by
 induction h with
 | nil=>rfl
 | cons _ _ ih=>rw[ao,ao,ih]
def uZ {K:Type}[DecidableEq K](ds:List K)(k:K):List K:=if k∈ds then ds else ds++ [k]
def dd {K:Type}[DecidableEq K](ks:List K):List K:=ks.foldl uZ []
theorem zra {K:Type}[DecidableEq K]{ds:List K}{k:K}(h:ds.Nodup):(uZ ds k).Nodup:=by
 unfold uZ
 split
 ·exact h
 ·rename_i hn
  exact mq.mpr ⟨h,3#0,λa ha b hb=>by cases au.mp hb;exact λe=>hn (e▸ha)⟩
theorem zqZ {K:Type}[DecidableEq K]{ds:List K}{k x:K} :x∈uZ ds k↔x∈ds∨x=k:=by
 unfold uZ
 split
 ·rename_i h;exact⟨.inl,λz=>z.elim id (λe=>e▸h)⟩
 ·rw[bi,au]
theorem zqY {K:Type}[DecidableEq K]{ds:List K}{k:K} :(uZ ds k).length<=ds.length+1:=by
 unfold uZ
 split
 ·exact jt _
 ·rw[af];exact aq _
theorem zlH {K:Type}[DecidableEq K]: ∀(ks:List K) {ds:List K},ds.Nodup->(ks.foldl uZ ds).Nodup
 | [],_,h=>h
 | k::ks,_,h=>zlH ks (zra h)
theorem zlG {K:Type}[DecidableEq K]{x:K} : ∀(ks:List K) {ds:List K},x∈ks.foldl uZ ds↔x∈ds∨x∈ks
 | [],ds=>3#0
 | k::ks,ds=>by rw[nn,zlG ks,zqZ,ar,or_assoc]
theorem zf_ {K:Type}[DecidableEq K]: ∀(ks:List K) {ds:List K},(ks.foldl uZ ds).length<=ds.length+ks.length
 | [],_=>aq _
 | k::ks,ds=>by
  have h1:=zf_ ks (ds:=uZ ds k);have h2:=zqY (ds:=ds) (k:=k);rw[nn,ao];grobner
theorem dd_nodup {K:Type}[DecidableEq K](ks:List K):(dd ks).Nodup:=zlH ks (ds:= []) .nil
theorem dd_mem {K:Type}[DecidableEq K]{ks:List K}{x:K} :x∈dd ks↔x∈ks:=by unfold dd;rw[zlG];simp
theorem dd_len {K:Type}[DecidableEq K](ks:List K):(dd ks).length<=ks.length:=by have:=zf_ ks (ds:= []);rw[cz,so]at this;exact this
section
variable {prog:br} {w:bz} {K:Type} [DecidableEq K] (knd:KeyKind prog w K)
def cJ (e:Int×ad)(k:K):Prop:=knd.is k e.2=true/\e.1=knd.hash k/\e.2.scannable=true
def Ents (es:Array 9#6)(ds:List K):Prop:= ∃ds':List K,ds'.Perm ds/\Two (cJ knd) es.toList ds'
variable {knd}
theorem zzC {l:List 9#6}{ds:List K}(h:Two (cJ knd) l ds):ElemsOf knd l:=by
 induction h with
 | nil=>intro e he;cases he
 | cons r _ ih=>
  intro e he;rcases ar.mp he with rfl | he
  ·exact⟨⟨_,r.1,r.2.1⟩,r.2.2⟩
  ·exact ih e he
theorem zzB {l:List 9#6}{ds:List K}(h:Two (cJ knd) l ds)(k:K):(l.any λe=>knd.is k e.2)=decide (k∈ds):=by
 induction h with
 | nil=>rfl
 | cons r _ ih=>
  rw[ir,ih,KeyKind.is_eq_decide r.1 k];simp[ar]
theorem Ents.elems {es:Array 9#6}{ds:List K}(h:Ents knd es ds):ElemsOf knd es.toList:=let⟨_,_,t⟩:=h;zzC t
theorem Ents.size {es:Array 9#6}{ds:List K}(h:Ents knd es ds):es.size=ds.length:=by
 obtain⟨ds',p,t⟩:=h;have:=t.len;rw[fh]at this;rw[this,p.length_eq]
theorem Ents.add {es es':Array 9#6}{ds:List K}{k:K}{x:ad}(h:Ents knd es ds)(hk:knd.is k x=true)(hc:x.scannable=true)(e:if es.toList.any (λe=>knd.is k e.2)=true then es'=es else es'.toList.Perm (es.toList++ [(knd.hash k,x)])):Ents knd es' (uZ ds k):=by
 obtain⟨ds',p,t⟩:=h;rw[zzB t]at e;unfold uZ;by_cases hm:k∈ds
 ·rw[if_pos hm]
  rw[decide_eq_true (p.mem_iff.mpr hm),if_pos rfl]at e;rw[e];exact⟨ds',p,t⟩
 ·rw[if_neg hm]
  rw[decide_eq_false (λz=>hm (p.mem_iff.mp z)),if_neg cr]at e;obtain⟨m',p',t'⟩:=(t.append (.cons ⟨hk,rfl,hc⟩ .nil:Two (cJ knd) [(knd.hash k,x)] [k])).perm e;exact⟨m',p'.trans (p.append (ix _)),t'⟩
end
section
variable {prog:br} {w:bz} {A:ci} {E:ad->ag->Prop} {s:ag} {K:Type} [DecidableEq K] {knd:KeyKind prog w K}
def Holds (knd:KeyKind prog w K)(a:aa)(ds:List K)(h:cf):Prop:= ∃es,mD (sK w) a es h/\Ents knd es ds
theorem Holds.keep {a:aa}{ds:List K}{h h':cf}(x:Holds knd a ds h)(k: ∀o,h.get? a=some o->h'.get? a=some o):Holds knd a ds h':=let⟨es,y,z⟩:=x;⟨es,y.keep k,z⟩
theorem zrb {a:aa}{ds:List K}{k:K}{x:ad}{Q:Bool->ag->Prop}(hk:knd.is k x=true)(hc:x.scannable=true)(hS:Holds knd a ds s.heap)(hz:ds.length+1 < scanBound)
  (h: ∀(b:Bool) h',Heap.SameBut a s.heap h'->Holds knd a (uZ ds k) h'->Q b {s with heap:=h'}):av 6#2 A (setAddHashed a x (knd.hash k)) Q E s:=by
 obtain⟨es,y,z⟩:=hS;exact zrc hk hc z.elems y (by rw[z.size];exact hz) λb h' es' sb si e=>h b h' sb ⟨es',si,z.add hk hc e⟩
theorem zm4 {I:aa}{fp wr:List aa}{n:Nat}{P:Nat->ad->Prop}{St:Nat->cf->Prop}(W:Walks prog w A.in1 I fp wr n P St)(S:aa)(hSf:S∉fp){ks:List K}(hn:n=ks.length)(hv: ∀(i:Nat) v,P i v->∃k,ks[i]?=some k/\knd.is k v=true/\v.scannable=true)(hz:n+1 < scanBound){R:Result->ag->Prop} :
  ∀(m i:Nat) (s:ag),n - i=m->i<=n->St i s.heap->Holds knd S ((ks.take i).foldl uZ []) s.heap->
   (∀h' tk,(∀b o,b∉S::wr->s.heap.get? b=some o->h'.get? b=some o)->Holds knd S (dd ks) h'->R (.ok (.ret .none)) {s with heap:=h',toks:=tk})->
   jf 6#2 A (.builtin "set.update.loop" ⟨[.ref S,.ref I],[]⟩) R s
 | 0,i,s,hm,hi,st,hS,hR=>by
  have e:i=n:=0#0
  subst e;refine jd sx ?_;rw[ig mn _];show av _ A.in1 (pyNext (.ref I) >>= _) _ _ s;refine ac (W.done s _ _ st λh' tk k=> ?_);rw[hn,bq (aq _)]at hS;exact al (hR h' tk (λb o hb e=>k b o (λz=>hb (bc _ z)) e) (hS.keep λo e=>k S o (λz=>hSf (W.sub _ z)) e))
 | m+1,i,s,hm,hi,st,hS,hR=>by
  have yf:i < n:=0#0
  refine jd sx ?_;rw[ig mn _];show av _ A.in1 (pyNext (.ref I) >>= _) _ _ s;refine ac (W.item i s _ _ yf st λv h1 tk hP xm k1=> ?_);obtain⟨k,ek,hk,hc⟩:=hv i v hP;have hS1:Holds knd S ((ks.take i).foldl uZ []) h1:=hS.keep λo e=>k1 S o (λz=>hSf (W.sub _ z)) e;show av _ A.in1 (holding [v] (setAdd S v) >>= _) _ _ _;refine ac (ga ?_);unfold setAdd;refine ga (ac (knd.pyHash hk ?_));have hl:((ks.take i).foldl uZ []).length<=i:=by
   have:=zf_ (ks.take i) (ds:= []);rw[cz,so,fj]at this;grobner
  refine zrb (s:= {s with heap:=h1,toks:=tk+1}) hk hc hS1 0#0 λb h2 sb hS2=> ?_;have e2:uZ ((ks.take i).foldl uZ []) k=(ks.take (i+1)).foldl uZ []:=by rw[xk,ek,wm];rfl
  rw[e2]at hS2;refine al ⟨jh mn _,zm4 W S hSf hn hv hz m (i+1) _ 0#0 yf (W.frame _ _ _ xm λb hb o e=>(sb.2 b (λz=>hSf (z▸hb))).trans e) hS2 λh3 tk3 k3 hS3=> ?_⟩;exact hR h3 tk3 (λb o hb e=>k3 b o hb ((sb.2 b (λz=>hb (by rw[z];exact ax))).trans (k1 b o (λz=>hb (bc _ z)) e))) hS3
theorem ztd {a:aa}{h:cf}(e:h.get? a=some (rA (sK w))):Holds knd a [] h:=
 ⟨#[],⟨_,0,_,e,⟨rfl,rfl,rfl⟩,rfl,⟨rfl,rfl,λi j hi=>by simp[SetTable.fresh]at hi,rfl⟩⟩,[],ix _,.nil⟩
theorem set_list {l:aa}{items:Array ad}{ks:List K}{Q:ad->ag->Prop}(hh:A.handled=none)(hl:s.heap.IsList l items)(hn:items.size=ks.length)(hv: ∀(i:Nat) v,items[i]?=some v->∃k,ks[i]?=some k/\knd.is k v=true/\v.scannable=true)(hz:items.size+1 < scanBound)
  (h: ∀h' tk,(∀b o,s.heap.get? b=some o->h'.get? b=some o)->Holds knd s.heap.objs.size (dd ks) h'->Q 6#3 {s with heap:=h',toks:=tk}):av 6#2 A (call (.type "set") [.ref l]) Q E s:=by
 refine zrJ (Post:=λs'=> ∃h' tk,s'= {s with heap:=h',toks:=tk} /\(∀b o,s.heap.get? b=some o->h'.get? b=some o)/\Holds knd s.heap.objs.size (dd ks) h') hh (λB X R hB hR=> ?_) λs' ⟨h',tk,e,k,hS⟩=>by subst e;exact h h' tk k hS
 obtain⟨ol,hol,hcl,nl,hdl⟩:=id hl;have hlS:l < s.heap.objs.size:=aw hol;have hS:(s.heap.push (rA (sK w))).get? s.heap.objs.size=some (rA (sK w)):=be _ rfl;have hl1:(s.heap.push (rA (sK w))).IsList l items:=hl.push _;have hT:Shared.TypeIs {s with heap:=s.heap.push (rA (sK w))} (.ref l) 9#1 :=⟨ol,ak _ hol,hcl⟩;have i1:=F.sub_list_set;have i2:=F.sub_list_frozenset;have i3:(Value.type 9#1 ==Value.type "dict")=false:=2#0
 unfold Builtin.Frozenset.updateFrom;generalize hPI:pyIter=PI
 wp_walk
 subst hPI;refine qw hl1 (ac (wpAny_runValue ?_));have sz:(s.heap.push (rA (sK w))).objs.size=s.heap.objs.size+1:=du ..;have neI:l≠(s.heap.push (rA (sK w))).objs.size:=by rw[sz];exact bo (ka hlS)
 have hSf:s.heap.objs.size∉ [(s.heap.push (rA (sK w))).objs.size,l]:=by
  rw[sz];intro z;rcases ar.mp z with z | z
  ·exact absurd z (bo (ia _))
  ·exact absurd (au.mp z) (cp hlS)
 refine zm4 (knd:=knd) (Walks.list (show B.in1.handled=none from hB) _ l neI items) s.heap.objs.size hSf hn hv hz (items.size - 0) 0 _ 0#0 (db _) ?_ ?_ λh' tk k hS'=> ?_
 ·exact⟨⟨_,be _ rfl,rfl,rfl⟩,hl1.push _⟩
 ·exact ztd (ak _ hS)
 refine al (hR _ ⟨h',tk,rfl,λb o e=>k b o (λz=> ?_) (ak _ (ak _ e)),hS'⟩);have hb:=aw e;rcases ar.mp z with z | z
 ·exact absurd hb (by rw[z];exact cy _)
 ·rw[au.mp z,sz]at hb;exact absurd hb (og.mpr (jt _))
end
end Sets
namespace L2
open PySem PySem.Spec PyProof.Rows
section
variable {X:Cx} {mt:List (aa×aj)} {σ:St} {H:Hp} {s s':ag}
theorem ztu (I:z9 X mt σ H {s with heap:=s'.heap})(e:s'.gens=s.gens/\s'.os=s.os):z9 X mt σ H s':=
 ⟨I.ok,e.2.trans I.os,by rw[e.1];exact I.bare,I.base,I.loc,I.cell,I.free,I.freeC,I.pin,I.hok,I.len⟩
theorem zur {P:br}{w:bz}{n:Int}{t:lx} :(uO P w).is (Sum.inl n) (.int n t)=true:=by show decide (n=n)=true;exact decide_eq_true rfl
theorem zus {P:br}{w:bz}{n:Str}{t:lx} :(uO P w).is (Sum.inr n) (.str n t)=true:=by show decide (n=n)=true;exact decide_eq_true rfl
def dO (P:br)(w:bz)(a:aa)(ds:List zK):HO:= .ext (Sets.Holds (uO P w) a ds)
theorem zyu {P:br}{w:bz}{H:Hp}{a:aa}{ds:List zK}{h:cf}(x:Sets.Holds (uO P w) a ds h):vS P w H h a (dO P w a ds):=
 ⟨x,let⟨es,⟨o,_,_,e,_⟩,_⟩:=x;⟨o,e⟩,λh1 h2 y k=>y.keep k⟩
theorem zrK (hc:X.calm=true):vF X (.type "set") (λxs H Q=> ∃(l:aa) (ks:List zK),xs= [.ref l]/\xA X.K H l (ks.map kV)/\ks.length<=64/\∀p,H p=none->Q (.ref p) (zN H p (dO X.prog X.w p (Sets.dd ks)))):=by
 intro mt s σ H xs us Q I r h;obtain⟨l,ks,rfl,hl,hz,q⟩:=h;obtain⟨u,rfl,ru⟩:=pF r;cases ru;obtain⟨xn,rv,p,_⟩:=I.list hl;have xx:=rv.length;rw[ah]at xx;refine Sets.set_list (knd:=uO X.prog X.w) (ks:=ks) (I.ok.hd hc) p.isList (by simp[xx]) (λi v e=> ?_) (by unfold scanBound;simp;grobner) λh' tk k hS=> ?_
 ·have hi:i < ks.length:=by have:=(Array.getElem?_eq_some_iff.mp e).1;simp at this;grobner
  obtain⟨v',e',rv'⟩:=rv.get (i:=i) (x:=kV ks[i]) (by simp[hi]);have e2:xn[i]?=some v:=by simpa using e
  rw[e2]at e';cases e';refine⟨ks[i],by simp[hi],?_⟩;generalize ks[i]=k0 at rv';cases k0 with
  | inl n=>obtain⟨t,rfl⟩:=rv';exact⟨zur,rfl⟩
  | inr x=>obtain⟨t,rfl⟩:=rv';exact⟨zus,rfl⟩
 ·exact⟨.ref s.heap.objs.size,_,I.laid (t':=tk) k (aq _) (zyu hS),rfl,q _ I.fresh⟩
theorem zpx: ∀{vs:List ad} {ss:List Str},Sets.Two (λv k=>mU k v=true) vs (ss.map Sum.inr)->StrsAre vs ss
 | [],[],_=> .nil
 | _::_,[],h=>nomatch h
 | [],_::_,h=>nomatch h
 | v::vs,x::ss,h=>by
  cases h with
  | cons r t=>
   rcases pY r with⟨i,t',e,rfl⟩ | ⟨y,t',e,rfl⟩
   ·cases e
   ·cases e;exact .cons _ t' (zpx t)
theorem zw2 {α β:Type}{f:α->β}(g:β->α)(hg: ∀a,g (f a)=a){l:List α}{m:List β}(h:m.Perm (l.map f)): ∃l':List α,m=l'.map f/\l'.Perm l:=by
 refine⟨m.map g,?_,?_⟩
 ·rw[dm]
  refine(pv m).symm.trans (on λx hx=> ?_);obtain⟨a,_,rfl⟩:=bt.mp (h.mem_iff.mp hx);show f a=f (g (f a));rw[hg]
 ·have:=h.map g
  rw[dm,show g ∘ f=id from funext hg,pv]at this;exact this
def unR:zK->Str | .inr x=>x | .inl _=>Str.empty
theorem z0j {P:br}{w:bz}{es:Array 9#6}{ds:List zK}{vs:List ad}(h:Sets.Ents (uO P w) es ds)(p:vs.Perm (es.toList.map (·.2))): ∃ds',ds'.Perm ds/\Sets.Two (λv k=>mU k v=true) vs ds':=by
 obtain⟨d1,p1,t1⟩:=h;have t2:Sets.Two (λv k=>mU k v=true) (es.toList.map (·.2)) d1:=t1.map λa b r=>r.1;obtain⟨d2,p2,t3⟩:=t2.perm p;exact⟨d2,p2.trans p1,t3⟩
theorem zrL (hc:X.calm=true):vF X (.builtin "sorted") (λxs H Q=> ∃(a:aa) (ss:List Str),xs= [.ref a]/\H a=some (dO X.prog X.w a (ss.map Sum.inr))/\ss.length < 64/\∀p ss',H p=none->ss'.Perm ss->sortedS ss'=true->Q (.ref p) (zN H p (.lst (ss'.map V.str)))):=by
 intro mt s σ H xs us Q I r h;obtain⟨a,ss,rfl,ha,h64,q⟩:=h;obtain⟨u,rfl,ru⟩:=pF r;cases ru;obtain⟨es,⟨o,ep,t,ho,hx,hd,g⟩,en⟩:=(I.hok a _ ha).1;have hn:es.size=ss.length:=by rw[en.size,ah]
 refine Calls.call_function_entry kind_sorted plain_sorted entry_sorted (args_sorted1 _) ?_;unfold Builtin.«sorted»;refine ac (m:=checkCount "sorted" 1 1 _) (al ?_);refine ac (Sets.collect_set (A:=X.A.in1) (ep:=ep) (t:=t) (I.ok.hd hc) ⟨o,ho,hx,hd⟩ g 0#0 λs1 vs k pm sm=> ?_);obtain⟨d2,p2,t2⟩:=z0j en pm;obtain⟨ss2,rfl,p3⟩:=zw2 unR (λa=>rfl) p2;have hS:=zpx t2;have hvl:vs.length < 64:=by have:=pm.length_eq;simp at this;grobner
 have I1:z9 X mt σ H s1:=ztu (I.kept (t':=s.toks) k) ⟨sm.1,sm.2.1⟩;refine ac (wpAny_newList ?_);have hL:(s1.heap.push (seqObj 9#1 vs.toArray 0)).get? s1.heap.objs.size=some (seqObj 9#1 vs.toArray 0):=be _ rfl;refine ac (ga (gb slot_list_sort ⟨_,hL,rfl⟩ entry_list_sort (list_sort_treeK strKind_oneLt (s:= {s1 with heap:=s1.heap.push (seqObj 9#1 vs.toArray 0)}) hL hS.keysOf (λv1 v2 vP e=>keyKind_strs (by rw[<- e];exact hS)) hvl λxp a1 a2=>⟨_,rfl,?_⟩) (args_list_sort _)));obtain⟨ss',h1,h2,h3⟩:=sorted_out_str hS a1 a2;obtain⟨e,he⟩:=sortedHeap_at (out:=(arrOf xp).map (·.2)) hL;have kp: ∀b o,s1.heap.get? b=some o->(sortedHeap (s1.heap.push (seqObj 9#1 vs.toArray 0)) s1.heap.objs.size vs ((arrOf xp).map (·.2))).get? b=some o:=λb o z=>by
  have hb:=aw z;rw[sortedHeap_old (bo hb) (by rw[du];exact ka hb)];exact ak _ z
 refine al ⟨_,rfl,.ref s1.heap.objs.size,_,I1.laid (t':=s1.toks) (o:= .lst (ss'.map V.str)) kp (aq _) ⟨?_,((arrOf xp).map (·.2)).toList,e,zpJ h1,?_⟩,rfl,q _ ss' I1.fresh (h2.trans p3) h3⟩
 ·rw[ah,h2.length_eq,p3.length_eq];exact cb (ke h64) 2#0
 ·rw[nu];exact he
end
end L2
namespace L3
section
variable {α:Type} [DecidableEq α] {w U u l:List α} {A B a b:Nat}
def gl (w:List α):Nat->List (Nat×Nat×List α)->List α
 | k,[]=>w.drop k
 | k,(a,b,u)::r=>(w.take a).drop k++u++gl w b r
variable {ds:List (Nat×Nat×List α)} {h k:Nat} {x:List α} {n:Nat}
end
end L3
namespace L2
open PySem PySem.Spec PyProof.Rows
section
variable {prog:br} {w:bz} {A:ci} {E:ad->ag->Prop} {s:ag}
theorem fV {it t:aa}{i:Nat}{xn:Array ad}{x:ad}{Q:ad->ag->Prop}(ym:s.heap.IsTupleIter it t i)(ht:s.heap.IsTuple t xn)(hx:xn[i]?=some x)
  (hQ: ∀h',h'.IsTupleIter it t (i+1)->Heap.SameBut it s.heap h'->Q x {s with heap:=h'}):av 6#2 A (Builtin.SmallTypes.nextOf (.ref it)) Q E s:=by
 obtain⟨o,ho,hc,hd⟩:=id ym;obtain⟨_,hol,_,_,hdl⟩:=ht;unfold Builtin.SmallTypes.nextOf;refine ac (fc (name:=Str.ofString "__next__") ym.typeIs jy (gb jy ym.typeIs qc ?_ (ph _)));refine ac (m:=field (.ref it) 0) (dj ho hd (x:= .ref t) rfl ?_);rw[if_neg (show ¬ ((Value.ref t==Value.none)=true)from cr)];refine ac (m:=field (.ref it) 1) (dj ho hd (x:= .int i 0) rfl ?_);refine ac (m:=seqItems? (.ref t)) (gy hol hdl ?_);simp only[mw,hx];refine ac (jo ho hd 3#0 (al ⟨x,rfl,al (hQ _ ⟨_,ck _ ho (iy (fo hd _)),(mr ..).trans hc,?_⟩ (fz ..))⟩));rw[fo hd];simp[rawInt]
theorem zbY {it t:aa}{i:Nat}{xn:Array ad}{Q:ad->ag->Prop}(hh:A.handled=none)(ym:s.heap.IsTupleIter it t i)(ht:s.heap.IsTuple t xn)(hx:xn[i]?=none)
  (hE: ∀h' e,Heap.ExtBut it s.heap h'->(∃o,h'.get? e=some o/\o.cls= .type 68#1)->E (.ref e) {s with heap:=h'}):av 6#2 A (Builtin.SmallTypes.nextOf (.ref it)) Q E s:=by
 obtain⟨o,ho,hc,hd⟩:=id ym;obtain⟨_,hol,_,_,hdl⟩:=ht;unfold Builtin.SmallTypes.nextOf;refine ac (fc (name:=Str.ofString "__next__") ym.typeIs jy (gb jy ym.typeIs qc ?_ (ph _)));refine ac (m:=field (.ref it) 0) (dj ho hd (x:= .ref t) rfl ?_);rw[if_neg (show ¬ ((Value.ref t==Value.none)=true)from cr)];refine ac (m:=field (.ref it) 1) (dj ho hd (x:= .int i 0) rfl ?_);refine ac (m:=seqItems? (.ref t)) (gy hol hdl ?_);simp only[mw,hx];refine ac (ju (ac (jo ho hd 3#0 ?_)));refine ac (m:=newExc (.type 68#1) []) ?_;simp only[newExc,newTuple];refine ac (dw ?_ (by size_fits));refine ac (m:=firstArgMember _ _) (wt (a:=Value.none) (by first | rfl | (simp only[firstArgMember];rfl)) (dw ?_ (by size_fits)));simp only[raiseNew];refine ac (wpAny_handled ?_)
 first | rw[show A.in1.handled=none from hh] | rw[hh]
 exact ac (al (wpAny_throw (hE _ _ (((fz ..).extBut.push _).push _) ⟨_,be _ rfl,rfl⟩)))
end
theorem zj0 {prog:br}{w:bz}{A:ci}(hh:A.handled=none)(it t:aa)(yo:t≠it)(xn:Array ad):Draws prog w A it [it,t] xn.size (λi v=>xn[i]?=some v) (λi h=>h.IsTupleIter it t i/\h.IsTuple t xn) where
 live:=λ_ _ st=>let⟨o,ho,_⟩:=st.1;⟨o,ho⟩
 frame:=λ_ _ _ st hk=>⟨st.1.at λo e=>hk it 3#0 o e,let⟨o,ho,r⟩:=st.2;⟨o,hk t 3#0 o ho,r⟩⟩
 item:=λi s Q E hi st hQ=>fV st.1 st.2 (x:=xn[i]) (by simp[hi]) λh' hit' hs'=>hQ _ h' s.toks (by simp[hi]) ⟨hit',st.2.extBut hs'.extBut yo⟩ hs'
 done:=λs Q E st hE=>zbY hh st.1 st.2 3#0 hE
open AutoSeq1 (wpAny_loadPart') in
theorem zsq (t:aa)(xn:Array ad)(n:Nat)(dct:Option aa)(sl:Array (Option ad)):
  Meets (Builtin.«enumerate.__new__» ⟨[.type 14#1,.ref t],[]⟩) (λ_ R s=>s.heap.get? t=some {cls:= .type 22#1,dict:=dct,data:= .seq xn n,slots:=sl} /\
   R (.ok (.ret (.ref (s.heap.push {cls:= .type 50#1,data:= .fields #[.ref t,.int 0 0]}).objs.size)))
    {s with heap:=(s.heap.push {cls:= .type 50#1,data:= .fields #[.ref t,.int 0 0]}).push {cls:= .type 14#1,data:= .fields #[.none,.bool false,.ref s.heap.objs.size,rawInt 0,.none,.none]}}):=
 .of_wp λprog w A R s h=>by
  obtain⟨hp,g,d,tk,os⟩:=s;obtain⟨ht,h⟩:=h;have hsub:=sub_enumerate;have hT:Heap.IsTuple (Shared.heap ⟨hp,g,d,tk,os⟩) t xn:=⟨_,ht,rfl,n,rfl⟩
  wp_walk using tj ht
  refine wpAny_stack_any λst=>al ?_
  split
  ·rename_i c _ _ _ _ _
   cases(c==Value.type 14#1) <;> (wp_walk using tj ht,ku hT;exact⟨_,rfl,h⟩)
  ·wp_walk using tj ht,ku hT
   exact⟨_,rfl,h⟩
theorem zrE {prog:br}{w:bz}{A:ci}{E:ad->ag->Prop}{s:ag}{t:aa}{xn:Array ad}{Q:ad->ag->Prop}(hT:s.heap.IsTuple t xn)
  (h: ∀h',IsEnum h' 5#3 s.heap.objs.size 0 .none->h'.IsTupleIter s.heap.objs.size t 0->h'.objs.size=s.heap.objs.size+2->(∀b o,s.heap.get? b=some o->h'.get? b=some o)->Q (.ref 5#3) {s with heap:=h'}):
  av 6#2 A (call (.type 14#1) [.ref t]) Q E s:=by
 obtain⟨⟨c,dct,dt,sl⟩,ht,hc,n,hd⟩:=hT;cases hc;cases hd;refine callType_new F.called_enumerate 2#0 (F.typeCall_enumerate_1 _) (F.newCall_enumerate_1 _) (λobj=>F.args_object_init_2 obj _) F.entry_enumerate_new (zsq t xn n dct sl) ⟨ht,?_⟩;have hz:(s.heap.push {cls:= .type 50#1,data:= .fields #[.ref t,.int 0 0]}).objs.size=s.heap.objs.size+1:=du ..;show _/\_;rw[hz];have he:IsEnum ((s.heap.push {cls:= .type 50#1,data:= .fields #[.ref t,.int 0 0]}).push {cls:= .type 14#1,data:= .fields #[.none,.bool false,.ref s.heap.objs.size,rawInt 0,.none,.none]}) 5#3 s.heap.objs.size 0 .none:=by
  have:=be (s.heap.push {cls:= .type 50#1,data:= .fields #[.ref t,.int 0 0]}) (o:= {cls:= .type 14#1,data:= .fields #[.none,.bool false,.ref s.heap.objs.size,rawInt 0,.none,.none]}) rfl;rw[hz]at this;exact this
 exact⟨⟨_,he,rfl⟩,h _ he ⟨_,ak _ (be _ rfl),rfl,rfl⟩ (by rw[du,hz]) λb o x=>ak _ (ak _ x)⟩
def zbr (K:Frag)(a:aa):It:=
 ⟨λi H=> ∃xs x,xV K H a xs/\xs[i]?=some x,λi H y H'=> ∃p x,H p=none/\(∀xs,xV K H a xs->xs[i]?=some x)/\y= .ref p/\H'=zN H p (.tup [.int i,x]),λi H=> ∃xs,xV K H a xs/\xs.length=i⟩
theorem zz8 {P:br}{w:bz}{K:Frag}{elts:List Expr}{k:Nat}{pos:di}(a e it:aa)(ne:e≠it)(ae:a≠e)(ai:a≠it):
  lH P w K (.Tuple elts k pos) (zbr K a) [e,it] e (λi h=>(∃old,IsEnum h e it i old)/\h.IsTupleIter it a i) where
 mem:=3#0
 obj:=λi h st b hb=>by
  obtain⟨⟨old,he⟩,o,ho,c,d⟩:=st;rcases ar.mp hb with rfl | hb
  ·exact⟨_,he,λv z=>by cases z⟩
  ·rw[au.mp hb];exact⟨o,ho,λv z=>by rw[d]at z;cases z⟩
 keep:=λi h h' st kk=>by
  obtain⟨⟨old,he⟩,ym⟩:=st;exact⟨⟨old,kk e 3#0 _ he⟩,ym.at λo e'=>kk it 3#0 o e'⟩
 item:=by
  intro X hP hw hK hc i mt s σ H E I hf st hg;subst hP hw hK;obtain⟨xs,x,hq,hx⟩:=hg;obtain⟨xn,rv,p,hz⟩:=I.tuple hq;obtain⟨u,hu,ru⟩:=rv.get hx;obtain⟨⟨old,he⟩,ym⟩:=st;have le:e < s.heap.objs.size:=aw he;have li:it < s.heap.objs.size:=by obtain⟨o,ho,_⟩:=ym;exact aw ho
  have hi:i < xn.toArray.size:=by have:=(ba.mp hu).1;simpa using this
  refine wpAny_pyNext_enum_itemD (zj0 (A:=X.A.in1) (I.ok.hd hc) it a ai xn.toArray) he ⟨ym,p⟩ hi ne (by simp[ne,ae.symm]) λx' h' tk hPx ho yx hT hsz kk=>⟨_,rfl,?_⟩;have ex:x'=u:=by
   have h1:xn.toArray[i]?=some u:=by simpa using hu
   rw[h1]at hPx;exact(ca hPx).symm
  subst ex;refine ql (s:= {s with heap:=h',toks:=tk+1}) ho λh2 he2 yq=> ?_;have nT:s.heap.objs.size≠e:=cp le;have hT2:h2.get? s.heap.objs.size=some {cls:= .type 22#1,data:= .seq #[.int i tk,x']} :=(yq.2 _ nT).trans hT;have I1:z9 X mt σ H {s with heap:=h2,toks:=tk+1} :=I.turnedL (fp:= [e,it]) (λb o hb q=>(yq.2 b λz=>hb (by simp[z])).trans (kk b o (λz=>hb (by simp[z])) (λz=>hb (by simp[z])) q)) hf;have I2:z9 X mt σ (zN H s.heap.objs.size (.tup [.int i,x])) {s with heap:=h2,toks:=tk+1} :=by
   refine aM I1 I.fresh I.sz (cp I.lt) (λx' c e' z=> ?_) (λp' hp z=> ?_) ⟨(by show 2<=am;decide),[.int i tk,x'],.cons ⟨_,rfl⟩ (.cons ru .nil),_,hT2,rfl,_,rfl,rfl⟩
   ·obtain⟨v,q⟩:=I.cell x' c e'
    have:=q.lt;rw[z]at this;exact cy _ this
   ·have:=aw (I.pin p' hp).1;rw[z]at this;exact cy _ this
  refine⟨.ref s.heap.objs.size,_,I2,rfl,⟨_,x,I.fresh,λys hy=>by rw[I.tuple_inj hy hq];exact hx,rfl,rfl⟩,⟨⟨x',by simpa using he2⟩,yx.1.at λo e'=>(yq.2 it ne.symm).trans e'⟩,λb hb=> ?_⟩;have nb:b≠s.heap.objs.size:=by
   rcases ar.mp hb with rfl | hb
   ·exact bo le
   ·rw[au.mp hb];exact bo li
  rw[yJ nb];exact(hf b hb).1
 done:=by
  intro X hP hw hK hc i mt s σ H E I hf st hg;subst hP hw hK;obtain⟨xs,hq,rfl⟩:=hg;obtain⟨xn,rv,p,hz⟩:=I.tuple hq;obtain⟨⟨old,he⟩,ym⟩:=st;have hl:=rv.length;have hl2:xs.length=xn.toArray.size:=by simpa using hl
  rw[hl2]at ym;exact wpAny_pyNext_enum_endD (zj0 (A:=X.A.in1) (I.ok.hd hc) it a ai xn.toArray) he ⟨ym,p⟩ λh' eb=>⟨rfl,I.turnedL (t':=s.toks) (fp:= [e,it]) (λb o hb q=>eb b o (λz=>hb (by simp[z])) q) hf⟩
 self:=λ_ _ _ _ _ st h=>by
  obtain⟨⟨old,he⟩,_⟩:=st;exact mo he h
section
variable {X:Cx} {elts:List Expr} {k:Nat} {pos':di}
def zth (K:Frag)(ta:TA):TI:=λσ H R=>ta σ H λvs H1=> ∃a,vs= [.ref a]/\(∃xs,xV K H1 a xs)/\R (zbr K a) H1
theorem zw_ {a:Expr}{ta:TA}{p pos:di}(hg:Gl X 14#1)(hm:X.mg 14#1 =none)(ha:PA X [a] ta)(hs:starEach [a] X.env= [(false,eval a X.env)]:=by rfl):PI X (.Tuple elts k pos') (.Call (.Name 14#1 p) [a] [] pos) (zth X.K ta):=⟨λmt s σ H R I h=>by
 refine Call_ (lT I hg hm boot_enumerate (callWith_type1 (zY (ha pos mt s σ H _ I h) λus s1 ⟨vs,H1,I1,r1,q1⟩=> ?_) hs rfl));obtain⟨a,e,⟨xs,hq⟩,q⟩:=q1;subst e;obtain⟨u,rfl,ru⟩:=pF r1;cases ru;obtain⟨xn,rv,p,hz⟩:=I1.tuple hq;have la:a < s1.heap.objs.size:=by obtain⟨o,ho,_⟩:=p;exact aw ho
 refine zrE p λh' hE hI hsz kk=> ?_;refine mo hE ?_;refine⟨s1.heap.objs.size+1,[s1.heap.objs.size+1,s1.heap.objs.size],_,_,H1,rfl,I1.kept (t':=s1.toks) kk,zz8 a _ _ (wy _) (bo (ka la)) (bo la),⟨⟨.none,by simpa using hE⟩,hI⟩,λb hb=> ?_,q⟩;rcases ar.mp hb with rfl | hb
 ·exact I1.fpOk (jt _) (I1.hok.fresh (jt _))
 ·rw[au.mp hb];exact I1.fpOk (aq _) (I1.hok.fresh (aq _))⟩
end
end L2
namespace L3
open PySem PySem.Spec PyProof.Rows L2
section
variable {X:Cx} {a:Expr} {p pos:di} {TA:yC}
theorem ztx {K:Frag}{A:List aa}{H:Hp}{a:aa}{xs:List PV}(hz:xs.length<=am)(hv: ∀A' H' st,zZ A H A' H'->RS K A' H' st->∃vs,xV K H' a vs/\RVs K A' H' xs vs):nZ K A H none (zbr K a) (lQ xs) where
 go:=λi A' H' st g s ok hi=>by
  obtain⟨vs,h,r⟩:=hv A' H' st g s;rw[jF,r.len]at hi;exact⟨vs,vs[i],h,by simp[hi]⟩
 yld:=λi x A' H' st v H2 hx g s ok y=>by
  obtain⟨p,x',hp,hx',rfl,rfl⟩:=y;obtain⟨vs,h,r⟩:=hv A' H' st g s;obtain⟨z,hz',rfl⟩:=aB hx;obtain⟨w,ew,rw'⟩:=r.get hz';have:=hx' vs h;rw[ew]at this;cases this;exact⟨.new hp,s.new hp,.val (.tup (.inl ⟨.inl xR,s.fresh hp⟩) (by show 2<=am;decide) (.cons (.int _) (.cons (rw'.grow (.new hp)) .nil)))⟩
 stop:=λA' H' st g s ok=>by
  obtain⟨vs,h,r⟩:=hv A' H' st g s;exact⟨vs,h,by rw[jF,r.len]⟩
 small:=by rw[jF];exact hz
def zlQ (T:yC):uN:=λenv st Q=>T env st λzs xm=> ∃xs,zs= [.tup xs]/\Q none (lQ xs) xm
theorem zxt {elts:List Expr}{k:Nat}{pos':di}(hg:Gl X 14#1)(hm:X.mg 14#1 =none)(ha:PA X [a] (wU X.K TA))(hs:starEach [a] X.env= [(false,eval a X.env)]:=by rfl):PI X (.Tuple elts k pos') (.Call (.Name 14#1 p) [a] [] pos) (qO X.K (zlQ TA)):=by
 refine zan (zw_ hg hm ha hs) λσ H R ⟨A,env,st,Q3,xo,h,k⟩=>⟨A,env,st,_,xo,h,λA1 H1 xm zs vs g1 s1 e1 h1=> ?_⟩;obtain⟨xs,rfl,h1⟩:=h1;obtain⟨v,rfl,e⟩:=xC.one e1;cases e with | val e=>cases e with | tup t hz r=>
  exact⟨_,rfl,⟨_,t.sq⟩,k A1 H1 xm _ _ _ g1 s1 (ztx (by rw[r.len];exact hz) λA' H' xp g s=>⟨_,(t.grow g).sq,r.grow g⟩) h1⟩
end
section
variable {X:Cx} {a b e:Expr} {es:List Expr} {pos p2:di} {Ta Tb:zE} {TA:yC}
def zx_:R3:=λx y st Q=>match x with
 | .obj n=>(match y with
  | .str k=>(match st[n]? with | some (.rcd kvs)=>(match tF kvs (.inr k)with | some z=>Q z st | none=>False) | _=>False)
  | _=>False)
 | _=>False
@[simp] theorem z2a {n:Nat}{x:Str}{st:z7}{Q:K3} :zx_ (.obj n) (.str x) st Q=(match st[n]? with | some (.rcd kvs)=>(match tF kvs (.inr x)with | some z=>Q z st | none=>False) | _=>False):=rfl
end
section
variable {prog:br} {w:bz} {A:ci} {E:ad->ag->Prop} {s:ag}
theorem z0P {T:String}{n:Nat}{It:Nat->ad->Prop}{St:Nat->cf->Prop}{Q:ad->ag->Prop}{I l:aa}(W:Walks prog w A.in1.in1 I [I,l] [I] n It St)(st:St 0 s.heap)(hn:n<=am)(hIl:I < s.heap.objs.size)(hll:l < s.heap.objs.size)
  (hT: ∀s:ag,St 0 s.heap->s.TypeIs (.ref I) T) (t1:(Value.type T==Value.type 9#1)=false) (t2:(Value.type T==Value.type 22#1)=false) (hi: ∀{s:ag} {Q:ad->ag->Prop} {E:ad->ag->Prop},St 0 s.heap->Q (.ref I) s->av 6#2 A.in1.in1 (pyIter (.ref I)) Q E s)
  (hl: ∀{s:ag} {Q:Bool->ag->Prop} {E:ad->ag->Prop},St 0 s.heap->(∀b tk,Q b {s with toks:=tk})->av 6#2 A.in1.in1 (Builtin.List.listLengthHint (.ref I)) Q E s)
  (hQ: ∀h' tk acc' c',(∀b o,b≠I->s.heap.get? b=some o->h'.get? b=some o)->h'.get? s.heap.objs.size=some {cls:= .type 9#1,dict:=none,data:= .seq acc' c',slots:= #[]} ->ItemsOf It acc' n->Q 6#3 {s with heap:=h',toks:=tk}):
  av 6#2 A (call (.type 9#1) [.ref I]) Q E s:=by
 refine callType_codes (Q₁:=λobj s₁=>obj= .ref s.heap.objs.size/\s₁= {s with heap:=s.heap.push {cls:= .type 9#1,data:= .seq #[]}}) vj (sy _) tf
  (code_list_new _ ⟨rfl,rfl⟩) λobj s₁ h₁=> ?_
 obtain⟨rfl,rfl⟩:=h₁;have kp: ∀b o,s.heap.get? b=some o->(s.heap.push {cls:= .type 9#1,data:= .seq #[]}).get? b=some o:=λb o e=>ak _ e;generalize hS':s.heap.objs.size=S at *;have nS: ∀b o,s.heap.get? b=some o->b≠S:=λb o e=>by rw[<- hS'];exact bo (aw e)
 have hS:(s.heap.push {cls:= .type 9#1,data:= .seq #[]}).get? S=some {cls:= .type 9#1,data:= .seq #[]} :=by rw[<- hS'];exact be _ rfl
 refine⟨⟨_,hS,rfl⟩,sr _ _,?_⟩;show av _ _ (do let old <- Builtin.List.listItems (.ref S);Builtin.List.listUpdate (.ref S) (λ_=> #[]);letGo old.toList.reverse;Builtin.List.listExtendWith (.ref S) (.ref I) .none) _ _ _;refine ac ?_;unfold Builtin.List.listItems;refine ac (gy hS rfl (al ?_));show av _ _ (updateSeq S (λ_=> #[]) >>= λ_=>letGo (#[]:Array ad).toList.reverse >>= λ_=>Builtin.List.listExtendWith (.ref S) (.ref I) .none) _ _ _;refine ac (ip hS rfl ?_);have hS₂:=ck 0#6 hS rfl;have yt: ∀b o,b≠S->s.heap.get? b=some o->((s.heap.push {cls:= .type 9#1,data:= .seq #[]}).update S 0#6).get? b=some o:=
  λb o hb e=>(cm _ _ (dh hb)).trans (kp b o e)
 refine ac (ue ?_);have hSf:S∉ [I,l]:=by simp only[ar,bu,or_false,not_or];exact⟨cp hIl,cp hll⟩
 have mv: ∀h,(∀b o,b≠S->s.heap.get? b=some o->h.get? b=some o)->St 0 h:=λh k=>W.frame 0 _ _ st λb hb o e=>k b o (λz=>hSf (z▸hb)) e;obtain⟨h2,eh2⟩: ∃h2,(s.heap.push {cls:= .type 9#1,data:= .seq #[]}).update S 0#6=h2:=⟨_,rfl⟩;rw[eh2]at hS₂ yt⊢
 have xr:=mv h2 yt;have key: ∀(h:cf) (c₁ tk:Nat),(∀b o,b≠S->s.heap.get? b=some o->h.get? b=some o)->h.get? S=some {cls:= .type 9#1,data:= .seq #[] c₁} ->jf 6#2 A.in1 (.builtin "list.extend.loop" ⟨[.ref S,.ref I,.none],[]⟩) (wants (λr s₂=>r=Value.none/\Q (Value.ref S) s₂) E) {s with heap:=h,toks:=tk} :=by
  intro h c₁ tk hk hS₁;refine uz W.toS hn S hSf .none n 0 _ #[] c₁ rfl (db _) (mv h hk) hS₁ (ItemsOf.nil _) λs' acc' c' hm hS' yj=> ?_;rw[Moved.eq_with hm];refine⟨rfl,hQ s'.heap s'.toks acc' c' (λb o hbI e=>hm.heap b o (λhmem=> ?_) (hk b o (nS b o e) e)) hS' yj⟩;rcases ar.mp hmem with e' | hmem
  ·exact nS b o e e'
  ·exact hbI (au.mp hmem)
 unfold Builtin.List.listExtendWith;refine ac (ld (T:=T) (hT {s with heap:=h2} xr) ?_);have h1:Builtin.List.listSameRef (.ref S) (.ref I)=false:=by simp[Builtin.List.listSameRef,cp hIl]
 simp only[h1,t1,t2,iq,gk,if_false];refine ac (hi xr ?_);refine ac (ga (hl xr λb tk=> ?_));refine md (λ_=> ?_) (λ_=>al ⟨jh gn _,key _ _ _ yt hS₂⟩);refine ac (ju ?_);refine ac ?_;show av _ _ (updateSeq S (·.push .none) >>= λ_=>updateSeq S (·.pop)) _ _ _;refine ac (ip (s:= {s with heap:=h2,toks:=tk}) hS₂ rfl ?_);have hS₃:=ck (Obj.mapSeq (·.push Value.none)) hS₂ rfl;refine ip (s:= {s with heap:=h2.update S (Obj.mapSeq (·.push Value.none)),toks:=tk}) (hz:=by seq_fits) hS₃ rfl ?_;have hS₄:=ck (Obj.mapSeq (·.pop)) hS₃ rfl;exact al ⟨jh gn _,key _ _ _ (λb o hb e=>(cm _ _ (dh hb)).trans ((cm _ _ (dh hb)).trans (yt b o hb e))) hS₄⟩
end
section
variable {X:Cx}
def zzR (T:zE):zE:=λenv st Q=>T env st λx xm=>match x with | .lst xs=>Q (.lst xs.reverse) xm | _=>False
@[simp] theorem z5c {T:zE}{env:zI}{st:z7}{Q:K3} :zzR T env st Q=(T env st λx xm=>match x with | .lst xs=>Q (.lst xs.reverse) xm | _=>False):=rfl
def zzT (T:yC):zE:=λenv st Q=>T env st λxs xm=>match xs with | [.int lo,.int hi]=>(-(2 ^ 20)<=lo/\lo < 2 ^ 20/\ -(2 ^ 20)<=hi/\hi < 2 ^ 20)/\Q (.obj xm.length) (xm++ [.lst ((List.range (hi - lo).toNat).map λ(i:Nat)=> .int (lo+(i:Int)))]) | _=>False
@[simp] theorem z5e {T:yC}{env:zI}{st:z7}{Q:K3} :zzT T env st Q=(T env st λxs xm=>match xs with | [.int lo,.int hi]=>(-(2 ^ 20)<=lo/\lo < 2 ^ 20/\ -(2 ^ 20)<=hi/\hi < 2 ^ 20)/\Q (.obj xm.length) (xm++ [.lst ((List.range (hi - lo).toNat).map λ(i:Nat)=> .int (lo+(i:Int)))]) | _=>False):=rfl
end
section
variable {X:Cx} {es:List Expr} {pos:di}
def zoC (x:Str):List Str:=x.cps.toList.map λc=>⟨#[c]⟩
def gTS (n:Nat)(gs:pS):wP:=λx env st Q=>match x with | .str z=>z.cps.size=n/\gs ((zoC z).map PV.str) env st Q | _=>False
@[simp] theorem z1v {n:Nat}{gs:pS}{z:Str}{env:zI}{st:z7}{Q:zI->z7->Prop} :gTS n gs (.str z) env st Q=(z.cps.size=n/\gs ((zoC z).map PV.str) env st Q):=rfl
end
section
variable {X:Cx}
def zzS (T:zE):zE:=λenv st Q=>T env st λx xm=>match x with | .tup xs=>Q (.lst xs.reverse) xm | _=>False
@[simp] theorem z5d {T:zE}{env:zI}{st:z7}{Q:K3} :zzS T env st Q=(T env st λx xm=>match x with | .tup xs=>Q (.lst xs.reverse) xm | _=>False):=rfl
end
section
variable {X:Cx} {a b c:Expr} {pos:di} {Ta Tb Tc:zE}
def zzK (R R':R3)(Ta Tb Tc:zE):zE:=λenv st Q=>Ta env st λx xm=>Tb env xm λy xr=>R x y xr λr yd=>match r with
 | .bl true=>Tc env yd λz st4=>R' y z st4 Q
 | .bl false=>Q (.bl false) yd
 | _=>False
@[simp] theorem z4J {R R':R3}{env:zI}{st:z7}{Q:K3} :zzK R R' Ta Tb Tc env st Q=(Ta env st λx xm=>Tb env xm λy xr=>R x y xr λr yd=>match r with | .bl true=>Tc env yd λz st4=>R' y z st4 Q | .bl false=>Q (.bl false) yd | _=>False):=rfl
end
section
variable {X:Cx} {iter tg a b:Expr} {Ta:zE}
def ztf (T:zE):uN:=λenv st Q=>T env st λx xm=> ∃(i:Nat) (kvs:List (zK×PV)),x= .obj i/\((xm[i]?=some 4#5/\∀o,Q (some (i,.fd o kvs)) 1#7 (xm.set i (.fd o kvs)))∨∃o,xm[i]?=some (.fd o kvs)/\Q (some (i,.fd o kvs)) 1#7 xm)
def zx9:R3:=λx y st Q=>match x with
 | .obj n=>(match y with
  | .str k=>(match st[n]? with | some (.fd _ kvs)=>(match tF kvs (.inr k)with | some z=>Q z st | none=>False) | _=>False)
  | _=>False)
 | _=>False
end
@[simp] theorem z41 {T:zE}{env:zI}{st:z7}{Q:wS->List PV->z7->Prop} :ztf T env st Q=(T env st λx xm=> ∃(i:Nat) (kvs:List (zK×PV)),x= .obj i/\((xm[i]?=some 4#5/\∀o,Q (some (i,.fd o kvs)) 1#7 (xm.set i (.fd o kvs)))∨∃o,xm[i]?=some (.fd o kvs)/\Q (some (i,.fd o kvs)) 1#7 xm)):=rfl
@[simp] theorem z1U {n:Nat}{x:Str}{st:z7}{Q:K3} :zx9 (.obj n) (.str x) st Q=(match st[n]? with | some (.fd _ kvs)=>(match tF kvs (.inr x)with | some z=>Q z st | none=>False) | _=>False):=rfl
mutual
def zz6:PV->Bool
 | .tup xs=>tupVs xs
 | .non=>true
 | .bl _=>true
 | .int _=>true
 | .str _=>true
 | .ty _=>true
 | _=>false
def tupVs:List PV->Bool
 | []=>true
 | x::xs=>zz6 x&&tupVs xs
end
abbrev XW:=aa->Option (Str×PV)->Prop
def pvV:PV->Option V | .str x=>some (.str x) | .int i=>some 1#5 | _=>none
abbrev sY:=List PV->z7->K3->XW->Prop
section
variable {X:Cx} {k:Nat} {f C HE:aa} {fd:bh} {ps:List Str} {S:sY} {E:XK} {W:XW} {x g:Str} {p pos pos':di} {e a:Expr} {es:List Expr} {TA:yC} {Ta:zE} {ok:V->Prop} {gv:ad->Prop}
def vCX (S:sY)(W:XW)(T:yC):zE:=λenv st Q=>T env st λxs xm=>S xs xm Q W
def z0b (C:aa)(g:Str)(ok:V->Prop)(W:XW)(T:zE):xD:=λ_ env st=>T env st λy _=> ∃v,pvV y=some v/\ok v/\W C (some (g,y))
end
section
variable {X:Cx} {a b e:Expr} {es:List Expr} {pos p p2:di} {Ta Tb:zE} {TA:yC}
def i5 (xs ys:List PV):List PV:=(xs.zip ys).map λq=> .tup [q.1,q.2]
def ztk (T:yC):uN:=λenv st Q=>T env st λzs xm=> ∃x ys,zs= [x,.lst ys]/\zfZ x xm λya xs=>Q ya (i5 xs ys) xm
@[simp] theorem z42 {T:yC}{env:zI}{st:z7}{Q:wS->List PV->z7->Prop} :ztk T env st Q=T env st λzs xm=> ∃x ys,zs= [x,.lst ys]/\zfZ x xm λya xs=>Q ya (i5 xs ys) xm:=rfl
end
def zhL (own:Nat)(g:wP)(tt:xL)(el:zE)(ya:wS)(xs:List PV)(Q:List PV->z7->Prop)(env:zI)(st:z7):Prop:= ∃P:Nat->List PV->zI->z7->Prop,P 0 [] (env++List.replicate own none) st/\
 (∀i x ys env st,xs[i]?=some x->P i ys env st->sP ya st (g x env st λe s=>tt e s λb s2=>if b=true then el e s2 λy s3=>P (i+1) (ys++ [y]) e s3 else P (i+1) ys e s2))/\
 (∀ys env st,P xs.length ys env st->sP ya st (Q ys st))
def zzL (own:Nat)(I:uN)(g:wP)(tt:xL)(el:zE):zE:=λenv st Q=>I env st λya xs xm=>zhL own g tt el ya xs (λys xr=>Q (.obj xr.length) (xr++ [.ros ys])) env xm
section
variable {X:Cx} {scope:kb} {N' own:List Str} {Ti:uN} {Tg:wP} {tt:xL} {te:zE}
def zar:R3:=λx y st Q=>match x with
 | .obj n=>(match y with
  | .int k=>(match st[n]? with | some (.ros xs)=>(match atI xs k with | some z=>Q z st | none=>False) | _=>False)
  | _=>False)
 | _=>False
@[simp] theorem z4M {own:Nat}{I:uN}{g:wP}{tt:xL}{el:zE}{env:zI}{st:z7}{Q:K3} :zzL own I g tt el env st Q=(I env st λya xs xm=>zhL own g tt el ya xs (λys xr=>Q (.obj xr.length) (xr++ [.ros ys])) env xm):=rfl
@[simp] theorem z1W {n:Nat}{i:Int}{st:z7}{Q:K3} :zar (.obj n) 1#5 st Q=(match st[n]? with | some (.ros xs)=>(match atI xs i with | some z=>Q z st | none=>False) | _=>False):=rfl
end
section
variable {X:Cx} {a:Expr} {ta:L2.TA} {T3:yC} {p p2 pos pos2:di}
def zaw (n:Nat):List PV:=(List.range n).map λ(i:Nat)=> .int (i:Int)
def zzQ (o:Bool)(T:yC):zE:=λenv st Q=>T env st λxs xm=> ∃n:Nat,xs= [.int (n:Int)]/\n < 2 ^ 20/\(if o then Q (.obj xm.length) (xm++ [.lst (zaw n)])else Q (.lst (zaw n)) xm)
@[simp] theorem z5b {o:Bool}{T:yC}{env:zI}{st:z7}{Q:K3} :zzQ o T env st Q=(T env st λxs xm=> ∃n:Nat,xs= [.int (n:Int)]/\n < 2 ^ 20/\(if o then Q (.obj xm.length) (xm++ [.lst (zaw n)])else Q (.lst (zaw n)) xm)):=rfl
end
section
variable {X:Cx} {k i j j4:Nat} {f f2 C C2 HE:aa} {fd fd2:bh} {ps:List Str} {S:sY} {E:XK} {W:XW} {x y x2 n z:Str} {p xy epos yp hpos pos p2 cp2 p3 p4 zp:di} {a:Expr} {as:List Expr} {TA:yC} {gt:ad->Prop} {b0:bw} {suite:List bw} {t1:aa->TS}
def gE:XW:=λ_ _=>False
def z0f (S:sY)(G:aa->Prop)(W:XW)(C2:aa)(TA:yC):xD:=λD env st=>TA env st λxs xm=>S xs xm (λ_ xr=>D.nx env xr) gE∨(tupVs xs=true/\S xs [] (λ_ _=>False) (λC _=>G C)/\W C2 none)
def z0e (S:sY)(C:aa)(i r j:Nat)(TA:yC):xD:=λD env st=>TA env st λxs xm=>S xs xm (λv xr=>D.nx (env.set j (some v)) xr) gE∨(tupVs xs=true/\env[i]?=some none/\S xs [] (λ_ _=>False) (λC' od=>C'=C/\od=none)/\D.nx (env.set r (some (.bl true))) xm)
def z0a (C:aa)(W:XW):xD:=λ_ _ _=>W C none
end
@[simp] theorem z4H {S:sY}{W:XW}{T:yC}{env:zI}{st:z7}{Q:K3} :vCX S W T env st Q=(T env st λxs xm=>S xs xm Q W):=rfl
@[simp] theorem z5s {C:aa}{g:Str}{ok:V->Prop}{W:XW}{T:zE}{D:w5}{env:zI}{st:z7} :z0b C g ok W T D env st=(T env st λy _=> ∃v,pvV y=some v/\ok v/\W C (some (g,y))):=rfl
@[simp] theorem z5r {C:aa}{W:XW}{D:w5}{env:zI}{st:z7} :z0a C W D env st=W C none:=rfl
@[simp] theorem z51 {S:sY}{G:aa->Prop}{W:XW}{C:aa}{T:yC}{D:w5}{env:zI}{st:z7} :z0f S G W C T D env st=(T env st λxs xm=>S xs xm (λ_ xr=>D.nx env xr) gE∨(tupVs xs=true/\S xs [] (λ_ _=>False) (λC _=>G C)/\W C none)):=rfl
@[simp] theorem z50 {S:sY}{C:aa}{i r j:Nat}{T:yC}{D:w5}{env:zI}{st:z7} :z0e S C i r j T D env st=(T env st λxs xm=>S xs xm (λv xr=>D.nx (env.set j (some v)) xr) gE∨(tupVs xs=true/\env[i]?=some none/\S xs [] (λ_ _=>False) (λC' od=>C'=C/\od=none)/\D.nx (env.set r (some (.bl true))) xm)):=rfl
end L3
namespace L2
open PySem PySem.Spec PyProof.Rows
def rF (v:V):Prop:= ∃i:Int,v= .int i/\0<=i/\i < 1200
end L2
namespace L3
open PySem PySem.Spec PyProof.Rows L2
def qY (f:Str)(x:PV):List (Str×PV)->List (Str×PV)
 | []=> [(f,x)]
 | (g,y)::r=>if g=f then(g,x)::r else(g,y)::qY f x r
section
variable {K:Frag} {A A':List aa} {H H':Hp}
theorem vZ.look {fs:List (Str×PV)}{us:List (Str×V)}(f:Str):vZ K A H fs us->(∃x v,fs.lookup f=some x/\us.lookup f=some v/\RV K A H x v)∨(fs.lookup f=none/\us.lookup f=none)
 | .nil=> .inr ⟨rfl,rfl⟩
 | .cons (a:=(g,x)) (b:=(g',v)) r t=>by
  obtain⟨e,r⟩:=r;have e:g=g':=e;subst e;rw[gc,gc];by_cases h:(f==g)=true
  ·rw[h];exact .inl ⟨x,v,rfl,rfl,r⟩
  ·rw[su]at h;rw[h];exact vZ.look f t
theorem vZ.put {f:Str}{x:PV}{v:V}(rx:RV K A H x v): ∀{fs:List (Str×PV)} {us:List (Str×V)},vZ K A H fs us->vZ K A H (qY f x fs) (tE f v us)
 | _,_,.nil=> .cons ⟨rfl,rx⟩ .nil
 | _,_,.cons (a:=(g,y)) (b:=(g',u)) r t=>by
  obtain⟨e,r⟩:=r;have e:g=g':=e;subst e;unfold qY tE;by_cases h:g=f
  ·rw[if_pos h,if_pos h];exact .cons ⟨rfl,rx⟩ t
  ·rw[if_neg h,if_neg h];exact .cons ⟨rfl,r⟩ (vZ.put rx t)
theorem vZ.len: ∀{fs:List (Str×PV)} {us:List (Str×V)},vZ K A H fs us->fs.length=us.length
 | _,_,.nil=>rfl
 | _,_,.cons _ t=>by rw[ao,ao,vZ.len t]
end
def mP (C:aa)(x:PV)(st:z7):Option (Nat×aa×List (Str×PV)):=match x with
 | .obj i=>(match st[i]? with | some (.ins C' dx fs)=>if C'=C then some (i,dx,fs)else none | _=>none)
 | _=>none
theorem zfI {K:Frag}{A:List aa}{H:Hp}{st:z7}{x:PV}{v:V}{C dx:aa}{i:Nat}{fs:List (Str×PV)}(s:RS K A H st)(e:RE K A H x v)(h:mP C x st=some (i,dx,fs)):
  ∃a us,x= .obj i/\v= .ref a/\A[i]?=some a/\H a=some (.ins C dx us)/\vZ K A H fs us:=by
 unfold mP at h
 split at h
 ·rename_i j
  split at h
  ·rename_i C' dx' fs' q
   split at h
   ·rename_i ec
    cases ec;cases h;cases e with
    | val e=>cases e
    | obj eo=>
     obtain⟨us,h1,r⟩:=s.at_ _ _ _ eo q;exact⟨_,us,rfl,rfl,eo,h1,r⟩
   ·cases h
  ·cases h
 ·cases h
section
variable {X:Cx} {C:aa} {f m:Str} {e o value:Expr} {es:List Expr} {pos pos' xz p:di} {Te To Tv:zE} {TA:yC}
def zp2 (C:aa)(f:Str)(T:zE):zE:=λenv st Q=>T env st λx xm=> ∃i dx fs y,mP C x xm=some (i,dx,fs)/\fs.lookup f=some y/\Q y xm
theorem eT (c:sQ X.K C)(n:qK X.K C f)(he:PE X e (zV X.K Te))(hb:attributeBase e f X.env (eval e X.env)=eval e X.env:=by rfl):PE X (.Attribute e f pos) (zV X.K (zp2 C f Te)):=by
 refine vI (zwo he hb) λσ H Q ⟨A,env,st,Q3,xo,h,k⟩=>⟨A,env,st,_,xo,h,λA1 H1 xm x v g1 s1 e1 h1=> ?_⟩;obtain⟨i,dx,fs,y,hi,hl,q⟩:=h1;obtain⟨a,us,rfl,rfl,ea,ha,r⟩:=zfI s1 e1 hi;rcases r.look f with⟨x',w,e2,e3,rw'⟩ | ⟨e2,_⟩
 ·rw[hl]at e2;cases e2
  exact⟨a,C,dx,us,w,rfl,ha,c,n,e3,k A1 H1 xm y w g1 s1 (.val rw') q⟩
 ·rw[hl]at e2;cases e2
def zpD (C:aa)(f:Str)(To Tv:zE):xD:=λD env st=>Tv env st λy xm=>To env xm λx xr=> ∃i dx fs,mP C x xr=some (i,dx,fs)/\xJ y=true/\fs.length < 900/\D.nx env (xr.set i (.ins C dx (qY f y fs)))
theorem zg5 (c:sQ X.K C)(n:qK X.K C f)(ho:PE X o (zV X.K To))(hv:PE X value (zV X.K Tv))(hs:swapsWith value (some (.Attribute o f pos')) pos.line X.env=pure false:=by rfl):PS X (.Assign [.Attribute o f pos'] value pos) (xH X.K (zpD C f To Tv)):=by
 refine o6 (zwO ho hv hs) λD σ H ⟨A,env,st,D3,xo,h,k⟩=>⟨A,env,st,_,xo,h,λA1 H1 xm y w g1 s1 e1 h1=>⟨A1,env,xm,_,xo.grow g1 s1,h1,λA2 H2 xr x v g2 s2 e2 h2=> ?_⟩⟩;obtain⟨i,dx,fs,hi,hn,hl,q⟩:=h2;obtain⟨a,us,rfl,rfl,ea,ha,r⟩:=zfI s2 e2 hi;have hm:=bf ea;have ry:=((e1.grow g2).rv hn).grow (.put (o:= .ins C dx (tE f w us)) hm);refine⟨a,C,dx,us,rfl,ha,c,n,by rw[<- r.len];grobner,k.nx A2 _ σ env _ (g1.trans (g2.trans (.put hm))) ?_ q⟩;exact(xo.grow (g1.trans g2) s2).grow (.put hm) (s2.put (q:= .ins C dx (qY f y fs)) ea ⟨_,xR,(vZ.grow (.put hm) r).put ry⟩)
variable {k:Nat} {fa:aa} {fd:bh} {ps:List Str} {S:zT} {SX:sY} {E:XK} {W:XW} {gv:ad->Prop}
def mR (C:aa)(m:Str)(x:PV)(st:z7):Prop:= ∃i dx fs,mP C x st=some (i,dx,fs)/\fs.lookup m=none
theorem mR.at {K:Frag}{A:List aa}{H:Hp}{st:z7}{x:PV}{v:V}(h:mR C m x st)(s:RS K A H st)(e:RE K A H x v): ∃a dx us,v= .ref a/\H a=some (.ins C dx us)/\us.lookup m=none:=by
 obtain⟨i,dx,fs,hi,hl⟩:=h;obtain⟨a,us,rfl,rfl,ea,ha,r⟩:=zfI s e hi;rcases r.look m with⟨x',w,e2,e3,rw'⟩ | ⟨_,e3⟩
 ·rw[hl]at e2;cases e2
 ·exact⟨a,dx,us,rfl,ha,e3⟩
def zhD (C:aa)(m:Str)(S:zT)(To:zE):zE:=λenv st Q=>To env st λx xm=>mR C m x xm/\S [x] xm Q
theorem wJ {pl:Sem Bool}(c:sQ X.K C)(hm:qJ X.K C m fa)(F:yK X.prog X.w X.K X.mg X.base yG k fa fd ps (yF X.K S))(hr:zH k X.A)(hb:y2 X.K fd ps [])(he:PE X o (zV X.K To))
  (ht:eval (.Call (.Attribute o m xz) [] [] pos) X.env=(do
   let ov <- eval o X.env
   standAt xz.atName
   let(f,first) <- holding [ov] (getMethod ov m pl)
   callWith pos f first (backTo pos (starEach [] X.env)) (backToKw pos (keywordEach [] X.env))):=by rfl):PE X (.Call (.Attribute o m xz) [] [] pos) (zV X.K (zhD C m S To)):=by
 refine vI (zwv (pl:=pl) he c hm F hr hb .nil lZ ht) λσ H Q ⟨A,env,st,Q3,xo,h,k⟩=>⟨A,env,st,_,xo,h,λA1 H1 xm x v g1 s1 e1 h1=> ?_⟩;obtain⟨a,dx,us,rfl,ha,hl⟩:=h1.1.at s1 e1;exact⟨a,dx,us,rfl,ha,hl,A1,xm,[x],Q3,s1,.cons e1 .nil,h1.2,k.after g1⟩
def zzU (C:aa)(m:Str)(S:sY)(W:XW)(To:zE):zE:=λenv st Q=>To env st λx xm=>mR C m x xm/\S [x] xm Q W
end
@[simp] theorem z4S {C:aa}{f:Str}{T:zE}{env:zI}{st:z7}{Q:K3} :zp2 C f T env st Q=(T env st λx xm=> ∃i dx fs y,mP C x xm=some (i,dx,fs)/\fs.lookup f=some y/\Q y xm):=rfl
@[simp] theorem z5w {C:aa}{f:Str}{To Tv:zE}{D:w5}{env:zI}{st:z7} :zpD C f To Tv D env st=(Tv env st λy xm=>To env xm λx xr=> ∃i dx fs,mP C x xr=some (i,dx,fs)/\xJ y=true/\fs.length < 900/\D.nx env (xr.set i (.ins C dx (qY f y fs)))):=rfl
@[simp] theorem z5i {C:aa}{m:Str}{S:zT}{To:zE}{env:zI}{st:z7}{Q:K3} :zhD C m S To env st Q=(To env st λx xm=>mR C m x xm/\S [x] xm Q):=rfl
@[simp] theorem z5j {C:aa}{m:Str}{S:sY}{W:XW}{To:zE}{env:zI}{st:z7}{Q:K3} :zzU C m S W To env st Q=(To env st λx xm=>mR C m x xm/\S [x] xm Q W):=rfl
theorem mQ {C dx:aa}{i:Nat}{st:z7}{fs:List (Str×PV)}(h:st[i]?=some (.ins C dx fs)):mP C (.obj i) st=some (i,dx,fs):=by
 unfold mP;dsimp only;rw[h];exact if_pos rfl
end L3
namespace L2
open PySem PySem.Spec PyProof.Rows
theorem tW {α:Type}{t:Sem α}{Q Q':α->ag->Prop}{M:Model}{A:ci}{E:ad->ag->Prop}{s:ag}(hp:1<=s.toks)(h:av M A t Q E s)(hQ: ∀a s,1<=s.toks->Q a s->Q' a s):av M A t Q' E s:=
 gu (wpAny_toks_of hp h) (λa s' z=>hQ a s' z.1 z.2) λ_ _ z=>z.2
structure tJ (X:Cx)(e:Expr)(t:TE):Prop where
 run: ∀(mt:List 9#3) (s:ag) (σ:St) (H:Hp) (Q:VK),1<=s.toks->z9 X mt σ H s->t σ H Q->av 3#2 X.A (eval e X.env) 2#5 X.xe s
structure sX (X:Cx)(st:bw)(t:TS):Prop where
 run: ∀(mt:List 9#3) (s:ag) (σ:St) (H:Hp) (D:sG),1<=s.toks->z9 X mt σ H s->t D σ H->av 3#2 X.A (exec st X.env) (SP X mt D) X.xe s
structure uM (X:Cx)(st:List bw)(t:TS):Prop where
 run: ∀(mt:List 9#3) (s:ag) (σ:St) (H:Hp) (D:sG),1<=s.toks->z9 X mt σ H s->t D σ H->av 3#2 X.A (execs st X.env) (SP X mt D) X.xe s
structure lE (X:Cx)(e:Expr)(t:TE):Prop where
 run: ∀(mt:List 9#3) (s:ag) (σ:St) (H:Hp) (Q:VK),z9 X mt σ H s->t σ H Q->av 3#2 X.A (eval e X.env) (λu s'=>1<=s'.toks/\EP X mt σ Q u s') X.xe s
structure bB (X:Cx)(st:bw)(t:TS):Prop where
 run: ∀(mt:List 9#3) (s:ag) (σ:St) (H:Hp) (D:sG),z9 X mt σ H s->t D σ H->av 3#2 X.A (exec st X.env) (λf s'=>1<=s'.toks/\SP X mt D f s') X.xe s
section
variable {X:Cx} {a b e o:Expr} {vP:List Expr} {pos pos':di} {ta tb te to:TE} {st:bw} {sts:List bw} {t u:TS}
theorem PE.toP (h:PE X e te):tJ X e te:=⟨λmt s σ H Q _ I q=>h mt s σ H Q I q⟩
theorem PS.toP (h:PS X st t):sX X st t:=⟨λmt s σ H Q _ I q=>h mt s σ H Q I q⟩
theorem xI.toP (h:xI X sts t):uM X sts t:=⟨λmt s σ H Q _ I q=>h mt s σ H Q I q⟩
theorem eR (h1:sX X st t)(h2:uM X sts u):uM X (st::sts) (gR t u):=⟨λmt s σ H D hp I h=>by
 refine jn (tW hp (h1.run mt s σ H {D with nx:=u D} hp I h) λf s1 hp1 q=> ?_);cases f with
 | next=>
  obtain⟨σ',H',I',q⟩:=q;exact h2.run mt s1 σ' H' D hp1 I' q
 | ret v=>exact q
 | brk=>exact q
 | cont=>exact q⟩
theorem zwW (h1:bB X st t)(h2:uM X sts u):xI X (st::sts) (gR t u):=⟨λmt s σ H D I h=>by
 refine jn (zY (h1.run mt s σ H {D with nx:=u D} I h) λf s1 ⟨hp1,q⟩=> ?_);cases f with
 | next=>
  obtain⟨σ',H',I',q⟩:=q;exact h2.run mt s1 σ' H' D hp1 I' q
 | ret v=>exact q
 | brk=>exact q
 | cont=>exact q⟩
theorem znM {i:Nat}{x:Str}(hN:X.N.Nodup)(hi:X.N[i]?=some x)(hx:rP X.env.scope x)(he:tJ X e te)(hs:swapsWith e (some (.Name x pos')) pos.line X.env=pure false:=by rfl)(hf:X.fn x=true∨X.env.scope.names.lookup x=some .local:=by first | exact .inl rfl | exact .inr rfl | assumption):
  sX X (.Assign [.Name x pos'] e pos) (gQ te (iX i)):=⟨λmt s σ H D hp I h=>by
 refine qp (zY (he.run mt s σ H _ hp I h) λv s1 ⟨y,H1,I1,r1,q1⟩=> ?_) hs;exact zaP I1 hN hi hx r1 (λs2 I2=>⟨_,H1,I2,q1⟩) hf⟩
theorem zwU {i:Nat}{x:Str}(hN:X.N.Nodup)(hi:X.N[i]?=some x)(hx:rP X.env.scope x)(he:lE X e te)(hs:swapsWith e (some (.Name x pos')) pos.line X.env=pure false:=by rfl)(hf:X.fn x=true∨X.env.scope.names.lookup x=some .local:=by first | exact .inl rfl | exact .inr rfl | assumption):
  bB X (.Assign [.Name x pos'] e pos) (gQ te (iX i)):=⟨λmt s σ H D I h=>by
 refine qp (zY (he.run mt s σ H _ I h) λv s1 ⟨hp,y,H1,I1,r1,q1⟩=> ?_) hs;have z:=zaP (M:=bb X.prog X.w) (A:=X.A) (Q:=λ_ s2=>SP X mt D .next s2) (E:=X.xe) I1 hN hi hx r1 (λs2 I2=>⟨_,H1,I2,q1⟩) hf;exact gu (wpAny_toks_of hp z) (λ_ _ w=>w) λ_ _ w=>w.2⟩
theorem zw1 {i:Int}{j} :lE X (.Constant 1#5 j pos) (tC 1#5):=⟨λmt s σ H Q I h=>wpAny_Constant_int ⟨by show 1<=s.toks+1;grobner,.int i,H,I.tok _,⟨_,rfl⟩,h⟩⟩
def zzu (x y:Str)(to:TE):TE:=λσ H Q=>to σ H λv H1=> ∃z,v= .str z/\z.length<=1048576/\Q (.str (Txt.replace z x y)) H1
theorem zwh {x y:Str}{i j:Nat}{pa pb xz xy:di}(hxy:(x==y)=false)(hz:y.length<=14)(ho:tJ X o to)
  (yh:attributeBase o "replace" X.env (eval o X.env)=eval o X.env:=by rfl)
  (hfew:((backTo xy (starEach [.Constant (.str x) i pa,.Constant (.str y) j pb] X.env)).all (λx=> !x.1)&&(backToKw xy (keywordEach [] X.env)).all (λx=>x.1.isSome)
   &&decide ([Expr.Constant (.str x) i pa,.Constant (.str y) j pb].length+([]:List Keyword).length+(if([]:List Keyword).isEmpty then 0 else 1) < 30))=true:=by rfl)
  (yg:(xz.endLine==xy.line)=true:=by rfl):
  tJ X (.Call (.Attribute o "replace" xz) [.Constant (.str x) i pa,.Constant (.str y) j pb] [] xy) (zzu x y to):=⟨λmt s σ H Q hp I h=>by
 refine ub yh hfew yg rfl (tW hp (ho.run mt s σ H _ hp I h) λv s1 hp1 ⟨xv,H1,I1,r1,z,ez,hl,q⟩=> ?_);subst ez;obtain⟨h1,h2⟩:=zh_ (T:= "str") I1 r1 rfl;refine⟨"str","str.replace",cq,PySem.F.slot_str_replace,PySem.F.type_str_replace,h1,h2,?_⟩;refine mz rfl (uw ?_);show av _ _ (spliced ((false,eval (.Constant (.str x) i pa) X.env)::backTo xy (starEach [.Constant (.str y) j pb] X.env))) _ _ s1;refine iu (wpAny_Constant_str ?_);show av _ _ (spliced ((false,eval (.Constant (.str y) j pb) X.env)::backTo xy (starEach [] X.env))) _ _ _;refine iu (wpAny_Constant_str ?_);refine qr ?_;obtain⟨t,rfl⟩:=r1;exact SC.replaceW (by show s1.toks≠0;grobner) (by show s1.toks+1≠0;grobner) (by show s1.toks≠s1.toks+1;grobner) hxy hl hz λt' k=>⟨.str _,H1,I1.tok k,⟨_,rfl⟩,q⟩⟩
end
structure rJ (P:br)(w:bz)(K:Frag)(mg:Str->Option ad)(base:cf)(CX:tY)(k:Nat)(f:aa)(fd:bh)(ps:List Str)(sp:Sp):Prop where
 len: ∀vs H Q E,sp vs H Q E->vs.length=ps.length
 run: ∀(A:ci) (outer:List lc) (s:ag) (H:Hp) (args:Args) (us:List ad) (vs:List V) (Q:VK) (E:XK),1<=s.toks->zH k A->l8 P w K mg base A outer s H->BindsTo s fd args (ps.zip us)->zR vs us->sp vs H Q E->
  jf (bb P w) A (.call 8#3 args) (CR CX outer P w H s Q E) s
theorem zlF {CX:tY}{P:br}{w:bz}{K:Frag}{mg:Str->Option ad}{base:cf}{k:Nat}{f:aa}{name qual:Str}{params:Arguments}{body:List bw}{scope:kb}{dV kV doc pm xw ct oc:ad}{an od:Option aa}
  {yw:Array (Option ad)} {N ps:List Str} {sp:Sp} (lk:K.lookup f=some ⟨oc,od,.func 8#6,yw⟩) (hcd:codeIn K xw qual=true) (S:yQ N ps scope)
  (len: ∀vs H Q E,sp vs H Q E->vs.length=ps.length)
  (hbody: ∀(A:ci) (outer:List lc) (s:ag) (H:Hp) (vs:List V) (Q:VK) (E:XK),zH k (A.deeper (envOfC qual scope s.heap.objs.size f xw))->sp vs H Q E->
   ∃t,uM 6#4 body t/\t {nx:=λ_ H'=>Q .non H',rt:=Q} (start N vs) H):
  rJ P w K mg base CX (k+1) f 8#6 ps sp:=by
 refine⟨len,λA outer s H args us vs Q E hp hr e0 hb r yz=> ?_⟩;have hl:=len _ _ _ _ yz;have KX:K.In s.heap:=e0.mod.kin.keeps λb o e=>(e0.bs b o e).1;have lim:s.heap.NoLimit:=e0.mod.nolimit.keeps λb o e=>(e0.bs b o e).1;have hkind: ∀y∈ps.zip us,scope.names.lookup y.1=some .local∨(scope.names.lookup y.1=some .cell/\((cellsFrom 5#3 scope.names []).lookup y.1).isSome=true):=λ⟨n,v⟩ hy=>by
  rcases S.par n (kt hy).1 with q | q
  ·exact .inl q
  ·exact .inr ⟨q,ul _ _ _ (.inl q)⟩
 refine um hr.depth (KX _ _ lk) rfl S.co S.gen rfl (codeRec_of KX hcd) (hb _ _ _ _ ?_);refine tW hp (qj (Q:=λenv s1=>env=envOfC qual scope s.heap.objs.size f xw/\InCallC s env.locals (bindL env.kindOf (ps.zip us) λ_=>none) env.cells (bindC env.kindOf (ps.zip us) λ_=>none) s1) S.kind hkind λenv he s1 x=>⟨he,x⟩) λenv s1 hp1 ⟨he,x⟩=> ?_;subst he;refine⟨lim.keeps x.toInCall.keep,codeAny_func ?_⟩;obtain⟨t,ht,hq⟩:=hbody A outer s H vs Q E (hr.deeper _) yz;have I:z9 6#4 [] (start N vs) H s1:=zma S hr.hd e0 hl r x;refine gu (ht.run [] s1 (start N vs) H _ hp1 I hq) (λfl s' hs=> ?_) λe s' hs=>hs;have fin: ∀{σ':St} {H':Hp} {v:V} {u:ad},z9 6#4 [] σ' H' s'->y4 v u->Q v H'->CE outer P w H s Q u s':=
  λ{σ' H' v u} J rv q=>⟨v,H',J.os,J.bare,J.base,J.hok,rv,q⟩
 cases fl with
 | ret u=>
  obtain⟨v,σ',H',J,rv,q⟩:=hs;exact fin J rv q
 | next=>
  obtain⟨σ',H',J,q⟩:=hs;exact fin (v:=V.non) (u:=Value.none) J rfl q
 | brk=>
  obtain⟨_,_,_,q⟩:=hs;exact False.elim q
 | cont=>
  obtain⟨_,_,_,q⟩:=hs;exact False.elim q
section
variable {X:Cx} {CX:tY} {k:Nat} {f C:aa} {fd:bh} {ps:List Str} {sp:Sp} {E:XK} {x:Str} {p pos:di} {e:Expr} {es:List Expr} {t:TA}
theorem zxX {mt:List 9#3}{σ:St}{H:Hp}{s:ag}{Q:VK}{us:List ad}{vs:List V}(hp:1<=s.toks)(M:Mk X.K C f)(F:rJ X.prog X.w X.K X.mg X.base CX k f fd ps sp)(hr:zH (k+1) X.A)(hb:y2 X.K fd ps [])
  (hx:pP CX X E) (I:z9 X mt σ H s) (r:zR vs us)
  (h: ∀x dx,H x=none->H dx=none->dx≠x->sp (.ref x::vs) (zN (zN H dx (.own x)) x (.ins C dx [])) (λv H2=>v= .non/\Q (.ref x) H2) E):
  av 3#2 X.A (call (.ref C) us) 2#5 X.xe s:=by
 have hq:=h 5#3 s.heap.objs.size (I.hok.fresh (jt _)) (I.hok.fresh (aq _)) (bo (ia _));have I2:=z9.made (C:=C) I;have r2:zR (V.ref 5#3::vs) (Value.ref 5#3::us):= .cons rfl r;have hl:(Value.ref 5#3::us++ []).length=ps.length:=by
  have e:=r2.length;rw[F.len _ _ _ _ hq]at e;rw[cg];exact e.symm
 have bd:=hb _ (Value.ref 5#3::us) I2.kIn hl;rw[cg]at bd;refine uv (zuk (f:=f) I.kIn M.makes M.init (beq_iff_eq.mp M.fn) (kf (F.run _ X.stack _ _ ⟨Value.ref 5#3::us,[]⟩ (Value.ref 5#3::us) _ _ E hp (hr.make C us [])
  (I2.env0.make C us []) bd r2 hq) λr s' hq'=> ?_))
 cases r with
 | error e=>exact hx mt σ _ _ e s' I2 hq'
 | ok fl=>
  cases fl with
  | ret u=>
   obtain⟨v,H',I3,rv,ev,q3⟩:=I2.after hq';subst ev;exact⟨rv,⟨V.ref 5#3,H',I3,rfl,q3⟩⟩
  | next=>exact False.elim hq'
  | brk=>exact False.elim hq'
  | cont=>exact False.elim hq'
theorem zwg (M:Mk X.K C f)(F:rJ X.prog X.w X.K X.mg X.base CX k f fd ps sp)(hr:zH (k+1) X.A)(hg:Gl X x)(hm:X.mg x=some (.ref C))(hb:y2 X.K fd ps [])(hx:pP CX X E)
  (ha:PA X (e::es) t) (hdb:4#4=false:=by decide) (he:starEach (e::es) X.env=8#2::starEach es X.env:=by rfl) (yi:(backTo pos 3#3).any (·.1)=false:=by rfl):
  tJ X 4#3 (zzq C sp [] E t):=⟨λmt s σ H Q hp I h=>by
 refine gw (hV I hg hm ?_ hdb);refine nh (h₀:=X.base) I.ok.mod.kin M.kp (tW hp (ha pos mt s σ H _ I h) λus s1 hp1 ⟨vs,H1,I1,r,q⟩=>⟨I1.kIn,?_⟩) he yi;exact zxX hp1 M F hr hb hx I1 r λx dx h1 h2 h3=>by have:=q x dx h1 h2 h3;rwa [cg]at this⟩
end
end L2
namespace L3
open PySem PySem.Spec PyProof.Rows L2
section
variable {X:Cx} {a e:Expr} {es:List Expr} {pos p:di} {sts:List bw} {stm:bw} {Ts Tu:xD} {Ta Te To:zE} {TA:yC}
theorem jQ (h1:sX X stm (xH X.K Ts))(h2:uM X sts (xH X.K Tu)):uM X (stm::sts) (xH X.K (rG Ts Tu)):=
 ⟨λmt s σ H D hp I ⟨A,env,st,D3,xo,h,k⟩=>(eR h1 h2).run mt s σ H D hp I ⟨A,env,st,_,xo,h,λA1 H1 σ1 env1 xm g1 r1 h1=>⟨A1,env1,xm,D3,r1,h1,k.after g1⟩,k.rt,k.bk,k.ct⟩⟩
theorem zxz (h1:bB X stm (xH X.K Ts))(h2:uM X sts (xH X.K Tu)):xI X (stm::sts) (xH X.K (rG Ts Tu)):=
 zgx (zwW h1 h2) λD σ H ⟨A,env,st,D3,xo,h,k⟩=>⟨A,env,st,_,xo,h,λA1 H1 σ1 env1 xm g1 r1 h1=>⟨A1,env1,xm,D3,r1,h1,k.after g1⟩,k.rt,k.bk,k.ct⟩
theorem zoi {i:Nat}{x:Str}{pos':di}(hN:X.N.Nodup)(hi:X.N[i]?=some x)(hx:rP X.env.scope x)(he:tJ X e 6#6)(hs:swapsWith e (some (.Name x pos')) pos.line X.env=pure false:=by rfl)(hf:X.fn x=true∨X.env.scope.names.lookup x=some .local:=by first | exact .inl rfl | exact .inr rfl | assumption):
  sX X (.Assign [.Name x pos'] e pos) (xH X.K (nV Ta (gN i))):=⟨λmt s σ H D hp I h=>by
 refine(znM (pos:=pos) (pos':=pos') hN hi hx he hs hf).run mt s σ H D hp I ?_;obtain⟨A,env,st,Q3,xo,h,k⟩:=iQ h;exact⟨A,env,st,Q3,xo,h,λA1 H1 xm r v g s e q=>iS (k A1 H1 xm r v g s e q)⟩⟩
theorem zxy {i:Nat}{x:Str}{pos':di}(hN:X.N.Nodup)(hi:X.N[i]?=some x)(hx:rP X.env.scope x)(he:lE X e 6#6)(hs:swapsWith e (some (.Name x pos')) pos.line X.env=pure false:=by rfl)(hf:X.fn x=true∨X.env.scope.names.lookup x=some .local:=by first | exact .inl rfl | exact .inr rfl | assumption):
  bB X (.Assign [.Name x pos'] e pos) (xH X.K (nV Ta (gN i))):=⟨λmt s σ H D I h=>by
 refine(zwU (pos:=pos) (pos':=pos') hN hi hx he hs hf).run mt s σ H D I ?_;obtain⟨A,env,st,Q3,xo,h,k⟩:=iQ h;exact⟨A,env,st,Q3,xo,h,λA1 H1 xm r v g s e q=>iS (k A1 H1 xm r v g s e q)⟩⟩
theorem zxw {i:Int}{j} :lE X (.Constant 1#5 j pos) (zV X.K (vC 1#5)):=⟨λmt s σ H Q I h=>zw1.run mt s σ H Q I (iR (λ_ _=> .val 1#5) h)⟩
def zpB (x y:Str)(To:zE):zE:=λenv st Q=>To env st λv xm=>match v with | .str z=>z.length<=1048576/\Q (.str (Txt.replace z x y)) xm | _=>False
theorem zob {o:Expr}{x y:Str}{i j:Nat}{pa pb xz xy:di}(hxy:(x==y)=false)(hz:y.length<=14)(ho:tJ X o (zV X.K To))
  (yh:attributeBase o "replace" X.env (eval o X.env)=eval o X.env:=by rfl)
  (hfew:((backTo xy (starEach [.Constant (.str x) i pa,.Constant (.str y) j pb] X.env)).all (λx=> !x.1)&&(backToKw xy (keywordEach [] X.env)).all (λx=>x.1.isSome)
   &&decide ([Expr.Constant (.str x) i pa,.Constant (.str y) j pb].length+([]:List Keyword).length+(if([]:List Keyword).isEmpty then 0 else 1) < 30))=true:=by rfl)
  (yg:(xz.endLine==xy.line)=true:=by rfl):
  tJ X (.Call (.Attribute o "replace" xz) [.Constant (.str x) i pa,.Constant (.str y) j pb] [] xy) (zV X.K (zpB x y To)):=⟨λmt s σ H Q hp I ⟨A,env,st,Q3,xo,h,k⟩=>by
 refine(zwh hxy hz ho yh hfew yg).run mt s σ H Q hp I ⟨A,env,st,_,xo,h,λA1 H1 xm v w g1 s1 e1 h1=> ?_⟩;cases v with
 | str z=>cases u8 e1;exact⟨z,rfl,h1.1,k A1 H1 xm _ _ g1 s1 (.val 7#4) h1.2⟩
 | _=>exact False.elim h1⟩
def zp8 (C:aa)(S:zT)(TA:yC):zE:=λenv st Q=>TA env st λxs xm=> ∀dx,S (.obj xm.length::xs) (xm++ [.ins C dx []]) λv xr=>v= .non/\Q (.obj xm.length) xr
theorem zoa {k:Nat}{f C:aa}{fd:bh}{ps:List Str}{S:zT}{x:Str}(M:Mk X.K C f)(F:rJ X.prog X.w X.K X.mg X.base yG k f fd ps (yF X.K S))(hr:zH (k+1) X.A)(hm:X.mg x=some (.ref C))(hb:y2 X.K fd ps [])
  (ha:PA X (e::es) (wU X.K TA)) (hg:Gl X x:=by rfl) (hdb:4#4=false:=by decide) (he:starEach (e::es) X.env=8#2::starEach es X.env:=by rfl) (yi:(backTo pos 3#3).any (·.1)=false:=by rfl):
  tJ X 4#3 (zV X.K (zp8 C S TA)):=⟨λmt s σ H Q hp I ⟨A,env,st,Q3,xo,h,k⟩=>by
 refine(zwg (E:=E0) M F hr hg hm hb lZ ha hdb he yi).run mt s σ H Q hp I ⟨A,env,st,_,xo,h,λA1 H1 xm xs vs g1 s1 e1 h1 q dx hx hdx ne=> ?_⟩;have n2:zN H1 dx (.own q) q=none:=by rw[yJ (dh ne)];exact hx
 have gg:zZ A1 H1 (A1++ [q]) (zN (zN H1 dx (.own q)) q (.ins C dx [])):=(zZ.new hdx).trans (zZ.newObj n2);have oo:OA X.K (A1++ [q]) (zN (zN H1 dx (.own q)) q (.ins C dx [])) q (.ins C dx []):=⟨[],xR,.nil⟩;have s2:RS X.K (A1++ [q]) (zN (zN H1 dx (.own q)) q (.ins C dx [])) (xm++ [.ins C dx []]):=(s1.new hdx).newObj n2 oo;rw[cg];refine⟨A1++ [q],xm++ [.ins C dx []],.obj xm.length::xs,_,s2,.cons (.obj (eL s1.len)) (xC.grow gg e1),h1 dx,λA' H' xp r v g' s' e' q'=> ?_⟩;obtain⟨rfl,q'⟩:=q';refine⟨by cases e' with | val e'=>cases e';rfl,k A' H' xp _ _ (g1.trans (gg.trans g')) s' (.obj (g'.sub (eL s1.len))) q'⟩⟩
end
theorem znb {P:br}{w:bz}{K:Frag}{mg:Str->Option ad}{base:cf}{x qual:Str}{st:bw}{f:aa}{fd:bh}{N ps:List Str}{k:Nat}{S:zT}(keep:Nat)(F:zS K x qual st f fd)(sc:yQ N ps (zX st))(len: ∀xs st Q,S xs st Q->xs.length=ps.length)
  (hB: ∃T:xD,(∀(xw:ad) (A:ci) (outer:List lc) (s:ag) (H:Hp) (E:XK),zH k 5#7->uM (qQ yG P w K mg base N qual (zX st) f xw A outer s H E) (pU st) (xH K T))/\
   ∀xs sto Q,S xs sto Q->T {nx:=λ_ s'=>wX (sto.length+keep) Q .non s',rt:=wX (sto.length+keep) Q} (kP N xs) sto):rJ P w K mg base yG (k+1) f fd ps (yF K S):=by
 obtain⟨T,hT,hb⟩:=hB;obtain⟨oc,od,kV,doc,pm,an,xw,ct,yw,rfl,lk,hcd⟩:=F.ex;refine zlF lk hcd sc (λvs H Q E h=> ?_) λA outer s H vs Q E hr h=>⟨_,hT xw A outer s H E hr,?_⟩
 ·obtain⟨A,sto,xs,Q3,rs,ex,hS,_⟩:=h
  rw[<- len xs sto Q3 hS];exact(gx ex).symm
 ·obtain⟨A,sto,xs,Q3,rs,ex,hS,k⟩:=h
  have hm:A.length<=sto.length+keep:=by rw[rs.len];grobner
  refine⟨A,kP N xs,sto,_,wB.begin rs ex,hb xs sto Q3 hS,⟨λA' H' σ' xt xp g r q=> ?_,k.exit hm,λA' H' σ' xt xp g r q=>q.elim,λA' H' σ' xt xp g r q=>q.elim⟩⟩;exact k.exit hm A' H' xp .non .non g r.rs (.val .non) q
@[simp] theorem z5t {x y:Str}{T:zE}{env:zI}{st:z7}{Q:K3} :zpB x y T env st Q=(T env st λv xm=>match v with | .str z=>z.length<=1048576/\Q (.str (Txt.replace z x y)) xm | _=>False):=rfl
@[simp] theorem z5g {C:aa}{S:zT}{TA:yC}{env:zI}{st:z7}{Q:K3} :zp8 C S TA env st Q=(TA env st λxs xm=> ∀dx,S (.obj xm.length::xs) (xm++ [.ins C dx []]) λv xr=>v= .non/\Q (.obj xm.length) xr):=rfl
end L3
namespace L2
open PySem PySem.Spec PyProof.Rows
theorem zpK: ∀(l:List (Str×lx)),zR ((l.map (·.1)).map V.str) (strValues l)
 | []=> .nil
 | p::r=> .cons ⟨p.2,rfl⟩ (zpK r)
section
variable {X:Cx}
theorem zu3:sW X "str.split" (λx xs H Q=> ∃z d,x= .str z/\xs= [.str d]/\(d.length==0)=false/\z.length<=1000000/\∀p,H p=none->Q (.ref p) (zN H p (.lst ((Txt.split z d).map V.str)))):=by
 intro mt s σ H x xs v us Q I rx rxs ⟨z,d,ex,exs,hd,hz,q⟩;subst ex;subst exs;obtain⟨t,rfl⟩:=rx;obtain⟨u,rfl,u',rfl⟩:=zR.one rxs;have hb:(1000002:Nat)<=am:=by rw[iz];decide
 have hx:z.length<=am:=0#0
 have hn:(Txt.split z d).length<=am:=cb (split_le z d) 0#0;have hf:H s.heap.objs.size=none:=I.hok.fresh (aq _);have fin: ∀(l:List (Str×lx)) (tk:Nat),l.map (·.1)=Txt.split z d->EP X mt σ Q 6#3 {s with heap:=s.heap.push {cls:= .type 9#1,data:= .seq (strValues l).toArray},toks:=tk} :=λl tk e=>by
  refine⟨.ref s.heap.objs.size,_,I.laid (t':=tk) (o:= .lst ((Txt.split z d).map V.str)) (λb u e=>ak _ e) (aq _) ⟨by rw[ah];exact hn,strValues l,0,?_,be _ rfl⟩,rfl,q _ hf⟩;rw[<- e];exact zpK l
 cases h1:(decide (z.length < d.length)||decide (Builtin.Str.strKind z < Builtin.Str.strKind d))
 ·cases h2:(Builtin.Str.occurrences z d 0 z.length (z.length+1)).isEmpty
  ·have e0:Txt.split z d=Builtin.Str.partsBetween z (Builtin.Str.occurrences z d 0 z.length (z.length+1)) d.length:=by unfold Txt.split;rw[h1,h2];rfl
   refine ll sw (ni _ _ _) rc (qd _ _) (meets_str_split_sep z d t u' h1 hd h2 hx (by rw[<- e0];exact hn)) ?_;show wants _ _ _ {s with toks:=_,heap:=s.heap.push {cls:= .type 9#1,data:= .seq (strsFrom s.toks (Builtin.Str.partsBetween z (Builtin.Str.occurrences z d 0 z.length (z.length+1)) d.length)).toArray}};rw[strsFrom_eq];exact fin _ _ ((numbered_texts _ _).trans e0.symm)
  ·have e0:Txt.split z d= [z]:=by unfold Txt.split;rw[h1,h2];rfl
   exact ll sw (ni _ _ _) rc (qd _ _) (meets_str_split_not_found z d t u' h1 hd h2) (fin [(z,t)] _ e0.symm)
 ·have e0:Txt.split z d= [z]:=by unfold Txt.split;rw[h1];rfl
  exact ll sw (ni _ _ _) rc (qd _ _) (meets_str_split_cannot_occur z d t u' h1) (fin [(z,t)] _ e0.symm)
end
end L2
namespace L3
open PySem PySem.Spec PyProof.Rows L2
section
variable {X:Cx}
theorem zoX (K:Frag)(A:List aa)(H:Hp): ∀ss:List Str,RVs K A H (ss.map PV.str) (ss.map V.str)
 | []=> .nil
 | x::r=> .cons (.str x) (zoX K A H r)
def zgM:PV->zT:=λx xs st Q=>match x,xs with | .str z,[.str d]=>(d.length==0)=false/\z.length<=1000000/\Q (.lst ((Txt.split z d).map PV.str)) st | _,_=>False
theorem zmZ:sW X "str.split" (mH X.K zgM):=by
 intro mt s σ H v vs vv us Q I rv rvs ⟨A,st,x,xs,Q3,rs,ex,exs,h,k⟩;unfold zgM at h
 split at h
 ·rename_i z d
  obtain⟨w,rfl,ey⟩:=xC.one exs;cases u8 ex;cases u8 ey;refine zu3 mt s σ H _ _ vv us Q I rv rvs ⟨z,d,rfl,rfl,h.1,h.2.1,λp hp=>k A _ st _ _ (.new hp) (rs.new hp) (.val (.lst (.inl ⟨.inl xR,rs.fresh hp⟩) ?_ (zoX _ _ _ _))) h.2.2⟩;rw[ah];have:=split_le z d;have hb:(1000002:Nat)<=am:=by rw[iz];decide
  have:=h.2.1;grobner
 ·exact h.elim
def zx5:PV->zT:=λx xs st Q=>match x,xs with | .str z,[.str d,.int i]=>Q (.int (Txt.find3 z d i)) st | _,_=>False
def zxG:PV->zT:=λx xs st Q=>match x,xs with | .str z,[.str d]=>(d.length==0)=false/\z.length<=1000000/\Q (.tup [.str (Txt.rpartition z d).1,.str (Txt.rpartition z d).2.1,.str (Txt.rpartition z d).2.2]) st | _,_=>False
def zgO:zT:=λxs st Q=>match xs with | [.int i]=>i.natAbs < 2 ^ 64/\Q 6#7 st | _=>False
theorem gF:vF X (.type "str") (sE X.K zgO):=by
 intro mt s σ H vs us Q I rv ⟨A,st,xs,Q3,rs,ex,h,k⟩;unfold zgO at h
 split at h
 ·rename_i i
  obtain⟨v,rfl,ex1⟩:=xC.one ex;cases wC ex1;obtain⟨u,rfl,t,rfl⟩:=zR.one rv;refine PySem.P.str_of_int ?_ ⟨.str _,H,I.tok _,⟨_,rfl⟩,k.now rs (.val 7#4) h.2⟩;by_cases h0:i.natAbs=0
  ·rw[h0];decide
  ·have:=(ud h0).mpr h.1
   grobner
 ·exact h.elim
def zgB:zT:=λxs st Q=>match xs with | [.str x]=>x.length<=640/\∃n,PySem.intText? x=some n/\Q (.int n) st | _=>False
theorem zmX:vF X (.type "int") (sE X.K zgB):=by
 intro mt s σ H vs us Q I rv ⟨A,st,xs,Q3,rs,ex,h,k⟩;unfold zgB at h
 split at h
 ·rename_i x
  obtain⟨v,rfl,ex1⟩:=xC.one ex;cases u8 ex1;obtain⟨u,rfl,t,rfl⟩:=zR.one rv;obtain⟨hl,n,hn,q⟩:=h;exact PySem.W.KIN.call_text hn hl ⟨.int n,H,I.tok _,⟨_,rfl⟩,k.now rs (.val (.int _)) q⟩
 ·exact h.elim
def zg7:zT:=λxs st Q=>match xs with | [.int i]=>Q (.int (if i < 0 then -i else i)) st | _=>False
theorem zmU:vF X (.builtin "abs") (sE X.K zg7):=by
 intro mt s σ H vs us Q I rv ⟨A,st,xs,Q3,rs,ex,h,k⟩;unfold zg7 at h
 split at h
 ·rename_i i
  obtain⟨v,rfl,ex1⟩:=xC.one ex;cases wC ex1;obtain⟨u,rfl,t,rfl⟩:=zR.one rv;exact call_abs_int λu tk=>⟨.int _,H,I.tok _,⟨_,rfl⟩,k.now rs (.val (.int _)) h⟩
 ·exact h.elim
def zxC:R3:=λx y st Q=>match x,y with | .str z,.int n=>((0<=n/\n<=1000)/\z.length<=1000)/\Q (.str (Txt.mul z n)) st | _,_=>False
end
section
variable {X:Cx} {k k2 i j r d:Nat} {f f2 C HE:aa} {fd fd2:bh} {ps ps2:List Str} {S:sY} {S2:zT} {x y x2 n z rn fl:Str} {p xy epos yp hpos pos p2 cp2 zp rp np rpos:di} {a:Expr} {as:List Expr} {TA:yC} {sts:List bw} {Tu:xD}
def z0g (S:sY)(S2:zT)(C:aa)(fl:Str)(i j r d:Nat)(TA:yC)(Tu:xD):xD:=λD env st=>TA env st λxs xm=>S xs xm (λv xr=>S2 [v] xr λv2 yd=>Tu D (env.set j (some v2)) yd) gE∨
 (tupVs xs=true/\env[d]?=some (some (.bl false))/\S xs [] (λ_ _=>False) (λC' o=>C'=C/\o=some (fl,.int 0))/\D.rt (.bl true) xm)
end
@[simp] theorem z52 {S:sY}{S2:zT}{C:aa}{fl:Str}{i j r d:Nat}{TA:yC}{Tu:xD}{D:w5}{env:zI}{st:z7} :z0g S S2 C fl i j r d TA Tu D env st=(TA env st λxs xm=>S xs xm (λv xr=>S2 [v] xr λv2 yd=>Tu D (env.set j (some v2)) yd) gE∨
 (tupVs xs=true/\env[d]?=some (some (.bl false))/\S xs [] (λ_ _=>False) (λC' o=>C'=C/\o=some (fl,.int 0))/\D.rt (.bl true) xm)):=rfl
@[simp] theorem z3d {z d:Str}{st:z7}{Q:K3} :zgM (.str z) [.str d] st Q=((d.length==0)=false/\z.length<=1000000/\Q (.lst ((Txt.split z d).map PV.str)) st):=rfl
@[simp] theorem z1t {z d:Str}{i:Int}{st:z7}{Q:K3} :zx5 (.str z) [.str d,.int i] st Q=Q (.int (Txt.find3 z d i)) st:=rfl
@[simp] theorem z2U {z d:Str}{st:z7}{Q:K3} :zxG (.str z) [.str d] st Q=((d.length==0)=false/\z.length<=1000000/\Q (.tup [.str (Txt.rpartition z d).1,.str (Txt.rpartition z d).2.1,.str (Txt.rpartition z d).2.2]) st):=rfl
@[simp] theorem z3h {i:Int}{st:z7}{Q:K3} :zgO [.int i] st Q=(i.natAbs < 2 ^ 64/\Q 6#7 st):=rfl
@[simp] theorem z11 {x:Str}{st:z7}{Q:K3} :zgB [.str x] st Q=(x.length<=640/\∃n,PySem.intText? x=some n/\Q (.int n) st):=rfl
@[simp] theorem z0Q {i:Int}{st:z7}{Q:K3} :zg7 [.int i] st Q=Q (.int (if i < 0 then -i else i)) st:=rfl
@[simp] theorem z2v {z:Str}{n:Int}{st:z7}{Q:K3} :zxC (.str z) (.int n) st Q=(((0<=n/\n<=1000)/\z.length<=1000)/\Q (.str (Txt.mul z n)) st):=rfl
end L3
section
abbrev zC:=List Nat
inductive yH where
 | lf (w:zC) | op (h:zC) (a b:yH) | if3 (a b c:yH) | fl (h:zC) (ws:List zC)
def xZ:zC:= [105,102]
def w9:zC:= [109,97,110,121]
def w6:zC:= [108,111,110,103]
def vM:List zC:= [[119,97,115],[109,105,110,101],[121,111,117,114,115]]
def yS:List zC->zC
 | []=> []
 | [x]=>x
 | x::y::r=>x++32::yS (y::r)
theorem uL (x:zC){l:List zC}(h:l≠ []):yS (x::l)=x++32::yS l:=by
 cases l with
 | nil=>exact absurd rfl h
 | cons y r=>rfl
theorem j0 {l m:List zC}(h:l≠ [])(h':m≠ []):yS (l++m)=yS l++32::yS m:=by
 induction l with
 | nil=>exact absurd rfl h
 | cons x r ih=>
  cases r with
  | nil=>exact uL x h'
  | cons y r=>
   rw[jp,uL x 3#0,ih 3#0,uL x 3#0,wk,jp]
def m9 (c:Nat):Bool:=decide (97<=c)&&decide (c<=122)
def uC (c:Nat):Bool:=decide (48<=c)&&decide (c<=57)
def y1 (w:zC):Bool:=decide (1<=w.length)&&decide (w.length<=8)&&w.all m9
def vR (w:zC):Nat:=w.foldl (λa c=>a * 10+(c - 48)) 0
def tH (w:zC):Bool:=decide (1<=w.length)&&decide (w.length<=10)&& !(decide (1 < w.length)&&w.head?==some 48)&&w.all uC
def m8 (w:zC):Bool:=tH w&&decide (vR w<=4294967295)
def uK (told:Bool)(w:zC):Bool:=m8 w||(if told=true then vM.contains w else y1 w)
def tT (h:zC):Bool:= [[43],[45],[42],[60],[61]].contains h
def vY (w:zC):Prop:= ∀c∈w,c≠32/\c≠40/\c≠41/\c≠126
theorem fB {w:zC}(h:y1 w=true):vY w:=by
 intro c hc;unfold y1 at h;have h2:=dk.mp (cj.mp h).2 c hc;unfold m9 at h2;rw[cj,decide_eq_true_eq,decide_eq_true_eq]at h2;grobner
theorem cZ {w:zC}(h:tH w=true):vY w:=by
 intro c hc;unfold tH at h;have h2:=dk.mp (cj.mp h).2 c hc;unfold uC at h2;rw[cj,decide_eq_true_eq,decide_eq_true_eq]at h2;grobner
theorem zqO {w:zC}(h:vM.contains w=true):vY w:=by
 have:w∈vM:=by simpa using h
 unfold vM at this;rcases ar.mp this with rfl | this
 ·unfold vY;decide
 rcases ar.mp this with rfl | this
 ·unfold vY;decide
 rcases ar.mp this with rfl | this
 ·unfold vY;decide
 ·cases this
theorem zi3 {told:Bool}{w:zC}(h:uK told w=true):vY w:=by
 unfold uK at h;rcases Bool.or_eq_true_iff.mp h with h | h
 ·exact cZ (cj.mp h).1
 ·cases told with
  | true=>exact zqO h
  | false=>exact fB h
theorem zqC {w:zC}(h:tT w=true):vY w:=by
 have:w∈ [[43],[45],[42],[60],[61]]:=by simpa [tT]using h
 simp only[ar,bu,or_false]at this;rcases this with rfl | rfl | rfl | rfl | rfl <;> (unfold vY;decide)
theorem zqB:vY w9:=by unfold vY;decide
theorem zqA:vY w6:=by unfold vY;decide
def vL (told til:Bool):yH->Prop
 | .lf w=>uK told w=true∨(til=true/\w= [126])
 | .op h a b=>tT h=true/\vL told til a/\vL told til b
 | .if3 a b c=>vL told til a/\vL told til b/\vL told til c
 | .fl h ws=>told=false/\((h=w9/\∃x y,ws= [x,y]/\y1 x=true/\y1 y=true)∨(h=w6/\∃x,ws= [x]/\y1 x=true))
def zQ:yH->zC
 | .lf w=>w
 | .op h a b=>40::(h++32::(zQ a++32::(zQ b++ [41])))
 | .if3 a b c=>40::(xZ++32::(zQ a++32::(zQ b++32::(zQ c++ [41]))))
 | .fl h ws=>40::(yS (h::ws)++ [41])
def yL:yH->List zC
 | .lf w=> [w]
 | .op h a b=> [40]::h::(yL a++(yL b++ [[41]]))
 | .if3 a b c=> [40]::xZ::(yL a++(yL b++(yL c++ [[41]])))
 | .fl h ws=> [40]::h::(ws++ [[41]])
def xT:yH->Nat
 | .lf _=>0
 | .op _ a b=>1+max (xT a) (xT b)
 | .if3 a b c=>1+max (xT a) (max (xT b) (xT c))
 | .fl _ _=>1
def oT (c:Nat):zC:=if c=40 then [40,32]else if c=41 then [32,41]else [c]
def wO (w:zC):zC:=w.flatMap oT
theorem mB (a b:zC):wO (a++b)=wO a++wO b:=by unfold wO;exact jm
theorem pO (c:Nat)(b:zC):wO (c::b)=oT c++wO b:=rfl
theorem fC {w:zC}(h: ∀c∈w,c≠40/\c≠41):wO w=w:=by
 induction w with
 | nil=>rfl
 | cons c r ih=>
  have:=h c (ax ..);rw[pO,ih λd hd=>h d (bc _ hd)];unfold oT;rw[if_neg this.1,if_neg this.2];rfl
theorem oU (t:yH):yL t≠ []:=by cases t <;> simp[yL]
theorem zb3: ∀{l:List zC},(∀w∈l,vY w)->∀c∈yS l,c≠40/\c≠41/\c≠126
 | [],_,c,hc=>by cases hc
 | [x],h,c,hc=>by have:=h x (ax ..) c hc;exact⟨this.2.1,this.2.2.1,this.2.2.2⟩
 | x::y::r,h,c,hc=>by
  rw[uL x 3#0]at hc;rcases bi.mp hc with hc | hc
  ·have:=h x (ax ..) c hc;exact⟨this.2.1,this.2.2.1,this.2.2.2⟩
  ·rcases ar.mp hc with rfl | hc
   ·decide
   ·exact zb3 (λw hw=>h w (bc _ hw)) c hc
theorem vL.lf_cl {told til:Bool}{w:zC}(h:vL told til (.lf w)): ∀c∈w,c≠32/\c≠40/\c≠41:=by
 rcases h with h | ⟨_,rfl⟩
 ·exact λc hc=>let z:=zi3 h c hc;⟨z.1,z.2.1,z.2.2.1⟩
 ·decide
theorem vL.fl_cl {told til:Bool}{h:zC}{ws:List zC}(v:vL told til (.fl h ws)):(∀w∈h::ws,vY w)/\ws≠ []:=by
 obtain⟨_,⟨rfl,x,y,rfl,hx,hy⟩ | ⟨rfl,x,rfl,hx⟩⟩:=v
 ·refine⟨λw hw=> ?_,3#0⟩
  rcases ar.mp hw with rfl | hw
  ·exact zqB
  rcases ar.mp hw with rfl | hw
  ·exact fB hx
  rw[au.mp hw];exact fB hy
 ·refine⟨λw hw=> ?_,3#0⟩
  rcases ar.mp hw with rfl | hw
  ·exact zqA
  rw[au.mp hw];exact fB hx
theorem zb5:wO [41]= [32,41]:=rfl
theorem j5 {told til:Bool} : ∀t,vL told til t->wO (zQ t)=yS (yL t)/\∀w∈yL t,32∉w
 | .lf w,h=>⟨fC λc hc=>(h.lf_cl c hc).2,λx hx=>by rw[au.mp hx];exact λz=>(h.lf_cl 32 z).1 rfl⟩
 | .op h a b,⟨ho,va,vb⟩=>by
  obtain⟨ea,na⟩:=j5 a va;obtain⟨eb,nb⟩:=j5 b vb;have hc:=zqC ho;constructor
  ·show wO (40::(h++32::(zQ a++32::(zQ b++ [41]))))=yS ([40]::h::(yL a++(yL b++ [[41]])))
   rw[uL _ 3#0,uL _ (by simp[oU]),j0 (oU a) 3#0,j0 (oU b) 3#0,<- ea,<- eb];rw[pO,mB,fC (w:=h) λc hc'=>⟨(hc c hc').2.1,(hc c hc').2.2.1⟩,pO,mB,pO,mB,zb5];simp[oT,yS]
  ·intro w hw
   simp only[yL,ar,bi,bu,or_false]at hw;rcases hw with rfl | rfl | hw | hw | rfl
   ·decide
   ·exact λz=>(hc 32 z).1 rfl
   ·exact na w hw
   ·exact nb w hw
   ·decide
 | .if3 a b c,⟨va,vb,vc⟩=>by
  obtain⟨ea,na⟩:=j5 a va;obtain⟨eb,nb⟩:=j5 b vb;obtain⟨ec,nc⟩:=j5 c vc;constructor
  ·show wO (40::(xZ++32::(zQ a++32::(zQ b++32::(zQ c++ [41])))))=yS ([40]::xZ::(yL a++(yL b++(yL c++ [[41]]))))
   rw[uL _ 3#0,uL _ (by simp[oU]),j0 (oU a) (by simp[oU]),j0 (oU b) 3#0,j0 (oU c) 3#0,<- ea,<- eb,<- ec];rw[pO,mB,fC (w:=xZ) 2#0,pO,mB,pO,mB,pO,mB,zb5];simp[oT,yS]
  ·intro w hw
   simp only[yL,ar,bi,bu,or_false]at hw;rcases hw with rfl | rfl | hw | hw | hw | rfl
   ·decide
   ·decide
   ·exact na w hw
   ·exact nb w hw
   ·exact nc w hw
   ·decide
 | .fl h ws,v=>by
  obtain⟨hc,ne⟩:=v.fl_cl;constructor
  ·show wO (40::(yS (h::ws)++ [41]))=yS ([40]::h::(ws++ [[41]]))
   rw[uL (l:=h::(ws++ [[41]])) _ 3#0,show h::(ws++ [[41]])=(h::ws)++ [[41]]from rfl,j0 (l:=h::ws) (m:= [[41]]) 3#0 3#0];rw[pO,mB,fC λc hc'=>⟨(zb3 hc c hc').1,(zb3 hc c hc').2.1⟩,zb5];simp[oT,show yS [[41]]= [41]from rfl]
  ·intro w hw
   rcases ar.mp hw with rfl | hw
   ·decide
   rw[show h::(ws++ [[41]])=(h::ws)++ [[41]]from rfl]at hw;rcases bi.mp hw with hw | hw
   ·exact λz=>(hc w hw 32 z).1 rfl
   ·rw[au.mp hw];decide
def vO:zC->List zC
 | []=> [[]]
 | c::r=>if c=32 then []::vO r else(match vO r with | []=> [[c]] | x::l=>(c::x)::l)
theorem b7 (c:Nat)(r:zC):vO (c::r)=if c=32 then []::vO r else(match vO r with | []=> [[c]] | x::l=>(c::x)::l):=rfl
theorem zqL {w:zC}(h:32∉w):vO w= [w]:=by
 induction w with
 | nil=>rfl
 | cons c r ih=>
  rw[b7,if_neg (λz=>h (by rw[z];exact ax ..)),ih λz=>h (bc _ z)]
theorem zqJ {w r:zC}(h:32∉w):vO (w++32::r)=w::vO r:=by
 induction w with
 | nil=>show(if(32:Nat)=32 then []::vO r else _)=_;rw[if_pos rfl]
 | cons c w ih=>
  rw[jp];rw[b7,if_neg (λz=>h (by rw[z];exact ax ..)),ih λz=>h (bc _ z)]
theorem b8: ∀{l:List zC},l≠ []->(∀w∈l,32∉w)->vO (yS l)=l
 | [],h,_=>absurd rfl h
 | [x],_,h=>zqL (h x (ax ..))
 | x::y::r,_,h=>by
  rw[uL x 3#0,zqJ (h x (ax ..)),b8 3#0 λw hw=>h w (bc _ hw)]
theorem zqK {l:List zC}{w:zC}(h:l≠ [])(h1:yS l=w)(h2: ∀x∈l,32∉x):l=vO w:=by rw[<- h1,b8 h h2]
def tI:List zC->Option (zC×List zC)
 | []=>none
 | w::r=>if y1 w=true then some (w,r)else none
def uX (f:List zC->Option (yH×List zC)):Nat->List zC->Option (List yH×List zC)
 | 0,r=>some ([],r)
 | k+1,r=>match f r with | none=>none | some p=>(match uX f k p.2 with | none=>none | some q=>some (p.1::q.1,q.2))
def iH (told:Bool)(f:List zC->Option (yH×List zC)):List zC->Option (yH×List zC)
 | []=>none
 | h::r=>if tT h=true then(match uX f 2 r with | some ([a,b],r1)=>some (.op h a b,r1) | _=>none)
  else if h=xZ then(match uX f 3 r with | some ([a,b,c],r1)=>some (.if3 a b c,r1) | _=>none)
  else if h=w9/\told=false then(match tI r with | some (x,r1)=>(match tI r1 with | some (y,r2)=>some (.fl h [x,y],r2) | none=>none) | none=>none)
  else if h=w6/\told=false then(match tI r with | some (x,r1)=>some (.fl h [x],r1) | none=>none)
  else none
theorem f9 (told:Bool)(f:List zC->Option (yH×List zC))(h:zC)(r:List zC):iH told f (h::r)=if tT h=true then(match uX f 2 r with | some ([a,b],r1)=>some (.op h a b,r1) | _=>none)
  else if h=xZ then(match uX f 3 r with | some ([a,b,c],r1)=>some (.if3 a b c,r1) | _=>none)
  else if h=w9/\told=false then(match tI r with | some (x,r1)=>(match tI r1 with | some (y,r2)=>some (.fl h [x,y],r2) | none=>none) | none=>none)
  else if h=w6/\told=false then(match tI r with | some (x,r1)=>some (.fl h [x],r1) | none=>none)
  else none:=rfl
def f8:Option (yH×List zC)->Option (yH×List zC)
 | some (t,w::r)=>if w= [41]then some (t,r)else none
 | _=>none
def uD (told:Bool):Nat->List zC->Option (yH×List zC)
 | _,[]=>none
 | 0,w::r=>if w= [40]then none else if uK told w=true then some (.lf w,r)else none
 | n+1,w::r=>if w= [40]then f8 (iH told (uD told n) r)else if uK told w=true then some (.lf w,r)else none
theorem zi7 (told:Bool)(w:zC)(r:List zC):uD told 0 (w::r)=if w= [40]then none else if uK told w=true then some (.lf w,r)else none:=rfl
theorem iJ (told:Bool)(n:Nat)(w:zC)(r:List zC):uD told (n+1) (w::r)=if w= [40]then f8 (iH told (uD told n) r)else if uK told w=true then some (.lf w,r)else none:=rfl
def b6 (told:Bool)(x:zC):Option yH:=match uD told 20 (vO (wO x))with | some (t,[])=>some t | _=>none
theorem zqE {r:List zC}{x:zC}{r':List zC}(h:tI r=some (x,r')):y1 x=true/\r=x::r':=by
 cases r with
 | nil=>cases h
 | cons w r=>
  rw[show tI (w::r)=(if y1 w=true then some (w,r)else none)from rfl]at h;by_cases hp:y1 w=true
  ·rw[if_pos hp]at h;cases h;exact⟨hp,rfl⟩
  ·rw[if_neg hp]at h;cases h
theorem zq6 {w:zC}(h:vY w):w≠ [40]:=λz=>(h 40 (by rw[z];simp)).2.1 rfl
theorem pN (told:Bool): ∀t n r',vL told false t->xT t<=n->uD told n (yL t++r')=some (t,r')
 | .lf w,n,r',h,_=>by
  rcases h with h | ⟨z,_⟩
  ·have:=zq6 (zi3 h)
   show uD told n (w::r')=_;cases n with
   | zero=>rw[zi7,if_neg this,if_pos h]
   | succ n=>rw[iJ,if_neg this,if_pos h]
  ·cases z
 | .op h a b,n,r',⟨ho,va,vb⟩,hd=>by
  have hd':1+max (xT a) (xT b)<=n:=hd;cases n with
  | zero=>grobner
  | succ n=>
   have ea:=pN told a n (yL b++([41]::r')) va 0#0;have eb:=pN told b n ([41]::r') vb 0#0;have e2:uX (uD told n) 2 (yL a++(yL b++([41]::r')))=some ([a,b],[41]::r'):=by simp only[uX,ea,eb]
   show uD told (n+1) (([40]::h::(yL a++(yL b++ [[41]])))++r')=_;rw[show(([40]::h::(yL a++(yL b++ [[41]])))++r')= [40]::(h::(yL a++(yL b++([41]::r')))) by simp];rw[iJ,if_pos rfl,f9,if_pos ho,e2]
   rfl
 | .if3 a b c,n,r',⟨va,vb,vc⟩,hd=>by
  have hd':1+max (xT a) (max (xT b) (xT c))<=n:=hd;cases n with
  | zero=>grobner
  | succ n=>
   have ea:=pN told a n (yL b++(yL c++([41]::r'))) va 0#0;have eb:=pN told b n (yL c++([41]::r')) vb 0#0;have ec:=pN told c n ([41]::r') vc 0#0;have e2:uX (uD told n) 3 (yL a++(yL b++(yL c++([41]::r'))))=some ([a,b,c],[41]::r'):=by simp only[uX,ea,eb,ec]
   show uD told (n+1) (([40]::xZ::(yL a++(yL b++(yL c++ [[41]]))))++r')=_;rw[show(([40]::xZ::(yL a++(yL b++(yL c++ [[41]]))))++r')= [40]::(xZ::(yL a++(yL b++(yL c++([41]::r'))))) by simp];rw[iJ,if_pos rfl,f9,if_neg 2#0,if_pos rfl,e2]
   rfl
 | .fl h ws,n,r',⟨ht,v⟩,hd=>by
  have hd':1<=n:=hd;cases n with
  | zero=>grobner
  | succ n=>
   rcases v with⟨rfl,x,y,rfl,px,py⟩ | ⟨rfl,x,rfl,px⟩
   ·show uD told (n+1) ([40]::(w9::(x::y:: [41]::r')))=_
    rw[iJ,if_pos rfl,f9,if_neg 2#0,if_neg 2#0,if_pos ⟨rfl,ht⟩];simp only[tI,px,py,if_true]
    rfl
   ·show uD told (n+1) ([40]::(w6::(x:: [41]::r')))=_
    rw[iJ,if_pos rfl,f9,if_neg 2#0,if_neg 2#0,if_neg (λz=>by cases z.1),if_pos ⟨rfl,ht⟩];simp only[tI,px,if_true]
    rfl
def z0y (told:Bool)(x:zC):Prop:= ∃t,vL told false t/\xT t<=20/\x=zQ t
theorem zqD {told:Bool}{t:yH}(v:vL told false t)(d:xT t<=20):b6 told (zQ t)=some t:=by
 obtain⟨e,n⟩:=j5 t v;unfold b6;rw[e,b8 (oU t) n,<- cg (yL t),pN told t 20 [] v d]
end
section
def zi_ (told:Bool)(w:zC):Bool:=decide (w= [126])||uK told w
def z0z (told:Bool):List zC->Bool
 | []=>false
 | h::ws=>if tT h=true then decide (ws.length=2)&&ws.all (zi_ told)else if h=xZ then decide (ws.length=3)&&ws.all (zi_ told)else if told=true then false
  else if h=w9 then decide (ws.length=2)&&ws.all y1 else if h=w6 then decide (ws.length=1)&&ws.all y1 else false
def z00 (c:Nat):Int:=(if c=40 then 1 else 0) - (if c=41 then 1 else 0)
def z0x (told:Bool)(x:zC):Prop:= ∃t,vL told true t/\x=zQ t
theorem zi6 {c:Nat} : ∀{P Q A C:zC},c∉P->P++Q=A++c::C->∃A2,A=P++A2/\Q=A2++c::C
 | [],Q,A,C,_,e=>⟨A,rfl,e⟩
 | p::P,Q,[],C,n,e=>absurd (by rw[jp,dq]at e;rw[(qo e).1];exact ax ..) n
 | p::P,Q,a::A,C,n,e=>by
  rw[jp,jp]at e;obtain⟨e1,e2⟩:=qo e;obtain⟨A2,h1,h2⟩:=zi6 (λz=>n (bc _ z)) e2;exact⟨A2,by rw[e1,h1];rfl,h2⟩
theorem zq8 {c:Nat}{I C I' C':zC}(e:I++c::C=I'++c::C')(n:c∉I)(n':c∉I'):I=I'/\C=C':=by
 obtain⟨A2,rfl,h⟩:=zi6 n e;cases A2 with
 | nil=>exact⟨3#0,(qo h).2⟩
 | cons a A2=>exact absurd (by rw[<- (qo (show c::C=a::(A2++c::C')from h)).1];simp) n'
end
section
open PySem
theorem zqP (w:zC):vR w=NumText.digitsVal w:=rfl
theorem ziA (r:zC)(c:Nat):vR (r++ [c])=vR r * 10+(c - 48):=by unfold vR;rw[wm];rfl
theorem cY {m d:Nat}(hm:0 < m)(hd:d < 10):Nat.toDigits 10 (m * 10+d)=Nat.toDigits 10 m++ [Nat.digitChar d]:=by
 have t:=Nat.toDigits_append_toDigits (b:=10) (n:=m) (d:=d) 2#0 hm hd;rw[ii hd,Nat.mul_comm 10 m]at t;exact t.symm
theorem cX: ∀d:Nat,d < 10->(Nat.digitChar d).toNat=d+48:=2#0
theorem zi8 {P:zC->Prop}(h0:P [])(h1: ∀r c,P r->P (r++ [c]))(w:zC):P w:=by
 have: ∀n (w:zC),w.length=n->P w:=by
  intro n
  induction n with
  | zero=>intro w h;rw[ji.mp h];exact h0
  | succ n ih=>
   intro w h;have ne:w≠ []:=λz=>by rw[z]at h;cases h
   rw[<- List.dropLast_concat_getLast ne];exact h1 _ _ (ih _ (by rw[nk];grobner))
 exact this _ w rfl
theorem zqQ (w:zC):w≠ []->w.all uC=true->w.head?≠some 48->0 < vR w:=by
 refine zi8 (P:=λw=>w≠ []->w.all uC=true->w.head?≠some 48->0 < vR w) (λh=>absurd rfl h) (λr c ih _ ha hh=> ?_) w;rw[ziA];rw[tq,bv]at ha;cases r with
 | nil=>
  have hc:uC c=true:=by simpa using ha.2
  unfold uC at hc;rw[bv,decide_eq_true_eq,decide_eq_true_eq]at hc;have:c≠48:=λz=>hh (by rw[z];rfl);grobner
 | cons a r=>
  have:=ih 3#0 ha.1 (by simpa using hh);grobner
theorem zq5 (w:zC):w≠ []->w.all uC=true->¬ (1 < w.length/\w.head?=some 48)->(Nat.toDigits 10 (vR w)).map Char.toNat=w:=by
 refine zi8 (P:=λw=>w≠ []->w.all uC=true->¬ (1 < w.length/\w.head?=some 48)->(Nat.toDigits 10 (vR w)).map Char.toNat=w) (λh=>absurd rfl h) (λr c ih _ ha hh=> ?_) w;rw[tq,bv]at ha;have hc:uC c=true:=by simpa using ha.2
 unfold uC at hc;rw[bv,decide_eq_true_eq,decide_eq_true_eq]at hc;rw[ziA];cases r with
 | nil=>
  show(Nat.toDigits 10 (0 * 10+(c - 48))).map Char.toNat= [c];rw[Nat.zero_mul,so,ii 0#0];show [(Nat.digitChar (c - 48)).toNat]= [c];rw[cX _ 0#0]
  congr 1;grobner
 | cons a r=>
  have h1:(a::r).head?≠some 48:=λz=>hh ⟨3#0,by simpa using z⟩;rw[cY (zqQ _ 3#0 ha.1 h1) 0#0,ay,ih 3#0 ha.1 λz=>h1 z.2];show _++ [(Nat.digitChar (c - 48)).toNat]=_;rw[cX _ 0#0]
  congr 2;grobner
theorem zq7: ∀m,0 < m->∃d r,Nat.toDigits 10 m=Nat.digitChar d::r/\0 < d/\d < 10:=by
 intro m
 induction m using Nat.strongRecOn with
 | _ m ih=>
  intro h;by_cases h10:m < 10
  ·exact⟨m,[],ii h10,h,h10⟩
  ·obtain⟨d,r,e,h1,h2⟩:=ih (m / 10) 0#0 0#0
   have e2:m=m / 10 * 10+m % 10:=0#0
   exact⟨d,r++ [Nat.digitChar (m % 10)],by have z:=cY (m:=m / 10) (d:=m % 10) 0#0 0#0;rw[<- e2,e]at z;rw[z];rfl,h1,h2⟩
abbrev zA (l:zC):Str:=⟨l.toArray⟩
theorem tS (l:zC):(zA l).cps.toList=l:=3#0
theorem j3 (x:Str):zA x.cps.toList=x:=by cases x;simp
theorem zi2 {a b:zC}(h:zA a=zA b):a=b:=by rw[<- tS a,h,tS]
theorem yV (l:zC):(zA l).length=l.length:=by simp[Str.length]
theorem wH (a b:zC):zA a++zA b=zA (a++b):=Str.ext' (by rw[pk];simp)
theorem zq4 {w:zC} :w.all uC=true↔NumText.AllDigits w:=by
 rw[dk];refine⟨λh c hc=> ?_,λh c hc=> ?_⟩
 ·have:=h c hc;unfold uC at this;rw[bv,decide_eq_true_eq,decide_eq_true_eq]at this;exact this
 ·unfold uC;rw[bv,decide_eq_true_eq,decide_eq_true_eq];exact h c hc
theorem zq_ {w:zC}(h:w.all uC=true)(hn:w≠ [])(hl:w.length<=640):PySem.intText? (zA w)=some ((vR w:Nat):Int):=by
 rw[intText_digits (x:=zA w) (by rw[tS];exact zq4.mp h) (by rw[tS];exact hn) (by rw[yV];grobner),tS]
 rfl
theorem zqN (n:Nat):Str.ofString (toString ((n:Nat):Int))=zA ((Nat.toDigits 10 n).map Char.toNat):=by
 rw[<- uq,j3]
theorem zi9 {w:zC}(h:tH w=true):Str.ofString (toString ((vR w:Nat):Int))=zA w:=by
 unfold tH at h;simp only[bv,decide_eq_true_eq,qx,beq_iff_eq]at h;obtain⟨⟨⟨h1,h2⟩,h3⟩,h4⟩:=h;rw[zqN,zq5 w (λz=>by rw[z]at h1;cases h1) h4];intro⟨z1,z2⟩;rw[z2,decide_eq_true z1]at h3;cases h3
theorem zqM (x:Str):Txt.split x ⟨#[32]⟩=(vO x.cps.toList).map zA:=by
 have hj:=qe x ⟨#[32]⟩;have hf:=qf x 32;have hp:=split_pos x ⟨#[32]⟩;generalize Txt.split x ⟨#[32]⟩=l at hj hf hp;have jj: ∀l:List Str,(Str.join ⟨#[32]⟩ l).cps.toList=yS (l.map λy=>y.cps.toList):=by
  intro l
  induction l with
  | nil=>rfl
  | cons a r ih=>
   cases r with
   | nil=>rfl
   | cons b r=>
    show((a++⟨#[32]⟩++Str.join ⟨#[32]⟩ (b::r)).cps).toList=_;rw[pk,pk,cc,uL _ 3#0,<- ih];simp
 have:=zqK (l:=l.map λy=>y.cps.toList) (w:=x.cps.toList) (by intro z;rw[vk.mp z]at hp;cases hp) (by rw[<- jj,hj]) (λy hy=>by obtain⟨z,hz,rfl⟩:=bt.mp hy;exact hf z hz);rw[<- this,dm];have e:(zA ∘ λy:Str=>y.cps.toList)=id:=by funext y;exact j3 y
 rw[e,pv]
end
section
open PySem
open Builtin.Str
theorem zqH (x:Str)(l u:Option Int):Txt.slice x l u=StrLaws.sliceText x l u:=rfl
theorem zqI (x:zC){a:Nat}(h2:a<=x.length):Txt.slice (zA x) (some (a:Int)) none=zA (x.drop a):=by
 rw[zqH,StrLaws.sliceText_from ⟨0#0,by rw[tS];grobner⟩,tS];rw[show((a:Int)).toNat=a by grobner,bq (by rw[ic];grobner)]
theorem zq9 (x:zC)(c:Nat):(!(occurrences (zA x) ⟨#[c]⟩ 0 (zA x).length 1).isEmpty)=decide (c∈x):=by
 rw[StrLaws.found_one,tS]
theorem zb2 (c:Nat)(z:zC): ∀l:zC,c∉l->(l.flatMap λd=>if d=c then z else [d])=l
 | [],_=>rfl
 | a::l,h=>by
  rw[dy,if_neg (λe=>h (by rw[e];exact ax ..)),zb2 c z l λe=>h (bc _ e)]
  rfl
theorem zi5 (c:Nat)(z:Str): ∀l:List Str,(∀p∈l,c∉p.cps.toList)->(Str.join z l).cps.toList=((Str.join ⟨#[c]⟩ l).cps.toList).flatMap λd=>if d=c then z.cps.toList else [d]
 | [],_=>rfl
 | [x],h=>(zb2 c _ _ (h x (ax ..))).symm
 | x::y::r,h=>by
  have ih:=zi5 c z (y::r) λp hp=>h p (bc _ hp);have h0:=zb2 c z.cps.toList _ (h x (ax ..));show((x++z++Str.join z (y::r)).cps).toList=((x++⟨#[c]⟩++Str.join ⟨#[c]⟩ (y::r)).cps).toList.flatMap _;simp only[pk,Array.toList_append,jm,<- ih,h0];simp
theorem zb6 (x z:Str)(c:Nat):(Txt.replace x ⟨#[c]⟩ z).cps.toList=x.cps.toList.flatMap λd=>if d=c then z.cps.toList else [d]:=by
 rw[StrLaws.replace_one,zi5 c z _ (qf x c),qe]
theorem zqF (x:zC)(a b:Str)(ha:a.cps.toList= [40,32])(hb:b.cps.toList= [32,41]):Txt.replace (Txt.replace (zA x) ⟨#[40]⟩ a) ⟨#[41]⟩ b=zA (wO x):=by
 rw[<- j3 (Txt.replace _ _ _),zb6,zb6,tS,ha,hb,List.flatMap_assoc];show zA _=zA (x.flatMap oT)
 congr 2
 funext d
 unfold oT;by_cases h:d=40
 ·subst h;rfl
 ·rw[if_neg h,if_neg h]
  show(if d=41 then [32,41]else [d])++ []=_;rw[cg]
theorem zi4: ∀x:zC,(x.flatMap λd=>if d=40 then [40,32]else [d]).length<=2 * x.length
 | []=>3#0
 | c::x=>by
  have ih:=zi4 x;rw[dy,af,ao];have:(if c=40 then [40,32]else [c]).length<=2:=by split <;> simp
  grobner
theorem zqG (x:zC)(a:Str)(ha:a.cps.toList= [40,32]):(Txt.replace (zA x) ⟨#[40]⟩ a).length<=2 * x.length:=by
 have:(Txt.replace (zA x) ⟨#[40]⟩ a).length=((Txt.replace (zA x) ⟨#[40]⟩ a).cps.toList).length:=by simp[Str.length]
 rw[this,zb6,tS,ha];exact zi4 x
theorem zb4 (x:zC):(wO x).length<=2 * x.length:=by
 induction x with
 | nil=>simp[wO]
 | cons c x ih=>
  rw[pO,af,ao];have:(oT c).length<=2:=by unfold oT;split <;> (try split) <;> simp
  grobner
end
section
inductive yR where
 | w (x:zC) | t (told:Bool) (t:yH)
def uB:yR->zC
 | .w x=>x
 | .t _ t=>zQ t
def lC:yR->List zC
 | .w x=> [x]
 | .t _ t=>yL t
def oR:yR->Prop
 | .w x=>vY x
 | .t told t=>vL told false t/\xT t<=20
def yU (l:List yR):zC:=yS (l.map uB)
def wG (l:List yR):List zC:=l.flatMap lC
theorem zi0 (p:yR):lC p≠ []:=by
 cases p with
 | w x=>simp[lC]
 | t told t=>exact oU t
theorem zi1 {l:List yR}(h:l≠ []):wG l≠ []:=by
 cases l with
 | nil=>exact absurd rfl h
 | cons p l=>unfold wG;rw[dy];intro z;exact zi0 p (uf.mp z).1
theorem cW (p:yR)(l:List yR):wG (p::l)=lC p++wG l:=dy
theorem zq3 (l m:List yR):wG (l++m)=wG l++wG m:=jm
theorem ziy {p:yR}(h:oR p):wO (uB p)=yS (lC p)/\∀w∈lC p,32∉w:=by
 cases p with
 | w x=>exact⟨fC λc hc=>⟨(h c hc).2.1,(h c hc).2.2.1⟩,λw hw=>by rw[au.mp hw];exact λz=>(h 32 z).1 rfl⟩
 | t told t=>exact j5 t h.1
theorem zio: ∀{l:List yR},l≠ []->(∀p∈l,oR p)->wO (yU l)=yS (wG l)/\∀w∈wG l,32∉w
 | [],h,_=>absurd rfl h
 | [p],_,ok=>by
  have:=ziy (ok p (ax ..));rw[cW,show wG []= []from rfl,cg];exact this
 | p::q::l,_,ok=>by
  have h1:=ziy (ok p (ax ..));have h2:=zio (l:=q::l) 3#0 λx hx=>ok x (bc _ hx);rw[cW];constructor
  ·rw[j0 (zi0 p) (zi1 3#0),<- h1.1,<- h2.1]
   show wO (yS (uB p::(q::l).map uB))=_;rw[uL _ 3#0,mB,pO]
   rfl
  ·intro w hw
   rcases bi.mp hw with hw | hw
   ·exact h1.2 w hw
   ·exact h2.2 w hw
theorem zby {l:List yR}(h:l≠ [])(ok: ∀p∈l,oR p):vO (wO (yU l))=wG l:=by
 obtain⟨h1,h2⟩:=zio h ok;rw[h1,b8 (zi1 h) h2]
theorem f7 {p:yR}{l:List yR}(h:l≠ []):yU (p::l)=uB p++32::yU l:=by
 unfold yU;rw[cc,uL _ (by simpa using h)]
theorem sV {w:zC}(h:y1 w=true):10∉w:=by
 intro z;unfold y1 at h;simp only[bv,dk]at h;have:=h.2 10 z
 revert this;decide
theorem cO {w:zC}(h:tH w=true):10∉w:=by
 intro z;unfold tH at h;simp only[bv,dk]at h;have:=h.2 10 z
 revert this;decide
theorem zqp {told:Bool}{w:zC}(h:uK told w=true):10∉w:=by
 unfold uK at h;rw[xf]at h;rcases h with h | h
 ·unfold m8 at h;exact cO (cj.mp h).1
 ·cases told with
  | false=>exact sV h
  | true=>
   have h:w= [119,97,115]∨w= [109,105,110,101]∨w= [121,111,117,114,115]:=by
    have h:vM.contains w=true:=h;unfold vM at h;simpa using h
   rcases h with rfl | rfl | rfl <;> decide
theorem zqy {w:zC}(h:tT w=true):10∉w:=by
 have:w= [43]∨w= [45]∨w= [42]∨w= [60]∨w= [61]:=by unfold tT at h;simpa using h
 rcases this with rfl | rfl | rfl | rfl | rfl <;> decide
theorem zbw: ∀{l:List zC},(∀w∈l,10∉w)->10∉yS l
 | [],_=>by simp[yS]
 | [x],h=>h x (ax ..)
 | x::y::r,h=>by
  rw[uL x 3#0];intro z;rcases bi.mp z with z | z
  ·exact h x (ax ..) z
  rcases ar.mp z with z | z
  ·cases z
  ·exact zbw (l:=y::r) (λw hw=>h w (bc _ hw)) z
theorem iG {told:Bool} : ∀t,vL told false t->10∉zQ t
 | .lf w,v=>v.elim zqp λz=>by cases z.1
 | .op h a b,⟨ho,va,vb⟩=>by
  have h1:=zqy ho;have h2:=iG a va;have h3:=iG b vb;simp[zQ,h1,h2,h3]
 | .if3 a b c,⟨va,vb,vc⟩=>by
  have h2:=iG a va;have h3:=iG b vb;have h4:=iG c vc;simp[zQ,h2,h3,h4,xZ]
 | .fl h ws,v=>by
  have: ∀w∈h::ws,10∉w:=by
   obtain⟨_,⟨rfl,x,y,rfl,hx,hy⟩ | ⟨rfl,x,rfl,hx⟩⟩:=v
   ·intro w hw
    simp only[ar,bu,or_false]at hw;rcases hw with rfl | rfl | rfl
    ·decide
    ·exact sV hx
    ·exact sV hy
   ·intro w hw
    simp only[ar,bu,or_false]at hw;rcases hw with rfl | rfl
    ·decide
    ·exact sV hx
  have:=zbw this;simp[zQ,this]
inductive u9 where
 | tm (h w:zC) (t:yH) | io (h w w':zC) | lay (w:zC) (t:yH) (w':zC) | tell (t:yH)
inductive wR where
 | sj (h w:zC) | wh (g:yH) (d:u9) | de (d:u9)
inductive iC where
 | num (h:zC) (n:Nat) | bag (l:List (zC×Int)) | row (l:List zC) | told (n:Nat) (t:yH) (b:Nat)
abbrev xX:=zC×iC
abbrev vG:=zC×List wR
abbrev uJ:=List xX×List vG
def oP:zC:= [115,101,116]
def oO:zC:= [109,111,114,101]
def oM:zC:= [100,114,111,112]
def pI:zC:= [105,110]
def pJ:zC:= [111,117,116]
def rL:zC:= [108,97,121]
def rM:zC:= [116,101,108,108]
def m7:zC:= [115,112,108,105,116]
def m6:zC:= [106,111,105,110]
def tB:zC:= [119,104,101,110]
def uA:zC:= [115,104,101,108,102]
def uW:zC:= [104,97,110,100]
def oN:zC:= [108,97,115,116]
def oQ:zC:= [115,117,109]
def wL:zC:= [98,97,103]
def wY:zC:= [114,111,119]
def tQ:zC:= [116,111,108,100]
def y3 (i:Int):zC:=(PySem.Str.ofString (toString i)).cps.toList
def kY (told:Bool)(t:yH):Prop:=vL told false t/\xT t<=20
def kX:u9->Prop
 | .tm h w t=>(h=oP∨h=oO∨h=oM)/\y1 w=true/\kY false t
 | .io h w w'=>(h=pI∨h=pJ)/\y1 w=true/\y1 w'=true
 | .lay w t w'=>y1 w=true/\kY false t/\y1 w'=true
 | .tell t=>kY false t
def iD:wR->Prop
 | .sj h w=>(h=m7∨h=m6)/\y1 w=true
 | .wh g d=>kY false g/\kX d
 | .de d=>kX d
def zbt:iC->Prop
 | .num h n=>(h=oN∨h=oQ)/\n<=4294967295
 | .bag l=>(∀p∈l,y1 p.1=true/\p.2≠0/\ -100 < p.2/\p.2 < 100)/\l.Pairwise λa b=>a.1 < b.1
 | .row l=> ∀w∈l,y1 w=true
 | .told n t b=>2<=n/\n<=5/\b < n/\kY true t
def wF:u9->List yR
 | .tm h w t=> [.w h,.w w,.t false t]
 | .io h w w'=> [.w h,.w w,.w w']
 | .lay w t w'=> [.w rL,.w w,.t false t,.w w']
 | .tell t=> [.w rM,.t false t]
def xN:wR->List yR
 | .sj h w=> [.w h,.w w]
 | .wh g d=> .w tB:: .t false g::wF d
 | .de d=>wF d
def wZ:iC->List yR
 | .num h n=> [.w h,.w (y3 n)]
 | .bag l=> .w wL::l.flatMap λp=> [.w p.1,.w (y3 p.2)]
 | .row l=> .w wY::l.map .w
 | .told n t b=> [.w tQ,.w (y3 n),.w (y3 b),.t true t]
def xS (s:xX):List yR:= .w uA:: .w s.1::wZ s.2
def oS (h:vG):List zC:=yU [.w uW,.w h.1]::h.2.map λr=>yU (xN r)
def vA (p:uJ):List zC:=p.1.map (λs=>yU (xS s))++p.2.flatMap oS
end
section
theorem pL {x:zC}(h:vY x):oR (.w x):=h
theorem pM {x:zC}(h:y1 x=true):oR (.w x):=fB h
theorem yN {α:Type}{P:α->Prop}{a:α}(h:P a): ∀x∈ [a],P x:=λx hx=>by rw[au.mp hx];exact h
theorem zL {α:Type}{P:α->Prop}{a:α}{l:List α}(h:P a)(t: ∀x∈l,P x): ∀x∈a::l,P x:=λx hx=>by
 rcases ar.mp hx with rfl | hx
 ·exact h
 ·exact t x hx
theorem rN {x:zC}(h:(x.all λc=>decide (c≠32/\c≠40/\c≠41/\c≠126))=true):vY x:=λc hc=>of_decide_eq_true (dk.mp h c hc)
theorem zit {d:u9}(v:kX d): ∀p∈wF d,oR p:=by
 cases d with
 | tm h w t=>
  obtain⟨hh,hw,ht⟩:=v;have:vY h:=by rcases hh with rfl | rfl | rfl <;> exact rN 2#0
  exact zL this (zL (pM hw) (yN ht))
 | io h w w'=>
  obtain⟨hh,hw,hw'⟩:=v;have:vY h:=by rcases hh with rfl | rfl <;> exact rN 2#0
  exact zL this (zL (pM hw) (yN (pM hw')))
 | lay w t w'=>
  obtain⟨hw,ht,hw'⟩:=v;exact zL (pL (rN 2#0)) (zL (pM hw) (zL ht (yN (pM hw'))))
 | tell t=>exact zL (pL (rN 2#0)) (yN v)
theorem ziv {r:wR}(v:iD r): ∀p∈xN r,oR p:=by
 cases r with
 | sj h w=>
  obtain⟨hh,hw⟩:=v;have:vY h:=by rcases hh with rfl | rfl <;> exact rN 2#0
  exact zL this (yN (pM hw))
 | wh g d=>exact zL (pL (rN 2#0)) (zL v.1 (zit v.2))
 | de d=>exact zit v
theorem zir (n:Nat):y3 n=(Nat.toDigits 10 n).map Char.toNat:=uq n
theorem zqq: ∀n:Nat,((Nat.toDigits 10 n).map Char.toNat).all uC=true:=by
 intro n
 induction n using Nat.strongRecOn with
 | _ n ih=>
  have hd: ∀d,d < 10->uC (Nat.digitChar d).toNat=true:=λd h=>by rw[cX d h];unfold uC;simp;grobner
  by_cases h:n < 10
  ·rw[ii h];simp[hd n h]
  ·have e:n=n / 10 * 10+n % 10:=0#0
   rw[e,cY 0#0 (rk _ 2#0),ay,tq,ih (n / 10) 0#0];simp[hd (n % 10) (rk _ 2#0)]
theorem zij: ∀k n:Nat,n < 10 ^ (k+1)->(Nat.toDigits 10 n).length<=k+1
 | 0,n,h=>by
  have:n < 10:=h;rw[ii this];exact aq _
 | k+1,n,h=>by
  by_cases hn:n < 10
  ·rw[ii hn];show 1<=_;grobner
  ·have e:n=(n / 10) * 10+n % 10:=0#0
   rw[e,cY 0#0 (rk _ 2#0),af];have:=zij k (n / 10) (by rw[Nat.pow_succ]at h;grobner);show _+1<=_;grobner
theorem pK (n:Nat):vR (y3 n)=n:=by rw[zir,zqP,PySem.W.KIN.val_back]
theorem sU {n:Nat}(h:n < 10 ^ 10):tH (y3 n)=true:=by
 have h1:=zqq n;have h2:=zij 9 n h;rw[zir];unfold tH;have h0:(Nat.toDigits 10 n)≠ []:=Nat.toDigits_ne_nil;have hl:1<=(Nat.toDigits 10 n).length:=oq.mpr h0;rw[h1,ah,decide_eq_true hl,decide_eq_true h2];simp only[Bool.and_true,Bool.true_and,qx,Bool.and_eq_false_iff,decide_eq_false_iff_not];by_cases hz:n=0
 ·left;rw[hz];decide
 ·right
  obtain⟨d,r,e,d0,d1⟩:=zq7 n 0#0;rw[e,cc,List.head?_cons,cX d d1];simp;grobner
theorem zqu {n:Nat}(h:n<=4294967295):m8 (y3 n)=true:=by
 unfold m8;rw[sU 0#0,pK,decide_eq_true h];rfl
theorem cQ (i:Int):PySem.Str.ofString (toString i)=zA (y3 i):=by unfold y3;rw[j3]
def qI (i:Int):zC:=if i < 0 then(y3 i).drop 1 else y3 i
def lB (i:Int):Bool:=decide (PySem.intText? (zA (y3 i))=some i)&&(decide ((y3 i).head?=some 45)==decide (i < 0))&&tH (qI i)&&decide ((qI i).length<=9)&&decide (qI i≠ [48])&&(y3 i).all λc=>decide (c≠32/\c≠40/\c≠41/\c≠126/\c≠10)
theorem zqo:((List.range 199).all λk=>decide ((k:Int) - 99=0)||lB ((k:Int) - 99))=true:=1#0
theorem iF {i:Int}(h0:i≠0)(h1: -100 < i)(h2:i < 100):lB i=true:=by
 have:=dk.mp zqo (i+99).toNat (ou.mpr 0#0);rw[show(((i+99).toNat:Nat):Int) - 99=i by grobner,decide_eq_false h0]at this;simpa using this
end
section
open PySem
def xY (c:Nat):List zC->zC
 | []=> []
 | [x]=>x
 | x::y::r=>x++c::xY c (y::r)
theorem cP (c:Nat)(x:zC){l:List zC}(h:l≠ []):xY c (x::l)=x++c::xY c l:=by
 cases l with
 | nil=>exact absurd rfl h
 | cons y r=>rfl
theorem zim {c:Nat} : ∀{l m:List zC},l≠ []->m≠ []->(∀w∈l,c∉w)->(∀w∈m,c∉w)->xY c l=xY c m->l=m
 | [],_,h,_,_,_,_=>absurd rfl h
 | _,[],_,h,_,_,_=>absurd rfl h
 | [x],[y],_,_,_,_,e=>by cases e;rfl
 | [x],y::z::m,_,_,hl,_,e=>by
  have:c∈x:=by rw[show x=y++c::xY c (z::m)from e];simp
  exact absurd this (hl x (ax ..))
 | x::y::l,[z],_,_,_,hm,e=>by
  have:c∈z:=by rw[<- show x++c::xY c (y::l)=z from e];simp
  exact absurd this (hm z (ax ..))
 | x::y::l,z::u::m,_,_,hl,hm,e=>by
  have e:x++c::xY c (y::l)=z++c::xY c (u::m):=e;obtain⟨e1,e2⟩:=zq8 e (hl x (ax ..)) (hm z (ax ..));rw[e1,zim 3#0 3#0 (λw hw=>hl w (bc _ hw)) (λw hw=>hm w (bc _ hw)) e2]
theorem zbv (c:Nat): ∀l:List zC,Str.join ⟨#[c]⟩ (l.map zA)=zA (xY c l)
 | []=>rfl
 | [x]=>rfl
 | x::y::r=>by
  show zA x++zA [c]++Str.join ⟨#[c]⟩ ((y::r).map zA)=_;rw[zbv c (y::r),wH,wH,cP c x 3#0];simp
theorem zq1 {c:Nat}{l:List zC}(h:l≠ [])(n: ∀w∈l,c∉w):Txt.split (zA (xY c l)) ⟨#[c]⟩=l.map zA:=by
 have hj:=qe (zA (xY c l)) ⟨#[c]⟩;have hf:=qf (zA (xY c l)) c;have hp:=split_pos (zA (xY c l)) ⟨#[c]⟩;generalize Txt.split (zA (xY c l)) ⟨#[c]⟩=m at hj hf hp;have em:m=(m.map λy:Str=>y.cps.toList).map zA:=by
  rw[dm,show(zA ∘ λy:Str=>y.cps.toList)=id from funext λy=>j3 y,pv]
 rw[em]at hj⊢
 rw[zbv]at hj;have:=zim (c:=c) (l:=m.map λy:Str=>y.cps.toList) (m:=l) (by intro z;rw[vk.mp z]at hp;cases hp) h (λw hw=>by obtain⟨z,hz,rfl⟩:=bt.mp hw;exact hf z hz) n (zi2 hj);rw[this]
theorem zqt (c:Nat)(l:List zC):Txt.join ⟨#[c]⟩ (l.map zA)=zA (xY c l):=by
 unfold Txt.join;rw[lj,zbv]
theorem zqx {m:iC}(v:zbt m): ∀p∈wZ m,oR p:=by
 cases m with
 | num h n=>
  obtain⟨hh,hn⟩:=v;have:vY h:=by rcases hh with rfl | rfl <;> exact rN 2#0
  exact zL this (yN (cZ (sU 0#0)))
 | bag l=>
  refine zL (pL (rN 2#0)) λp hp=> ?_;obtain⟨q,hq,hp⟩:=lq.mp hp;obtain⟨h1,h2,h3,h4⟩:=v.1 q hq;have hb:=iF h2 h3 h4;refine zL (pM h1) (yN ?_) p hp;intro c hc;unfold lB at hb;simp only[bv]at hb;have:=of_decide_eq_true (dk.mp hb.2 c hc);exact⟨this.1,this.2.1,this.2.2.1,this.2.2.2.1⟩
 | row l=>
  refine zL (pL (rN 2#0)) λp hp=> ?_;obtain⟨w,hw,rfl⟩:=bt.mp hp;exact pM (v w hw)
 | told n t b=>
  obtain⟨h1,h2,h3,h4⟩:=v;exact zL (pL (rN 2#0)) (zL (pL (cZ (sU 0#0))) (zL (pL (cZ (sU 0#0))) (yN h4)))
def cN (s:xX):Prop:=y1 s.1=true/\zbt s.2
def zqn (h:vG):Prop:=y1 h.1=true/\∀r∈h.2,iD r
def zii (p:uJ):Prop:=(∀s∈p.1,cN s)/\∀h∈p.2,zqn h
theorem ziw {s:xX}(v:cN s): ∀p∈xS s,oR p:=zL (pL (rN 2#0)) (zL (pM v.1) (zqx v.2))
def kZ:yR->Prop
 | .w x=>10∉x
 | .t _ _=>True
theorem zbx {l:List yR}(ok: ∀p∈l,oR p)(n: ∀p∈l,kZ p):10∉yU l:=by
 refine zbw λw hw=> ?_;obtain⟨p,hp,rfl⟩:=bt.mp hw;cases p with
 | w x=>exact n _ hp
 | t told t=>exact iG t (ok _ hp).1
theorem zis {d:u9}(v:kX d): ∀p∈wF d,kZ p:=by
 cases d with
 | tm h w t=>
  obtain⟨hh,hw,_⟩:=v;exact zL (show 10∉h by rcases hh with rfl | rfl | rfl <;> decide) (zL (sV hw) (yN trivial))
 | io h w w'=>
  obtain⟨hh,hw,hw'⟩:=v;exact zL (show 10∉h by rcases hh with rfl | rfl <;> decide) (zL (sV hw) (yN (sV hw')))
 | lay w t w'=>exact zL (show 10∉rL by decide) (zL (sV v.1) (zL trivial (yN (sV v.2.2))))
 | tell t=>exact zL (show 10∉rM by decide) (yN trivial)
theorem zqw {r:wR}(v:iD r): ∀p∈xN r,kZ p:=by
 cases r with
 | sj h w=>exact zL (show 10∉h by rcases v.1 with rfl | rfl <;> decide) (yN (sV v.2))
 | wh g d=>exact zL (show 10∉tB by decide) (zL trivial (zis v.2))
 | de d=>exact zis v
theorem zqv {m:iC}(v:zbt m): ∀p∈wZ m,kZ p:=by
 cases m with
 | num h n=>exact zL (show 10∉h by rcases v.1 with rfl | rfl <;> decide) (yN (cO (sU (by have:=v.2;grobner))))
 | bag l=>
  refine zL (show 10∉wL by decide) λp hp=> ?_;obtain⟨q,hq,hp⟩:=lq.mp hp;obtain⟨h1,h2,h3,h4⟩:=v.1 q hq;have hb:=iF h2 h3 h4;have hm:kZ (.w (y3 q.2)):=by
   show 10∉y3 q.2;intro hc;unfold lB at hb;simp only[bv]at hb;have:=of_decide_eq_true (dk.mp hb.2 10 hc);exact this.2.2.2.2 rfl
  exact zL (P:=kZ) (show kZ (.w q.1)from sV h1) (yN hm) p hp
 | row l=>
  refine zL (show 10∉wY by decide) λp hp=> ?_;obtain⟨w,hw,rfl⟩:=bt.mp hp;exact sV (v w hw)
 | told n t b=>
  obtain⟨h1,h2,h3,_⟩:=v;exact zL (show 10∉tQ by decide) (zL (cO (sU 0#0)) (zL (cO (sU 0#0)) (yN trivial)))
theorem zq0 {p:uJ}(v:zii p): ∀w∈vA p,10∉w:=by
 intro w hw;rcases bi.mp hw with hw | hw
 ·obtain⟨s,hs,rfl⟩:=bt.mp hw
  have:=v.1 s hs;exact zbx (ziw this) (zL (show 10∉uA by decide) (zL (sV this.1) (zqv this.2)))
 ·obtain⟨h,hh,hw⟩:=lq.mp hw
  have:=v.2 h hh;rcases ar.mp hw with rfl | hw
  ·exact zbx (zL (pL (rN 2#0)) (yN (pM this.1))) (zL (show 10∉uW by decide) (yN (sV this.1)))
  ·obtain⟨r,hr,rfl⟩:=bt.mp hw
   exact zbx (ziv (this.2 r hr)) (zqw (this.2 r hr))
end
section
def s9:yR->Prop
 | .w x=>x.length<=10
 | .t told t=>vL told false t/\xT t<=7/\(zQ t).length<=900
theorem zqs {l:List zC}{n:Nat}(h: ∀w∈l,w.length<=n):(yS l).length<=l.length * (n+1):=by
 induction l with
 | nil=>simp[yS]
 | cons a r ih=>
  have h1:=h a (ax ..);have h2:=ih λw hw=>h w (bc _ hw);rw[ao,ml];cases r with
  | nil=>show a.length<=_;grobner
  | cons b r=>rw[uL a 3#0,af,ao];grobner
theorem cU {p:yR}(h:s9 p):(uB p).length<=900:=by
 cases p with
 | w x=>have:x.length<=10:=h;show x.length<=900;grobner
 | t told t=>exact h.2.2
theorem zin {l:List yR}(h: ∀p∈l,s9 p):(yU l).length<=l.length * 901:=by
 have:=zqs (l:=l.map uB) (n:=900) λw hw=>by obtain⟨p,hp,rfl⟩:=bt.mp hw;exact cU (h p hp)
 rw[ah]at this;exact this
theorem zix (d:u9):wF d≠ []:=by cases d <;> simp[wF]
theorem zqz (r:wR):xN r≠ []:=by
 cases r with
 | de d=>exact zix d
 | _=>simp[xN]
theorem cR (d:u9):(wF d).length<=4:=by cases d <;> simp[wF]
theorem cS (r:wR):(xN r).length<=6:=by
 cases r with
 | de d=>have:=cR d;show(wF d).length<=6;grobner
 | wh g d=>have:=cR d;show(wF d).length+1+1<=6;grobner
 | sj h w=>simp[xN]
theorem ziq (g:yH)(d:u9):yU (xN (.wh g d))=tB++32::(zQ g++32::yU (wF d)):=by
 show yU (.w tB:: .t false g::wF d)=_;rw[f7 3#0,f7 (zix d)]
 rfl
def cV (r:wR):Prop:= ∀p∈xN r,s9 p
def zb1 (s:xX):Prop:=(∀p∈xS s,s9 p)/\(xS s).length<=25
def tG (r:wR):Prop:=iD r/\cV r
def rO (s:xX):Prop:=cN s/\zb1 s
def ziu (h:vG):Prop:=y1 h.1=true/\(∀r∈h.2,tG r)/\h.2.length<=10
def tR (p:uJ):Prop:=(∀s∈p.1,rO s)/\(∀h∈p.2,ziu h)/\p.1.length<=6/\p.2.length<=8
theorem tR.vp {p:uJ}(h:tR p):zii p:=⟨λs hs=>(h.1 s hs).1,λd hd=>⟨(h.2.1 d hd).1,λr hr=>((h.2.1 d hd).2.1 r hr).1⟩⟩
theorem s0 {w:zC}(h:y1 w=true):1<=w.length/\w.length<=8:=by
 unfold y1 at h;simp only[bv,decide_eq_true_eq]at h;exact⟨h.1.1,h.1.2⟩
theorem zbz {r:wR}(h:cV r):(yU (xN r)).length<=6000:=by
 have h1:=zin h;have h2:=cS r;have:(xN r).length * 901<=6 * 901:=dr _ h2;grobner
theorem ziz {s:xX}(h:zb1 s):(yU (xS s)).length<=25000:=by
 have h1:=zin h.1;have:(xS s).length * 901<=25 * 901:=dr _ h.2;grobner
theorem zik (w:zC):yU [.w uW,.w w]=uW++32::w:=by
 rw[f7 3#0];rfl
theorem zb0 {p:uJ}(h:tR p): ∀w∈vA p,w.length<=25000:=by
 intro w hw;rcases bi.mp hw with hw | hw
 ·obtain⟨s,hs,rfl⟩:=bt.mp hw
  exact ziz (h.1 s hs).2
 ·obtain⟨d,hd,hw⟩:=lq.mp hw
  rcases ar.mp hw with rfl | hw
  ·rw[zik,af,ao]
   have:=s0 (h.2.1 d hd).1;show 4+_<=_;grobner
  ·obtain⟨r,hr,rfl⟩:=bt.mp hw
   have:=zbz ((h.2.1 d hd).2.1 r hr).2;grobner
theorem zbu {α β:Type}{f:α->List β}{l:List α}{n:Nat}(h: ∀a∈l,(f a).length<=n):(l.flatMap f).length<=l.length * n:=by
 induction l with
 | nil=>simp
 | cons a r ih=>
  have h1:=h a (ax ..);have h2:=ih λw hw=>h w (bc _ hw);rw[dy,af,ao,ml];grobner
theorem cT {p:uJ}(h:tR p):(vA p).length<=94:=by
 unfold vA;rw[af,ah];have h1:=zbu (f:=oS) (l:=p.2) (n:=11) λd hd=>by
  unfold oS;rw[ao,ah];have:=(h.2.1 d hd).2.2;grobner
 have h2:=h.2.2.1;have h3:p.2.length * 11<=8 * 11:=dr _ h.2.2.2;grobner
theorem zqr {c:Nat}{l:List zC}{n:Nat}(h: ∀w∈l,w.length<=n):(xY c l).length<=l.length * (n+1):=by
 induction l with
 | nil=>simp[xY]
 | cons a r ih=>
  have h1:=h a (ax ..);have h2:=ih λw hw=>h w (bc _ hw);rw[ao,ml];cases r with
  | nil=>show a.length<=_;grobner
  | cons b r=>rw[cP c a 3#0,af,ao];grobner
theorem zq2 {p:uJ}(h:tR p):(xY 10 (vA p)).length<=2400000:=by
 have h1:=zqr (c:=10) (zb0 h);have h2:=cT h;have:(vA p).length * 25001<=94 * 25001:=dr _ h2;grobner
end
section
inductive kU:List xX->List vG->zC->List xX->List vG->Prop
 | shelf {zA:List xX} {s:xX} :rO s->kU zA [] (yU (xS s)) (zA++ [s]) []
 | hand {zA:List xX} {H:List vG} {w:zC} :y1 w=true->kU zA H (yU [.w uW,.w w]) zA (H++ [(w,[])])
 | row {zA:List xX} {H:List vG} {w:zC} {rs:List wR} {r:wR} :tG r->kU zA (H++ [(w,rs)]) (yU (xN r)) zA (H++ [(w,rs++ [r])])
inductive qH (p:uJ):List xX->List vG->List zC->Prop
 | sh {zA S2:List xX} :p.1=zA++S2->qH p zA [] (S2.map (λs=>yU (xS s))++p.2.flatMap oS)
 | hd {H0 H2:List vG} {w:zC} {rs yr:List wR} :p.2=H0++(w,rs++yr)::H2->qH p p.1 (H0++ [(w,rs)]) (yr.map (λr=>yU (xN r))++H2.flatMap oS)
theorem zil {p:uJ} :qH p [] [] (vA p):= .sh (S2:=p.1) rfl
theorem qH.step {p:uJ}{zA:List xX}{H:List vG}{x:zC}{l:List zC}(ok:tR p)(h:qH p zA H (x::l)): ∃S' H',kU zA H x S' H'/\qH p S' H' l:=by
 generalize e:x::l=L at h;cases h with
 | @sh _ S2 h=>
  cases S2 with
  | cons s S2=>
   cases e;exact⟨_,_,.shelf (ok.1 s (by rw[h];simp)),.sh (by rw[h];simp)⟩
  | nil=>
   rw[cg]at h;subst h;cases hp:p.2 with
   | nil=>rw[hp]at e;cases e
   | cons d H2=>
    rw[hp]at e;cases e;exact⟨_,_,.hand (ok.2.1 d (by rw[hp];simp)).1,.hd (H0:= []) (rs:= []) (by rw[hp];rfl)⟩
 | @hd H0 H2 w rs yr h=>
  cases yr with
  | cons r yr=>
   cases e;exact⟨_,_,.row ((ok.2.1 (w,rs++r::yr) (by rw[h];simp)).2.1 r 3#0),.hd (H0:=H0) (by rw[h];simp)⟩
  | nil=>
   cases H2 with
   | nil=>cases e
   | cons d H2=>
    cases e;exact⟨_,_,.hand (ok.2.1 d (by rw[h];simp)).1,.hd (H0:=H0++ [(w,rs)]) (rs:= []) (by rw[h];simp)⟩
theorem qH.done {p:uJ}{zA:List xX}{H:List vG}(h:qH p zA H []):zA=p.1/\H=p.2:=by
 generalize e:([]:List zC)=L at h;cases h with
 | @sh _ S2 h=>
  cases S2 with
  | cons s S2=>cases e
  | nil=>
   cases hp:p.2 with
   | nil=>exact⟨by rw[h,cg],rfl⟩
   | cons d H2=>rw[hp]at e;cases e
 | @hd H0 H2 w rs yr h=>
  cases yr with
  | cons r yr=>cases e
  | nil=>
   cases H2 with
   | nil=>exact⟨rfl,by rw[h,cg]⟩
   | cons d H2=>cases e
theorem qH.len {p:uJ}{zA:List xX}{H:List vG}{l:List zC}(ok:tR p)(h:qH p zA H l):zA.length<=6/\H.length<=8/\∀d∈H,d.2.length<=10:=by
 cases h with
 | @sh _ S2 h=>
  have:=ok.2.2.1;rw[h,af]at this;exact⟨0#0,3#0,λd hd=>by cases hd⟩
 | @hd H0 H2 w rs yr h=>
  have h1:=ok.2.2.2;rw[h,af,ao]at h1;refine⟨ok.2.2.1,by simp;grobner,λd hd=> ?_⟩;rcases bi.mp hd with hd | hd
  ·exact(ok.2.1 d (by rw[h];simp[hd])).2.2
  ·rw[au.mp hd]
   have:=(ok.2.1 (w,rs++yr) (by rw[h];simp)).2.2;rw[af]at this;show rs.length<=10;grobner
end
namespace L2
open PySem PySem.Spec PyProof.Rows
structure uY (X:Cx)(e:Expr)(t:TT):Prop where
 run: ∀(mt:List 9#3) (s:ag) (σ:St) (H:Hp) (Q:Bool->Hp->Prop),1<=s.toks->z9 X mt σ H s->t σ H Q->av 3#2 X.A (isTrue e X.env (eval e X.env)) (TP X mt σ Q) X.xe s
structure tD (X:Cx)(e:Expr)(t:TT):Prop where
 run: ∀(whole:Sem ad) (mt:List 9#3) (s:ag) (σ:St) (H:Hp) (Q:Bool->Hp->Prop),1<=s.toks->z9 X mt σ H s->t σ H Q->av 3#2 X.A (isTrue e X.env whole) (TP X mt σ Q) X.xe s
structure mC (X:Cx)(es:List Expr)(t:TA):Prop where
 run: ∀(pos:di) (mt:List 9#3) (s:ag) (σ:St) (H:Hp) (Q:List V->Hp->Prop),1<=s.toks->z9 X mt σ H s->t σ H Q->av 3#2 X.A (spliced (backTo pos 3#3)) (AP X mt σ Q) X.xe s
section
variable {X:Cx} {a b e:Expr} {es vP:List Expr} {pos p:di} {te:TE} {tA tB' tc:TT} {ta:TA} {t u:TS} {CX:tY} {k:Nat} {f:aa} {fd:bh} {ps:List Str} {sp:Sp} {x:Str} {E:XK}
theorem PT.toP (h:PT X e tc):uY X e tc:=⟨λmt s σ H Q _ I q=>h.run mt s σ H Q I q⟩
theorem PA.toP (h:PA X es ta):mC X es ta:=⟨λpos mt s σ H Q _ I q=>h.run pos mt s σ H Q I q⟩
theorem tD.pt (h:tD X e tc):uY X e tc:=⟨λmt s σ H Q hp I q=>h.run _ mt s σ H Q hp I q⟩
theorem zxh (ha:uY X a tA):tD X (.BoolOp .And [a] pos) tA:=⟨λwh mt s σ H Q hp I h=>by
 refine uu (zY (ha.run mt s σ H Q hp I h) λc s1 e=> ?_);cases c with
 | true=>exact isTrue_and_nil e
 | false=>exact e⟩
theorem zxj (ha:uY X a tA):tD X (.BoolOp .Or [a] pos) tA:=⟨λwh mt s σ H Q hp I h=>by
 refine vq (zY (ha.run mt s σ H Q hp I h) λc s1 e=> ?_);cases c with
 | false=>exact isTrue_or_nil e
 | true=>exact e⟩
theorem zxg (ha:uY X a tA)(hb:tD X (.BoolOp .And (b::vP) pos) tB'):tD X (.BoolOp .And (a::b::vP) pos) (zhx tA tB'):=⟨λwh mt s σ H Q hp I h=>by
 refine uu (tW hp (ha.run mt s σ H _ hp I h) λc s1 hp1 ⟨H1,I1,q1⟩=> ?_);cases c with
 | true=>exact hb.run wh mt s1 σ H1 Q hp1 I1 q1
 | false=>exact⟨H1,I1,q1⟩⟩
theorem zxi (ha:uY X a tA)(hb:tD X (.BoolOp .Or (b::vP) pos) tB'):tD X (.BoolOp .Or (a::b::vP) pos) (tOr tA tB'):=⟨λwh mt s σ H Q hp I h=>by
 refine vq (tW hp (ha.run mt s σ H _ hp I h) λc s1 hp1 ⟨H1,I1,q1⟩=> ?_);cases c with
 | true=>exact⟨H1,I1,q1⟩
 | false=>exact hb.run wh mt s1 σ H1 Q hp1 I1 q1⟩
theorem zwX (ha:uY X a tA):uY X (.UnaryOp .Not a pos) (zpd tA):=⟨λmt s σ H Q hp I h=>isTrue_not (ha.run mt s σ H (λc H1=>Q (!c) H1) hp I h)⟩
theorem zwM {c:Expr}{sa sb:List bw}(hc:uY X c tc)(ha:uM X sa t)(hb:uM X sb u):sX X (.If c sa sb pos) (zoZ tc t u):=⟨λmt s σ H D hp I h=>by
 refine wpAny_If (tW hp (hc.run mt s σ H _ hp I h) λd s1 hp1 ⟨H1,I1,q1⟩=> ?_);cases d with
 | true=>exact ha.run mt s1 σ H1 D hp1 I1 q1
 | false=>exact hb.run mt s1 σ H1 D hp1 I1 q1⟩
theorem zvY (ha:tJ X e te)(hr:mC X es ta)(hs:starEach (e::es) X.env=8#2::starEach es X.env:=by rfl):mC X (e::es) (c5 te ta):=⟨λpos mt s σ H Q hp I h=>by
 rw[hs];show av _ _ (spliced (8#2::backTo pos 3#3)) _ _ s;refine iu (tW hp (ha.run mt s σ H _ hp I h) λu s1 hp1 ⟨x,H1,I1,r1,q1⟩=> ?_);exact zY (hr.run pos mt s1 σ H1 _ hp1 I1 q1) λus s2 ⟨xs,H2,I2,r2,q2⟩=>⟨x::xs,H2,I2,.cons r1 r2,q2⟩⟩
theorem zwf (F:yK X.prog X.w X.K X.mg X.base CX k f fd ps sp)(hr:zH k X.A)(hg:Gl X x)(hm:X.mg x=some 8#3)(hk:keepIn X.K 8#3=true)(hb:y2 X.K fd ps [])(hx:pP CX X E)
  (ha:mC X (e::es) ta) (hdb:4#4=false:=by decide) (he:starEach (e::es) X.env=8#2::starEach es X.env:=by rfl) (yi:(backTo pos 3#3).any (·.1)=false:=by rfl):
  tJ X 4#3 (zaR sp [] E ta):=⟨λmt s σ H Q hp I h=>by
 refine gw (hV I hg hm ?_ hdb);refine nh (h₀:=X.base) I.ok.mod.kin hk (zY (ha.run pos mt s σ H _ hp I h) λus s1 ⟨vs,H1,I1,r,q⟩=>⟨I1.kIn,?_⟩) he yi;exact dD F hr hb .nil hx I1 r q⟩
theorem znL {tg iter:Expr}{body:List bw}{wi:TI}{g:TG}{tb:TS}(hpo:PassesOwn 3#2 X.A X.env X.xe)(hc:X.calm=true)(hi:PI X tg iter wi)(hg:PG X tg g)(hb:uM X body tb)
  (hs: ∀x,foldedSetIterable iter X.env x=pure x:=by intro _;rfl):sX X (.For tg iter body [] pos) (zh0 wi g tb):=⟨λmt s σ H D hp I h=>by
 refine wpAny_For (tW hp (hi.run mt s σ H _ I h) λv s1 hp1 h1=>tW hp1 h1 λitv s2 hp2 h2=> ?_) hs;obtain⟨it,fp,tn,J,H2,e,I2,T,xr,f2,W,⟨m0,w0⟩,turn⟩:=h2;subst e;have yk: ∀{H':Hp},0#7->∀b∈fp,pG X mt H' b:=λhn b hb=>⟨hn b hb,(f2 b hb).2⟩;refine vg (λn s'=>1<=s'.toks/\∃i σ' H',z9 X mt σ' H' s'/\tn i s'.heap/\0#7/\W i n σ' H') ?_ m0 ⟨hp2,0,σ,H2,I2,xr,λb hb=>(f2 b hb).1,w0⟩;rintro n s3 ⟨hp3,i,σ3,H3,I3,yd,fr3,w3⟩;rcases turn i n σ3 H3 w3 with⟨stop,qn⟩ | ⟨go,N,hN,step⟩
 ·refine gj hpo (zY (T.done X rfl rfl rfl hc i mt s3 σ3 H3 X.xe I3 (yk fr3) yd stop) λr s4 ⟨hr,I4⟩=> ?_)
  subst hr;exact ij ⟨σ3,H3,I4,qn⟩
 ·refine gj hpo (tW hp3 (T.item X rfl rfl rfl hc i mt s3 σ3 H3 X.xe I3 (yk fr3) yd go) λr s4 hp4 ⟨u,hr,h4⟩=> ?_)
  subst hr;refine gj hpo (tW hp4 h4 λ_ s5 hp5 ⟨x,H5,I5,r5,y5,st5,fr5⟩=> ?_);have I5':=I5.pinned (yk fr5) (T.obj _ _ st5);refine gj hpo (tW hp5 (hg.run _ s5 σ3 H5 x u _ I5' r5 (step x H5 y5)) λ_ s6 hp6 ⟨σ6,H6,I6,q6⟩=> ?_);refine gj hpo (tW hp6 (hb.run _ s6 σ6 H6 _ hp6 I6 q6) λf s7 hp7 q7=> ?_);have again: ∀{σ7:St} {H7:Hp},z9 X (mt++o5 fp s5.heap) σ7 H7 s7->N σ7 H7->∃m,m < n/\1<=s7.toks/\∃i σ' H',z9 X mt σ' H' s7/\tn i s7.heap/\0#7/\W i m σ' H':=λ{σ7 H7} I7 n7=>by
   obtain⟨m',hm,w7⟩:=hN σ7 H7 n7;refine⟨m',hm,hp7,i+1,σ7,H7,I7.unpinned,T.keep _ _ _ st5 λb hb o e=>(I7.pin (b,o) (bm _ (bm _ (lV hb e)))).1,λb hb=> ?_,w7⟩;obtain⟨o,e,d⟩:=T.obj _ _ st5 b hb;exact(I7.pin (b,o) (bm _ (bm _ (lV hb e)))).2.1
  cases f with
  | next=>obtain⟨σ7,H7,I7,n7⟩:=q7;exact again I7 n7
  | cont=>obtain⟨σ7,H7,I7,n7⟩:=q7;exact again I7 n7
  | brk=>obtain⟨σ7,H7,I7,q7⟩:=q7;exact⟨σ7,H7,I7.unpinned,q7⟩
  | ret v=>obtain⟨x7,σ7,H7,I7,r7,q7⟩:=q7;exact⟨x7,σ7,H7,I7.unpinned,r7,q7⟩⟩
end
section
variable {X:Cx} {a b e:Expr} {es:List Expr} {pos p:di} {ta:TE} {t:TA} {CX:tY} {k:Nat} {f:aa} {fd:bh} {ps:List Str} {sp:Sp} {x:Str} {E:XK} {st:bw}
theorem zwY (ha:tJ X a ta)(he: ∀whole,isTrue a X.env whole=(do let v <- whole;standAt a.pos;holding [v] (truthy v))):
  uY X a (λσ H Q=>ta σ H λx H'=> ∃k,bD X.K x H' k/\Q k H'):=⟨λmt s σ H Q hp I h=>
 isTrue_plain (zY (ha.run mt s σ H _ hp I h) λv s1 ⟨x,H1,I1,r1,q1⟩=>zpu mt s1 σ H1 x v Q I1 r1 q1) (he _)⟩
theorem zxW {mt:List 9#3}{σ:St}{H:Hp}{s:ag}{Q:VK}{us:List ad}{vs:List V}(F:rJ X.prog X.w X.K X.mg X.base CX k f fd ps sp)(hr:zH k X.A)(hb:y2 X.K fd ps [])(hx:pP CX X E)
  (hp:1<=s.toks) (I:z9 X mt σ H s) (r:zR vs us) (h:sp vs H Q E):av 3#2 X.A (call 8#3 us) 2#5 X.xe s:=by
 have hl:(us++ []).length=ps.length:=by rw[cg,<- r.length];exact F.len _ _ _ _ h
 have bd:=hb s us I.kIn hl;rw[cg]at bd;refine uv (kf (F.run X.A X.stack s H ⟨us,[]⟩ us vs Q E hp hr I.env0 bd r h) λr s' hq=> ?_);cases r with
 | error e=>exact hx mt σ H s e s' I hq
 | ok fl=>
  cases fl with
  | ret u=>exact I.after hq
  | next=>exact False.elim hq
  | brk=>exact False.elim hq
  | cont=>exact False.elim hq
theorem zn6 (F:rJ X.prog X.w X.K X.mg X.base CX k f fd ps sp)(hr:zH k X.A)(hg:Gl X x)(hm:X.mg x=some 8#3)(hk:keepIn X.K 8#3=true)(hb:y2 X.K fd ps [])(hx:pP CX X E)
  (ha:mC X (e::es) t) (hdb:4#4=false:=by decide) (he:starEach (e::es) X.env=8#2::starEach es X.env:=by rfl) (yi:(backTo pos 3#3).any (·.1)=false:=by rfl):
  tJ X 4#3 (λσ H Q=>t σ H λvs H1=>sp vs H1 Q E):=⟨λmt s σ H Q hp I h=>by
 refine gw (hV I hg hm ?_ hdb);refine nh (h₀:=X.base) I.ok.mod.kin hk (tW hp (ha.run pos mt s σ H _ hp I h) λus s1 hp1 ⟨vs,H1,I1,r,q⟩=>⟨I1.kIn,?_⟩) he yi;exact zxW F hr hb hx hp1 I1 r q⟩
structure lD (X:Cx)(es:List Expr)(t:TA):Prop where
 run: ∀(pos:di) (mt:List 9#3) (s:ag) (σ:St) (H:Hp) (Q:List V->Hp->Prop),z9 X mt σ H s->t σ H Q->av 3#2 X.A (spliced (backTo pos 3#3)) (λus s'=>1<=s'.toks/\AP X mt σ Q us s') X.xe s
theorem zwb (ha:lE X e ta)(hr:PA X es t)(hs:starEach (e::es) X.env=8#2::starEach es X.env:=by rfl):lD X (e::es) (c5 ta t):=⟨λpos mt s σ H Q I h=>by
 rw[hs];show av _ _ (spliced (8#2::backTo pos 3#3)) _ _ s;refine iu (zY (ha.run mt s σ H _ I h) λu s1 ⟨hp1,x,H1,I1,r1,q1⟩=> ?_);exact tW hp1 (hr.run pos mt s1 σ H1 _ I1 q1) λus s2 hp2 ⟨xs,H2,I2,r2,q2⟩=>⟨hp2,x::xs,H2,I2,.cons r1 r2,q2⟩⟩
theorem zwc (ha:PE X e ta)(hr:lD X es t)(hs:starEach (e::es) X.env=8#2::starEach es X.env:=by rfl):lD X (e::es) (c5 ta t):=⟨λpos mt s σ H Q I h=>by
 rw[hs];show av _ _ (spliced (8#2::backTo pos 3#3)) _ _ s;refine iu (zY (ha.run mt s σ H _ I h) λu s1 ⟨x,H1,I1,r1,q1⟩=> ?_);exact zY (hr.run pos mt s1 σ H1 _ I1 q1) λus s2 ⟨hp2,xs,H2,I2,r2,q2⟩=>⟨hp2,x::xs,H2,I2,.cons r1 r2,q2⟩⟩
theorem zw0 (F:yK X.prog X.w X.K X.mg X.base CX k f fd ps sp)(hr:zH k X.A)(hg:Gl X x)(hm:X.mg x=some 8#3)(hk:keepIn X.K 8#3=true)(hb:y2 X.K fd ps [])(hx:pP CX X E)
  (ha:lD X (e::es) t) (hdb:4#4=false:=by decide) (he:starEach (e::es) X.env=8#2::starEach es X.env:=by rfl) (yi:(backTo pos 3#3).any (·.1)=false:=by rfl):
  lE X 4#3 (zaR sp [] E t):=⟨λmt s σ H Q I h=>by
 refine gw (hV I hg hm ?_ hdb);refine nh (h₀:=X.base) I.ok.mod.kin hk (zY (ha.run pos mt s σ H _ I h) λus s1 ⟨hp1,vs,H1,I1,r,q⟩=>⟨I1.kIn,?_⟩) he yi;exact tW hp1 (dD F hr hb .nil hx I1 r q) λv s2 hp2 z=>⟨hp2,z⟩⟩
end
end L2
namespace L3
open PySem PySem.Spec PyProof.Rows L2
section
variable {X:Cx} {a b e:Expr} {es vP:List Expr} {pos p:di} {Ta Tb:zE} {TA:yC} {tc td:xL} {Ts Tu:xD} {sts rst:List bw} {x:Str} {k:Nat} {f:aa} {fd:bh} {ps:List Str} {S:zT}
theorem znP {t t':TT}(h:uY X e t)(w: ∀σ H Q,t' σ H Q->t σ H Q):uY X e t':=⟨λmt s σ H Q hp I q=>h.run mt s σ H Q hp I (w σ H Q q)⟩
theorem znW {t t':TT}(h:tD X e t)(w: ∀σ H Q,t' σ H Q->t σ H Q):tD X e t':=⟨λwh mt s σ H Q hp I q=>h.run wh mt s σ H Q hp I (w σ H Q q)⟩
theorem zx1 (ha:uY X a (yY X.K tc)):tD X (.BoolOp .And [a] pos) (yY X.K tc):=zxh ha
theorem zoo (ha:uY X a (yY X.K tc)):tD X (.BoolOp .Or [a] pos) (yY X.K tc):=zxj ha
theorem zx0 (ha:uY X a (yY X.K tc))(hb:tD X (.BoolOp .And (b::vP) pos) (yY X.K td)):tD X (.BoolOp .And (a::b::vP) pos) (yY X.K (zaV tc td)):=znW (zxg ha hb) λ_ _ _=>zje
theorem zon (ha:uY X a (yY X.K tc))(hb:tD X (.BoolOp .Or (b::vP) pos) (yY X.K td)):tD X (.BoolOp .Or (a::b::vP) pos) (yY X.K (vOr tc td)):=znW (zxi ha hb) λ_ _ _=>zjf
theorem zol (ha:uY X a (yY X.K tc)):uY X (.UnaryOp .Not a pos) (yY X.K (zhE tc)):=znP (zwX ha) λσ H Q ⟨A,env,st,Q3,xo,h,k⟩=>⟨A,env,st,_,xo,h,λA1 H1 xm c g1 s1 h1=>k A1 H1 xm (!c) g1 s1 h1⟩
theorem zom (ha:tJ X a 6#6)(he: ∀whole,isTrue a X.env whole=(do let v <- whole;standAt a.pos;holding [v] (truthy v)):=by intro _;rfl):uY X a (yY X.K (c8 Ta)):=by
 refine znP (zwY ha he) λσ H Q ⟨A,env,st,Q3,xo,h,k⟩=> ?_;refine⟨A,env,st,_,xo,h,λA1 H1 xm x v g1 s1 e1 h1=> ?_⟩;obtain⟨b,hb,q⟩:=zpt s1 e1 h1;exact⟨b,hb,k A1 H1 xm b g1 s1 q⟩
theorem zoh {c:Expr}(hc:uY X c (yY X.K tc))(ha:uM X sts (xH X.K Ts))(hb:uM X rst (xH X.K Tu)):sX X (.If c sts rst pos) (xH X.K (c7 tc Ts Tu)):=⟨λmt s σ H D hp I ⟨A,env,st,D3,xo,h,k⟩=>by
 refine(zwM hc ha hb).run mt s σ H D hp I ⟨A,env,st,_,xo,h,λA1 H1 xm b g1 s1 h1=> ?_⟩;cases b with
 | true=>exact⟨A1,env,xm,D3,xo.grow g1 s1,h1,k.after g1⟩
 | false=>exact⟨A1,env,xm,D3,xo.grow g1 s1,h1,k.after g1⟩⟩
theorem zbU {K:Frag}{σ:St}{H:Hp}{Q:List V->Hp->Prop} :wU K (tO Ta TA) σ H Q->c5 (zV K Ta) (wU K TA) σ H Q:=
 λ⟨A,env,st,Q3,xo,h,k⟩=>⟨A,env,st,_,xo,h,λA1 H1 xm x v g1 s1 e1 h1=>⟨A1,env,xm,_,xo.grow g1 s1,h1,λA2 H2 xr xs vs g2 s2 e2 h2=>k A2 H2 xr _ _ (g1.trans g2) s2 (.cons (e1.grow g2) e2) h2⟩⟩
theorem zod (ha:tJ X e 6#6)(hr:mC X es (wU X.K TA))(hs:starEach (e::es) X.env=8#2::starEach es X.env:=by rfl):mC X (e::es) (wU X.K (tO Ta TA)):=
 ⟨λpos mt s σ H Q hp I h=>(zvY ha hr hs).run pos mt s σ H Q hp I (zbU h)⟩
theorem zxr (ha:lE X e 6#6)(hr:PA X es (wU X.K TA))(hs:starEach (e::es) X.env=8#2::starEach es X.env:=by rfl):lD X (e::es) (wU X.K (tO Ta TA)):=
 ⟨λpos mt s σ H Q I h=>(zwb ha hr hs).run pos mt s σ H Q I (zbU h)⟩
theorem zxs (ha:PE X e 6#6)(hr:lD X es (wU X.K TA))(hs:starEach (e::es) X.env=8#2::starEach es X.env:=by rfl):lD X (e::es) (wU X.K (tO Ta TA)):=
 ⟨λpos mt s σ H Q I h=>(zwc ha hr hs).run pos mt s σ H Q I (zbU h)⟩
theorem zjb {K:Frag}{σ:St}{H:Hp}{Q:VK} :zV K (tX S TA) σ H Q->zaR (yF K S) [] E0 (wU K TA) σ H Q:=λh=>by
 obtain⟨A,env,st,Q3,xo,h,k⟩:=fS h;refine⟨A,env,st,Q3,xo,h,λA1 H1 xm rs vs g1 s1 e1 h1=> ?_⟩;show yF K S (vs++ []) H1 Q E0;rw[cg];exact k A1 H1 xm rs vs g1 s1 e1 h1
theorem znY (F:yK X.prog X.w X.K X.mg X.base yG k f fd ps (yF X.K S))(hr:zH k X.A)(hg:Gl X x)(hm:X.mg x=some 8#3)(hk:keepIn X.K 8#3=true)(hb:y2 X.K fd ps [])
  (ha:mC X (e::es) (wU X.K TA)) (hdb:4#4=false:=by decide) (he:starEach (e::es) X.env=8#2::starEach es X.env:=by rfl) (yi:(backTo pos 3#3).any (·.1)=false:=by rfl):
  tJ X 4#3 (zV X.K (tX S TA)):=⟨λmt s σ H Q hp I h=>(zwf F hr hg hm hk hb lZ ha hdb he yi).run mt s σ H Q hp I (zjb h)⟩
theorem znZ (F:rJ X.prog X.w X.K X.mg X.base yG k f fd ps (yF X.K S))(hr:zH k X.A)(hg:Gl X x)(hm:X.mg x=some 8#3)(hk:keepIn X.K 8#3=true)(hb:y2 X.K fd ps [])
  (ha:mC X (e::es) (wU X.K TA)) (hdb:4#4=false:=by decide) (he:starEach (e::es) X.env=8#2::starEach es X.env:=by rfl) (yi:(backTo pos 3#3).any (·.1)=false:=by rfl):
  tJ X 4#3 (zV X.K (tX S TA)):=⟨λmt s σ H Q hp I h=>by
 refine(zn6 F hr hg hm hk hb lZ ha hdb he yi).run mt s σ H Q hp I ?_;obtain⟨A,env,st,Q3,xo,h,k⟩:=fS h;exact⟨A,env,st,Q3,xo,h,λA1 H1 xm rs vs g1 s1 e1 h1=>k A1 H1 xm rs vs g1 s1 e1 h1⟩⟩
theorem zxv (F:yK X.prog X.w X.K X.mg X.base yG k f fd ps (yF X.K S))(hr:zH k X.A)(hg:Gl X x)(hm:X.mg x=some 8#3)(hk:keepIn X.K 8#3=true)(hb:y2 X.K fd ps [])
  (ha:lD X (e::es) (wU X.K TA)) (hdb:4#4=false:=by decide) (he:starEach (e::es) X.env=8#2::starEach es X.env:=by rfl) (yi:(backTo pos 3#3).any (·.1)=false:=by rfl):
  lE X 4#3 (zV X.K (tX S TA)):=⟨λmt s σ H Q I h=>(zw0 F hr hg hm hk hb lZ ha hdb he yi).run mt s σ H Q I (zjb h)⟩
theorem zrQ {tg iter:Expr}{body:List bw}{Ti:uN}{Tg:wP}(hx:X=X){D:sG}{σ:St}{H:Hp} :xH X.K (zaX Ti Tg Ts) D σ H->zh0 (qO X.K Ti) (sD X.K Tg) (xH X.K Ts) D σ H:=λ⟨A,env,st,D3,xo,h,k⟩=>⟨A,env,st,_,xo,h,λA1 H1 xm ya xs J g1 s1 it h1=>by
 obtain⟨P,p0,hP,hE⟩:=h1;refine⟨λi m σ' H'=>m=xs.length - i/\i<=xs.length/\∃A' xt xp,zZ A1 H1 A' H'/\wB X.K A' H' σ' xt xp/\P i xt xp,⟨_,rfl,db _,A1,env,xm,.refl _ _,xo.grow g1 s1,p0⟩,?_⟩;rintro i m σ' H' ⟨rfl,hi,A',xt,xp,g',ye,p'⟩;by_cases yf:i < xs.length
 ·have hx:xs[i]?=some xs[i]:=bn yf
  have hw:=hP i _ xt xp hx p';refine .inr ⟨it.go i A' H' xp g' ye.rs hw.ok yf,λσ2 H2=>i+1<=xs.length/\∃A' xt xp,zZ A1 H1 A' H2/\wB X.K A' H2 σ2 xt xp/\P (i+1) xt xp,λσ2 H2 q=>⟨_,0#0,rfl,q⟩,λv H2 y=> ?_⟩;obtain⟨g2,s2,e2⟩:=it.yld i _ A' H' xp v H2 hx g' ye.rs hw.ok y;refine⟨A',xt,xp,_,_,ye.grow g2 s2,e2,hw.of,λA3 H3 σ3 env3 yd g3 r3 h3=> ?_⟩;have gg:=g'.trans (g2.trans g3);have k3:=k.after (g1.trans gg);exact⟨A3,env3,yd,_,r3,h3,λA4 H4 σ4 env4 st4 g4 r4 h4=>⟨yf,A4,env4,st4,gg.trans g4,r4,h4⟩,k3.rt,k3.nx,λA4 H4 σ4 env4 st4 g4 r4 h4=>⟨yf,A4,env4,st4,gg.trans g4,r4,h4⟩⟩
 ·have e:i=xs.length:=0#0
  subst e;have hw:=hE xt xp p';exact .inl ⟨it.stop A' H' xp g' ye.rs hw.ok,k.nx A' H' σ' xt xp (g1.trans g') ye hw.of⟩⟩
theorem zog {tg iter:Expr}{body:List bw}{Ti:uN}{Tg:wP}(hpo:PassesOwn 3#2 X.A X.env X.xe)(hc:X.calm=true)(hi:PI X tg iter (qO X.K Ti))(hg:PG X tg (sD X.K Tg))(hb:uM X body (xH X.K Ts))
  (hs: ∀x,foldedSetIterable iter X.env x=pure x:=by intro _;rfl):sX X (.For tg iter body [] pos) (xH X.K (zaX Ti Tg Ts)):=⟨λmt s σ H D hp I h=>(znL hpo hc hi hg hb hs).run mt s σ H D hp I (zrQ (tg:=tg) (iter:=iter) (body:=body) rfl h)⟩
theorem zok {stm:bw}(h:sX X stm (xH X.K Ts)):uM X [stm] (xH X.K Ts):=⟨λmt s σ H D hp I q=>by
 refine jn (zY (h.run mt s σ H D hp I q) λf s1 z=> ?_);cases f with
 | next=>exact ij z
 | ret v=>exact z
 | brk=>exact z
 | cont=>exact z⟩
end
end L3
namespace L2
open PySem PySem.Spec PyProof.Rows
section
variable {X:Cx} {a b e:Expr} {es:List Expr} {pos:di} {te:TE}
theorem zu4:sW X "str.startswith" (λx xs H Q=> ∃z d,x= .str z/\xs= [.str d]/\Q (.bl (Txt.startswith z d)) H):=by
 intro mt s σ H x xs v us Q I rx rxs ⟨z,d,ex,exs,q⟩;subst ex;subst exs;obtain⟨t,rfl⟩:=rx;obtain⟨u,rfl,t1,rfl⟩:=zR.one rxs;exact SC.startswith ⟨.bl _,H,I,rfl,q⟩
theorem zvL:yW X (compareOp .LtE) (λx y H Q=> ∃i j,x= .str i/\y= .str j/\Q (.bl (!(decide (j.cps.toList < i.cps.toList)))) H):=by
 intro mt s σ H x y v u Q I rx ry h;obtain⟨i,j,rfl,rfl,q⟩:=h;obtain⟨t,rfl⟩:=rx;obtain⟨t',rfl⟩:=ry;exact PySem.P.le_str (zlB I q rfl)
theorem zwp (he:PE X e te):PE X (.FormattedValue e (-1) none pos) (λσ H Q=>te σ H λv H1=>(∃z:Str,v= .str z/\z.length<=am/\Q (.str z) H1)∨∃i:Int,v= .int i/\i.natAbs.log2 < 1920/\Q (.str (toString i)) H1):=
 ⟨λmt s σ H Q I h=>FormattedValue_plain (zY (he mt s σ H _ I h) λv s1 ⟨x,H1,I1,r,z⟩=>by
  rcases z with⟨z,ez,hz,q⟩ | ⟨i,ei,hi,q⟩
  ·subst ez
   obtain⟨tk,rfl⟩:=r;exact formatField_str (λt' k=>⟨.str z,H1,I1.tok _,⟨_,rfl⟩,q⟩) hz
  ·subst ei
   obtain⟨tk,rfl⟩:=r;exact formatField_int_small hi ⟨.str (toString i),H1,I1.tok _,⟨_,rfl⟩,q⟩)⟩
theorem zwS {st:bw}{t:TS}{h0:ExceptHandler}{hs:List ExceptHandler}(h:sX X.nox st t):sX X (.Try [st] (h0::hs) [] [] pos) t:=⟨λmt s σ H D hp I q=>by
 refine wpAny_Try_except (jn (gu (h.run mt s σ H D hp (I.wish _) q) (λf s1 z=> ?_) λ_ _ z=>z.elim));cases f with
 | next=>exact ij (ij z.unwish)
 | ret v=>exact z.unwish
 | brk=>exact z.unwish
 | cont=>exact z.unwish⟩
end
end L2
namespace L3
open PySem PySem.Spec PyProof.Rows L2
section
variable {X:Cx} {e e2:Expr} {es:List Expr} {pos:di} {Ta:zE}
def zgN:PV->zT:=λx xs st Q=>match x,xs with | .str z,[.str d]=>Q (.bl (Txt.startswith z d)) st | _,_=>False
theorem zvi:sW X "str.startswith" (mH X.K zgN):=by
 intro mt s σ H v vs vv us Q I rv rvs ⟨A,st,x,xs,Q3,rs,ex,exs,h,k⟩;unfold zgN at h
 split at h
 ·rename_i z d
  obtain⟨w,rfl,ey⟩:=xC.one exs;cases u8 ex;cases u8 ey;exact zu4 mt s σ H _ _ vv us Q I rv rvs ⟨z,d,rfl,rfl,k.now rs (.val (.bl _)) h⟩
 ·exact h.elim
def zgD:R3:=λx y st Q=>match x,y with | .str i,.str j=>Q (.bl (!(decide (j.cps.toList < i.cps.toList)))) st | _,_=>False
theorem zvb:yW X (compareOp .LtE) (vU X.K zgD):=by
 intro mt s σ H v vs vv us Q I rv rvs ⟨A,st,x,y,Q3,rs,ex,ey,h,k⟩;unfold zgD at h
 split at h
 ·rename_i i j
  cases u8 ex;cases u8 ey;exact zvL mt s σ H _ _ vv us Q I rv rvs ⟨i,j,rfl,rfl,k.now rs (.val (.bl _)) h⟩
 ·exact h.elim
@[simp] theorem z3e {z d:Str}{st:z7}{Q:K3} :zgN (.str z) [.str d] st Q=Q (.bl (Txt.startswith z d)) st:=rfl
@[simp] theorem z2g {i j:Str}{st:z7}{Q:K3} :zgD (.str i) (.str j) st Q=Q (.bl (!(decide (j.cps.toList < i.cps.toList)))) st:=rfl
abbrev mF:=zI->z7->Str->K3->Prop
def bV (K:Frag)(T:mF):TJ:=λσ H out Q=> ∃A env st Q3,wB K A H σ env st/\T env st out Q3/\vQ K A H Q3 Q
def zml:mF:=λenv st out Q=>out.length<=am/\Q (.str out) st
def zmk (T:zE)(R:mF):mF:=λenv st out Q=>T env st λx xm=>match x with | .str y=>(out++y).length<=am/\R env xm (out++y) Q | _=>False
def zp3 (T:zE):zE:=λenv st Q=>T env st λx xm=>match x with
 | .str z=>z.length<=am/\Q (.str z) xm
 | .int i=>i.natAbs < 2 ^ 64/\Q 6#7 xm
 | _=>False
def zp4 (R:mF):zE:=λenv st Q=>R env st Str.empty Q
theorem eW:PJ X [] (bV X.K zml):=⟨λmt s σ H Q out I ⟨A,env,st,Q3,xo,⟨h1,h2⟩,k⟩=>zwE.run mt s σ H Q out I ⟨h1,k.now xo.rs (.val 7#4) h2⟩⟩
theorem u6 {R:mF}(he:PE X e 6#6)(hr:PJ X es (bV X.K R))(hs:evalEach (e::es) X.env=eval e X.env::evalEach es X.env:=by rfl):PJ X (e::es) (bV X.K (zmk Ta R)):=
 ⟨λmt s σ H Q out I ⟨A,env,st,Q3,xo,h,k⟩=>(zwD he hr hs).run mt s σ H Q out I ⟨A,env,st,_,xo,h,λA1 H1 xm x v g1 s1 e1 h1=>by
  cases x with
  | str y=>
   cases u8 e1;exact⟨y,rfl,h1.1,A1,env,xm,Q3,xo.grow g1 s1,h1.2,k.after g1⟩
  | _=>exact False.elim h1⟩⟩
theorem eU {R:mF}(h:PJ X (e::e2::es) (bV X.K R))(hs:evalEach (e::e2::es) X.env=eval e X.env::eval e2 X.env::evalEach es X.env:=by rfl):PE X (.JoinedStr (e::e2::es) pos) (zV X.K (zp4 R)):=
 ⟨λmt s σ H Q I q=>(zws h hs) mt s σ H Q I q⟩
theorem o7 (he:PE X e 6#6):PE X (.FormattedValue e (-1) none pos) (zV X.K (zp3 Ta)):=by
 refine vI (zwp he) λσ H Q ⟨A,env,st,Q3,xo,h,k⟩=>⟨A,env,st,_,xo,h,λA1 H1 xm x v g1 s1 e1 h1=> ?_⟩;cases x with
 | str z=>
  cases u8 e1;exact .inl ⟨z,rfl,h1.1,k A1 H1 xm _ _ g1 s1 (.val 7#4) h1.2⟩
 | int i=>
  cases wC e1;refine .inr ⟨i,rfl,?_,k A1 H1 xm _ _ g1 s1 (.val 7#4) h1.2⟩;have:i.natAbs < 2 ^ 64:=h1.1;have:=(ud (n:=i.natAbs) (k:=64));by_cases hz:i.natAbs=0
  ·rw[hz];decide
  ·exact bp ((ud hz).mpr h1.1) 2#0
 | _=>exact False.elim h1
@[simp] theorem z4Y {R:mF}{env:zI}{st:z7}{Q:K3} :zp4 R env st Q=R env st Str.empty Q:=rfl
@[simp] theorem z44 {env:zI}{st:z7}{out:Str}{Q:K3} :zml env st out Q=(out.length<=am/\Q (.str out) st):=rfl
@[simp] theorem z43 {T:zE}{R:mF}{env:zI}{st:z7}{out:Str}{Q:K3} :zmk T R env st out Q=(T env st λx xm=>match x with | .str y=>(out++y).length<=am/\R env xm (out++y) Q | _=>False):=rfl
@[simp] theorem z4T {T:zE}{env:zI}{st:z7}{Q:K3} :zp3 T env st Q=(T env st λx xm=>match x with | .str z=>z.length<=am/\Q (.str z) xm | .int i=>i.natAbs < 2 ^ 64/\Q 6#7 xm | _=>False):=rfl
end
section
variable {X:Cx} {o e:Expr} {es:List Expr} {pos xz:di} {To:zE} {TA:yC} {C fa:aa} {m:Str} {S:zT} {k:Nat} {fd:bh} {ps:List Str}
def zp9 (C:aa)(m:Str)(S:zT)(To:zE)(TA:yC):zE:=λenv st Q=>To env st λx xm=>mR C m x xm/\TA env xm λxs xr=>S (x::xs) xr Q
theorem zg2 {pl:Sem Bool}(c:sQ X.K C)(hm:qJ X.K C m fa)(F:yK X.prog X.w X.K X.mg X.base yG k fa fd ps (yF X.K S))(hr:zH k X.A)(hb:y2 X.K fd ps [])(he:PE X o (zV X.K To))(ha:PA X (e::es) (wU X.K TA))
  (yx:starEach (e::es) X.env=8#2::starEach es X.env:=by rfl) (yi:(backTo pos 3#3).any (·.1)=false:=by rfl)
  (ht:eval (.Call (.Attribute o m xz) (e::es) [] pos) X.env=(do
   let ov <- eval o X.env
   standAt xz.atName
   let(f,first) <- holding [ov] (getMethod ov m pl)
   callWith pos f first (backTo pos (starEach (e::es) X.env)) (backToKw pos (keywordEach [] X.env))):=by rfl):PE X (.Call (.Attribute o m xz) (e::es) [] pos) (zV X.K (zp9 C m S To TA)):=by
 refine vI (zwu (pl:=pl) he c hm F hr hb .nil lZ ha yx yi ht) λσ H Q ⟨A,env,st,Q3,xo,h,k⟩=>⟨A,env,st,_,xo,h,λA1 H1 xm x v g1 s1 e1 h1=> ?_⟩;obtain⟨a,dx,us,rfl,ha,hl⟩:=h1.1.at s1 e1;refine⟨a,dx,us,rfl,ha,hl,A1,env,xm,_,xo.grow g1 s1,h1.2,λA2 H2 xr xs vs g2 s2 e2 h2=> ?_⟩;show yF X.K S _ H2 Q E0;rw[cg];exact⟨A2,xr,x::xs,Q3,s2,.cons (e1.grow g2) e2,h2,k.after (g1.trans g2)⟩
end
@[simp] theorem z5h {C:aa}{m:Str}{S:zT}{To:zE}{TA:yC}{env:zI}{st:z7}{Q:K3} :zp9 C m S To TA env st Q=(To env st λx xm=>mR C m x xm/\TA env xm λxs xr=>S (x::xs) xr Q):=rfl
section
variable {X:Cx} {To:zE} {o:Expr} {p q pos ap:di}
def zpF (To:zE):zE:=λenv st Q=>To env st λx xp=> ∃ss:List Str,rE x xp=some (ss.map PV.str)/\ss.length < 64/\∀ks:List Str,(ks.Pairwise λa b=>a.cps.toList < b.cps.toList)->(∀k∈ks,k∈ss)->ks.length<=ss.length->Q (.lst (ks.map PV.str)) xp
@[simp] theorem z5y {env:zI}{st:z7}{Q:K3} :zpF To env st Q=(To env st λx xp=> ∃ss:List Str,rE x xp=some (ss.map PV.str)/\ss.length < 64/\∀ks:List Str,(ks.Pairwise λa b=>a.cps.toList < b.cps.toList)->(∀k∈ks,k∈ss)->ks.length<=ss.length->Q (.lst (ks.map PV.str)) xp):=rfl
def unR:zK->Str
 | .inr x=>x
 | .inl _=> ""
theorem zxq (hc:X.calm=true)(hg:Gl X "sorted")(hm:X.mg "sorted" =none)(hg2:Gl X "set")(hm2:X.mg "set" =none)(ho:PE X o (zV X.K To))
  (he:starEach [.Call (.Name "set" q) [o] [] ap] X.env=(false,eval (.Call (.Name "set" q) [o] [] ap) X.env)::starEach [] X.env:=by rfl) (yi:(backTo pos (starEach [] X.env)).any (·.1)=false:=by rfl)
  (he2:starEach [o] X.env=(false,eval o X.env)::starEach [] X.env:=by rfl) (hpl2:(backTo ap (starEach [] X.env)).any (·.1)=false:=by rfl):
  PE X (.Call (.Name "sorted" p) [.Call (.Name "set" q) [o] [] ap] [] pos) (zV X.K (zpF To)):=by
 refine vI (zn7 (zrL hc) hg hm PyProof.Rows.boot_sorted (qW (zn8 (zrK hc) hg2 hm2 PyProof.Rows.boot_set (qW ho qX he2) 2#0 2#0 he2 hpl2) qX he) 2#0 2#0 he yi) λσ H Q ⟨A,env,st,Q3,xo,h,k⟩=> ?_;refine⟨A,env,st,_,xo,h,λA1 H1 xm x v g1 s1 e1 h1=> ?_⟩;obtain⟨ns,ed,hl,h1⟩:=h1;obtain⟨a,us,rfl,hs,r,z⟩:=jK s1 e1 ed;cases zay r;refine⟨a,ns.map Sum.inr,rfl,by rw[dm];exact hs,by rw[ah];grobner,λt ht=> ?_⟩;have hdn:(Sets.dd (ns.map (Sum.inr:Str->zK))).Nodup:=Sets.dd_nodup _;have hdl:=Sets.dd_len (ns.map (Sum.inr:Str->zK));have hdm: ∀x:zK,x∈Sets.dd (ns.map Sum.inr)↔x∈ns.map (Sum.inr:Str->zK):=λx=>Sets.dd_mem;generalize Sets.dd (ns.map (Sum.inr:Str->zK))=ds at hdn hdm hdl⊢
 obtain⟨ms,rfl⟩: ∃ms:List Str,ds=ms.map Sum.inr:=⟨ds.map unR,by
  rw[dm];refine(pv ds).symm.trans (on λx hx=> ?_);obtain⟨y,_,rfl⟩:=bt.mp ((hdm x).mp hx)
  rfl⟩
 rw[ah,ah]at hdl;refine⟨t,ms,rfl,xR,0#0,λL ks hL hp hw=> ?_⟩;have s2:=s1.new (o:=dO X.prog X.w t (ms.map Sum.inr)) ht;have g2:zZ A1 H1 A1 (zN H1 t (dO X.prog X.w t (ms.map Sum.inr))):= .new ht;have s3:=s2.new (o:= .lst (ks.map V.str)) hL;have hm': ∀n,n∈ms↔n∈ns:=λn=>by
  have:=hdm (Sum.inr n);simpa using this
 have hnd:ms.Nodup:=(rg.mp hdn).imp λh e=>h (congrArg _ e);refine k A1 _ xm _ _ (g1.trans (g2.trans (.new hL))) s3 (.val (.lst (.inl ⟨.inl xR,s2.fresh hL⟩) ?_ (zoV ks))) (h1 ks (zxP hw (hp.nodup_iff.mpr hnd)) (λn hn=>(hm' n).mp (hp.mem_iff.mp hn)) (by rw[hp.length_eq];exact hdl));rw[ah,hp.length_eq];exact cb (m:=64) 0#0 2#0
def zgC:PV->zT:=λx xs st Q=>match x,xs with
 | .str sep,[.tup ys]=> ∃ss:List Str,ys=ss.map PV.str/\(ss.map (·.length)).sum+ss.length * sep.length<=16777216/\Q (.str (Txt.join sep ss)) st
 | _,_=>False
theorem zuZ:sW X "str.join" (mH X.K zgC):=by
 intro mt s σ H v vs vv us Q I rv rvs ⟨A,st,x,xs,Q3,rs,ex,exs,h,k⟩;unfold zgC at h
 split at h
 ·rename_i sep ys
  obtain⟨w,rfl,ey⟩:=xC.one exs;cases u8 ex;obtain⟨ss,rfl,hl,h⟩:=h;cases ey with | val ey=>cases ey with | tup t z r=>
   cases zay r;obtain⟨t',rfl⟩:=rv;obtain⟨u,rfl,ru⟩:=zR.one rvs;cases ru;obtain⟨xn,r',p,_⟩:=I.tuple t.sq;exact join_tuple p (by simpa using zoW r') hl λt' k'=>⟨.str (Txt.join sep ss),H,I.tok _,⟨t',rfl⟩,k.now rs (.val 7#4) h⟩
 ·exact h.elim
@[simp] theorem z2d {sep:Str}{ys:List PV}{st:z7}{Q:K3} :zgC (.str sep) [.tup ys] st Q= ∃ss:List Str,ys=ss.map PV.str/\(ss.map (·.length)).sum+ss.length * sep.length<=16777216/\Q (.str (Txt.join sep ss)) st:=rfl
def zat:zT:=λxs st Q=>match xs with | [.int i]=>i.natAbs < 2 ^ 64/\Q 6#7 st | [.str z]=>Q (.str z) st | _=>False
theorem zvj:vF X (.type "str") (sE X.K zat):=by
 intro mt s σ H vs us Q I rv ⟨A,st,xs,Q3,rs,ex,h,k⟩;unfold zat at h
 split at h
 ·rename_i i
  exact gF mt s σ H vs us Q I rv ⟨A,st,_,Q3,rs,ex,h,k⟩
 ·rename_i z
  obtain⟨v,rfl,ex1⟩:=xC.one ex;cases u8 ex1;obtain⟨u,rfl,t,rfl⟩:=zR.one rv;exact PySem.P.str_of_str ⟨.str _,H,I,⟨_,rfl⟩,k.now rs (.val 7#4) h⟩
 ·exact h.elim
@[simp] theorem z3f {i:Int}{st:z7}{Q:K3} :zat [.int i] st Q=(i.natAbs < 2 ^ 64/\Q 6#7 st):=rfl
@[simp] theorem z3g {z:Str}{st:z7}{Q:K3} :zat [.str z] st Q=Q (.str z) st:=rfl
end
inductive TO:PV->Prop
 | non:TO .non
 | bl (b:Bool):TO (.bl b)
 | int (i:Int):TO 1#5
 | str (x:Str):TO (.str x)
 | tup {xs:List PV} :(∀x∈xs,TO x)->TO 2#6
def iL (A:List aa)(H:Hp):Prop:= ∀a∈A,∀vs,¬ Rd H a (.tup vs)
def mG (H H':Hp):Prop:= ∀b vs,Rd H b (.tup vs)->Rd H' b (.tup vs)
section
variable {K:Frag} {A A':List aa} {H H':Hp}
theorem RVs.mapTo {xs:List PV}{vs:List V}(h:RVs K A H xs vs)(f: ∀x∈xs,∀v,RV K A H x v->RV K A' H' x v):RVs K A' H' xs vs:=by
 induction xs generalizing vs with
 | nil=>cases h;exact .nil
 | cons x xs ih=>
  cases h with
  | cons r t=>exact .cons (f x (ax ..) _ r) (ih t λy hy=>f y (bc _ hy))
theorem RV.tk {x:PV}{v:V}(k:mG H H')(n:iL A' H')(r:RV K A H x v)(h:TO x):RV K A' H' x v:=by
 induction h generalizing v with
 | non=>cases r;exact .non
 | bl b=>cases r;exact .bl b
 | int i=>cases r;exact .int i
 | str x=>cases r;exact .str x
 | tup h ih=>
  cases r with
  | tup t z r=>exact .tup (t.imp (λt=>⟨k _ _ t.1,λm=>n _ m _ (k _ _ t.1)⟩) id) z (r.mapTo λx hx v r=>ih x hx r)
theorem RVs.tk {xs:List PV}{vs:List V}(k:mG H H')(n:iL A' H')(r:RVs K A H xs vs)(h: ∀x∈xs,TO x):RVs K A' H' xs vs:=r.mapTo λx hx v q=>q.tk k n (h x hx)
theorem rZ:iL [] H:=λa h=>by cases h
theorem RS.noTup {st:z7}(s:RS K A H st):iL A H:=λa ha vs r=>by
 obtain⟨i,o,_,_,q⟩:=s.has ha;have no: ∀u,H a=some u->(∀vs,u≠ .tup vs)->(∀o vs,u≠ .frz o (.tup vs))->False:=λu e n1 n2=>by
  rcases r with r | ⟨o,r⟩
  ·rw[e]at r;exact n1 _ (ca r)
  ·rw[e]at r;exact n2 _ _ (ca r)
 cases o with
 | lst xs=>obtain⟨vs,h,_⟩:=q;exact no _ h (λ_ z=>by cases z) λ_ _ z=>by cases z
 | dct xs=>obtain⟨vs,h,_⟩:=q;exact no _ h (λ_ z=>by cases z) λ_ _ z=>by cases z
 | tbl T pos q'=>obtain⟨_,ps,h,_⟩:=q;exact no _ h (λ_ z=>by cases z) λ_ _ z=>by cases z
 | itb kvs=>exact no _ q (λ_ z=>by cases z) λ_ _ z=>by cases z
 | rcd xs=>obtain⟨vs,h,_⟩:=q;exact no _ h (λ_ z=>by cases z) λ_ _ z=>by cases z
 | fd ob xs=>obtain⟨vs,h,_⟩:=q;exact no _ h (λ_ z=>by cases z) λ_ _ z=>by cases z
 | ros xs=>obtain⟨vs,h,_⟩:=q;exact no _ h (λ_ z=>by cases z) λ_ _ z=>by cases z
 | ins C dx fs=>obtain⟨vs,h,_⟩:=q;exact no _ h (λ_ z=>by cases z) λ_ _ z=>by cases z
theorem zh5 {B:List aa}(k: ∀b o,H b=some o->b∉B->H' b=some o)(n:iL B H):mG H H':=λb vs r=>by
 have hb:b∉B:=λm=>n b m vs r;rcases r with r | ⟨o,r⟩
 ·exact .inl (k _ _ r hb)
 ·exact .inr ⟨o,k _ _ r hb⟩
theorem zpm {p:aa}{o:HO}(n: ∀vs,¬ Rd H p (.tup vs)):mG H (zN H p o):=zh5 (B:= [p]) (λb u e h=>by rw[yJ (λz=>h (by rw[z];simp))];exact e) λa ha=>by rw[au.mp ha];exact n
theorem zac {p:aa}{o:HO}(e:H p=some o)(n1: ∀vs,o≠ .tup vs:=by intro _ z;cases z)(n2: ∀u vs,o≠ .frz u (.tup vs):=by intro _ _ z;cases z): ∀vs,¬ Rd H p (.tup vs):=λvs r=>by
 rcases r with r | ⟨u,r⟩
 ·rw[e]at r;exact n1 _ (ca r)
 ·rw[e]at r;exact n2 _ _ (ca r)
def i9 (K:Frag)(H:Hp)(l:aa×aa)(p:Str×List PV):Prop:=H l.1=some (.tup [.str p.1,.ref l.2])/\∃us,H l.2=some (.lst us)/\RVs K [] H p.2 us
structure HS (K:Frag)(H:Hp)(sh hd:aa)(ls:List (aa×aa))(S:List PV)(Hs:List (Str×List PV)):Prop where
 nd:(sh::hd::ls.map (·.2)).Nodup
 s: ∃svs,H sh=some (.lst svs)/\RVs K [] H S svs
 h:H hd=some (.lst (ls.map λp=> .ref p.1))
 l:Paired (i9 K H) ls Hs
 to:(∀x∈S,TO x)/\∀p∈Hs,∀x∈p.2,TO x
variable {sh hd:aa} {ls:List (aa×aa)} {S:List PV} {Hs:List (Str×List PV)}
theorem HS.keep {B:List aa}(h:HS K H sh hd ls S Hs)(k: ∀b o,H b=some o->b∉B->H' b=some o)(n: ∀b∈B,∃C dx fs,H b=some (.ins C dx fs)):HS K H' sh hd ls S Hs:=by
 have nl: ∀b vs,H b=some (.lst vs)->b∉B:=λb vs e m=>by obtain⟨C,dx,fs,z⟩:=n b m;rw[e]at z;cases z
 have nt: ∀b vs,H b=some (.tup vs)->b∉B:=λb vs e m=>by obtain⟨C,dx,fs,z⟩:=n b m;rw[e]at z;cases z
 have tk:mG H H':=zh5 k λa ha=>by obtain⟨C,dx,fs,z⟩:=n a ha;exact zac z
 obtain⟨svs,e1,r1⟩:=h.s;refine⟨h.nd,⟨svs,k _ _ e1 (nl _ _ e1),r1.tk tk rZ h.to.1⟩,k _ _ h.h (nl _ _ h.h),?_,h.to⟩;have go: ∀{ls:List (aa×aa)} {Hs:List (Str×List PV)},Paired (i9 K H) ls Hs->(∀p∈Hs,∀x∈p.2,TO x)->Paired (i9 K H') ls Hs:=λ{ls Hs} q=>by
  induction q with
  | nil=>intro _;exact .nil
  | cons r t ih=>
   intro to;obtain⟨e2,us,e3,r3⟩:=r;exact .cons ⟨k _ _ e2 (nt _ _ e2),us,k _ _ e3 (nl _ _ e3),r3.tk tk rZ (to _ (ax ..))⟩ (ih λp hp=>to p (bc _ hp))
 exact go h.l h.to.2
theorem HS.len (h:HS K H sh hd ls S Hs):ls.length=Hs.length:=gx h.l
theorem zgr {α β:Type}{R R':α->β->Prop}{l:List α}{m:List β}(h:Paired R l m)(f: ∀a b,a∈l->b∈m->R a b->R' a b):Paired R' l m:=by
 induction h with
 | nil=>exact .nil
 | cons r t ih=>exact .cons (f _ _ (ax ..) (ax ..) r) (ih λa b ha hb=>f a b (bc _ ha) (bc _ hb))
theorem zn3 {α β:Type}{R:α->β->Prop}{l:List α}{m:List β}{a:α}{b:β}(h:Paired R l m)(r:R a b):Paired R (l++ [a]) (m++ [b]):=by
 induction h with
 | nil=>exact .cons r .nil
 | cons q t ih=>exact .cons q ih
theorem zwa {α β:Type}{R:α->β->Prop}{l:List α}{m:List β}{b:β}(h:Paired R l (m++ [b])): ∃l0 a,l=l0++ [a]/\Paired R l0 m/\R a b:=by
 induction m generalizing l with
 | nil=>
  cases h with
  | cons r t=>cases t;exact⟨[],_,rfl,.nil,r⟩
 | cons c m ih=>
  cases h with
  | cons r t=>
   obtain⟨l0,a,rfl,p,q⟩:=ih t;exact⟨_::l0,a,rfl,.cons r p,q⟩
theorem HS.live (h:HS K H sh hd ls S Hs): ∀q∈ls,H q.2≠none:=by
 have go: ∀{ls:List (aa×aa)} {Hs:List (Str×List PV)},Paired (i9 K H) ls Hs->∀q∈ls,H q.2≠none:=λ{ls Hs} r=>by
  induction r with
  | nil=>intro q hq;cases hq
  | cons r t ih=>
   intro q hq;rcases ar.mp hq with rfl | hq
   ·obtain⟨_,us,e,_⟩:=r;rw[e];exact cw _
   ·exact ih q hq
 exact go h.l
theorem HS.shelf (h:HS K H sh hd ls S Hs){svs:List V}{x:PV}{v:V}(e:H sh=some (.lst svs))(r:RV K [] H x v)(tx:TO x):HS K (zN H sh (.lst (svs++ [v]))) sh hd ls (S++ [x]) Hs:=by
 have tk:mG H (zN H sh (.lst (svs++ [v]))):=zpm (zac e);obtain⟨svs',e1,r1⟩:=h.s;rw[e]at e1;cases e1;have nd:=ik.mp h.nd;have ne: ∀b,b∈hd::ls.map (·.2)->b≠sh:=λb hb z=>nd.1 (z▸hb);refine⟨h.nd,⟨_,xR,(r1.tk tk rZ h.to.1).append (.cons (r.tk tk rZ tx) .nil)⟩,by rw[yJ (ne _ (ax ..))];exact h.h,?_,⟨λy hy=> ?_,h.to.2⟩⟩
 ·refine zgr h.l λa b ha hb ⟨e2,us,e3,r3⟩=>⟨?_,us,?_,r3.tk tk rZ (h.to.2 _ hb)⟩
  ·rw[yJ (λz=>by rw[z,e]at e2;cases e2)];exact e2
  ·rw[yJ (ne _ (bc _ (bt.mpr ⟨a,ha,rfl⟩)))];exact e3
 ·rcases bi.mp hy with hy | hy
  ·exact h.to.1 y hy
  ·rw[au.mp hy];exact tx
theorem HS.hand (h:HS K H sh hd ls S Hs){w:Str}{l t:aa}(hl:H l=none)(ht:zN H l (.lst []) t=none):
  HS K (zN (zN (zN H l (.lst [])) t (.tup [.str w,.ref l])) hd (.lst ((ls.map λp=> .ref p.1)++ [.ref t]))) sh hd (ls++ [(t,l)]) S (Hs++ [(w,[])]):=by
 have htl:t≠l:=λz=>by rw[z,xR]at ht;cases ht
 have ht':H t=none:=by rw[yJ htl]at ht;exact ht
 have ne1: ∀{b o},H b=some o->b≠l:=λe z=>by rw[z,hl]at e;cases e
 have ne2: ∀{b o},H b=some o->b≠t:=λe z=>by rw[z,ht']at e;cases e
 have up: ∀{b o},H b=some o->b≠hd->zN (zN (zN H l (.lst [])) t (.tup [.str w,.ref l])) hd (.lst ((ls.map λp=> .ref p.1)++ [.ref t])) b=some o:=λe z=>by rw[yJ z,yJ (ne2 e),yJ (ne1 e)];exact e
 have tk:mG H (zN (zN (zN H l (.lst [])) t (.tup [.str w,.ref l])) hd (.lst ((ls.map λp=> .ref p.1)++ [.ref t]))):=zh5 (B:= [hd]) (λb o e z=>up e λq=>z (by rw[q];simp)) λa ha=>by rw[au.mp ha];exact zac h.h
 have nd:=h.nd;have nd2:=ik.mp (ik.mp nd).2;have hsh:sh≠hd:=λz=>(ik.mp nd).1 (by rw[z];simp);obtain⟨svs,e1,r1⟩:=h.s;have lhd:l≠hd:=λz=>ne1 h.h z.symm;have thd:t≠hd:=λz=>ne2 h.h z.symm;have inls: ∀p∈ls,∃us,H p.2=some (.lst us):=λp hp=>by
  have go: ∀{ls:List (aa×aa)} {Hs:List (Str×List PV)},Paired (i9 K H) ls Hs->∀p∈ls,∃us,H p.2=some (.lst us):=λ{ls Hs} q=>by
   induction q with
   | nil=>intro p hp;cases hp
   | cons r t ih=>
    intro p hp;rcases ar.mp hp with rfl | hp
    ·obtain⟨_,us,e,_⟩:=r;exact⟨us,e⟩
    ·exact ih p hp
  exact go h.l p hp
 refine⟨?_,⟨svs,up e1 hsh,r1.tk tk rZ h.to.1⟩,by rw[xR,ay];rfl,?_,⟨h.to.1,λp hp=> ?_⟩⟩
 ·rw[ay]
  show(sh::hd::ls.map (·.2)++ [l]).Nodup;refine mq.mpr ⟨nd,3#0,λa ha b hb=> ?_⟩;rw[au.mp hb];rcases ar.mp ha with rfl | ha
  ·exact ne1 e1
  rcases ar.mp ha with rfl | ha
  ·exact ne1 h.h
  ·obtain⟨p,hp,rfl⟩:=bt.mp ha
   obtain⟨us,e⟩:=inls p hp;exact ne1 e
 ·refine zn3 (zgr h.l λa b ha hb ⟨e2,us,e3,r3⟩=>⟨up e2 λz=> ?_,us,up e3 λz=> ?_,r3.tk tk rZ (h.to.2 _ hb)⟩) ⟨?_,[],?_,.nil⟩
  ·have:=h.h;rw[<- z,e2]at this;cases this
  ·exact nd2.1 (z▸bt.mpr ⟨a,ha,rfl⟩)
  ·show zN _ _ _ t=_;rw[yJ thd,xR]
  ·show zN _ _ _ l=_;rw[yJ lhd,yJ htl.symm,xR]
 ·rcases bi.mp hp with hp | hp
  ·exact h.to.2 p hp
  ·rw[au.mp hp];intro x hx;cases hx
theorem HS.row {w:Str}{rs:List PV}(h:HS K H sh hd ls S (Hs++ [(w,rs)])): ∃l0 t l us,ls=l0++ [(t,l)]/\H t=some (.tup [.str w,.ref l])/\H l=some (.lst us)/\us.length=rs.length/\RVs K [] H rs us/\
  ∀{x:PV} {v:V},RV K [] H x v->TO x->HS K (zN H l (.lst (us++ [v]))) sh hd ls S (Hs++ [(w,rs++ [x])]):=by
 obtain⟨l0,⟨t,l⟩,rfl,p0,e2,us,e3,r3⟩:=zwa h.l;refine⟨l0,t,l,us,rfl,e2,e3,r3.len.symm,r3,λ{x v} r tx=> ?_⟩;have e2:H t=some (.tup [.str w,.ref l]):=e2;have e3:H l=some (.lst us):=e3;have tk:mG H (zN H l (.lst (us++ [v]))):=zpm (zac e3);have nd:=h.nd;rw[ay]at nd;have nd':(sh::hd::l0.map (·.2)++ [l]).Nodup:=nd;have ne: ∀b,b∈sh::hd::l0.map (·.2)->b≠l:=λb hb=>(mq.mp nd').2.2 b hb l 3#0;obtain⟨svs,e1,r1⟩:=h.s;refine⟨h.nd,⟨svs,by rw[yJ (ne _ 3#0)];exact e1,r1.tk tk rZ h.to.1⟩,by rw[yJ (ne _ 3#0)];exact h.h,?_,⟨h.to.1,λp hp=> ?_⟩⟩
 ·refine zn3 (zgr p0 λa b ha hb ⟨f2,us',f3,g3⟩=>⟨?_,us',?_,g3.tk tk rZ (h.to.2 _ (ja _ hb))⟩) ⟨?_,_,xR,(r3.tk tk rZ (h.to.2 _ (bm _ (au.mpr rfl)))).append (.cons (r.tk tk rZ tx) .nil)⟩
  ·rw[yJ (λz=>by rw[z,e3]at f2;cases f2)];exact f2
  ·rw[yJ (ne _ (bc _ (bc _ (bt.mpr ⟨a,ha,rfl⟩))))];exact f3
  ·show zN _ _ _ t=_;rw[yJ (λz=>by rw[z,e3]at e2;cases e2)];exact e2
 ·rcases bi.mp hp with hp | hp
  ·exact h.to.2 p (ja _ hp)
  ·rw[au.mp hp]
   intro y hy;rcases bi.mp hy with hy | hy
   ·exact h.to.2 (w,rs) (bm _ (au.mpr rfl)) y hy
   ·rw[au.mp hy];exact tx
theorem HS.val (h:HS K H sh hd ls S Hs)(n:iL A H)(hs:sh∉A)(hh:hd∉A)(hl: ∀p∈ls,p.2∉A)(z1:S.length<=am)(z2:Hs.length<=am)(z3: ∀p∈Hs,p.2.length<=am):
  RV K A H (.lst S) (.ref sh)/\RV K A H (.lst (Hs.map λp=> .tup [.str p.1,.lst p.2])) (.ref hd):=by
 obtain⟨svs,e1,r1⟩:=h.s;have tk:mG H H:=λ_ _ r=>r;have r1':=r1.tk tk n h.to.1;refine⟨.lst (.inl ⟨.inl e1,hs⟩) (by rw[<- r1'.len];exact z1) r1',.lst (.inl ⟨.inl h.h,hh⟩) (by rw[ah,h.len];exact z2) ?_⟩;have go: ∀{ls:List (aa×aa)} {Hs:List (Str×List PV)},Paired (i9 K H) ls Hs->(∀p∈Hs,∀x∈p.2,TO x)->(∀p∈ls,p.2∉A)->(∀p∈Hs,p.2.length<=am)->RVs K A H (Hs.map λp=> .tup [.str p.1,.lst p.2]) (ls.map λp=> .ref p.1):=λ{ls Hs} q=>by
  induction q with
  | nil=>intro _ _ _;exact .nil
  | cons r t ih=>
   intro to hl z3;obtain⟨e2,us,e3,r3⟩:=r;have r3':=r3.tk tk n (to _ (ax ..));refine .cons (.tup (.inl ⟨.inl e2,λm=>n _ m _ (.inl e2)⟩) (by show 2<=am;decide) (.cons 7#4 (.cons (.lst (.inl ⟨.inl e3,hl _ (ax ..)⟩) (by rw[<- r3'.len];exact z3 _ (ax ..)) r3') .nil))) (ih (λp hp=>to p (bc _ hp)) (λp hp=>hl p (bc _ hp)) λp hp=>z3 p (bc _ hp))
 exact go h.l h.to.2 hl z3
end
end L3
namespace L2
open PySem PySem.Spec PyProof.Rows
theorem uM.nox {X:Cx}{sts:List bw}{t:TS}(h:uM X.nox sts t):uM X sts t:=⟨λmt s σ H D hp I hw=>gu (h.run mt s σ H D hp (I.wish _) hw) (λ_ _ q=>q.unwish) λ_ _ z=>False.elim z⟩
theorem zwV {X:Cx}{stm:bw}{t:TS}(h:sX X stm t):uM X [stm] t:=⟨λmt s σ H D hp I q=>by
 refine jn (zY (h.run mt s σ H D hp I q) λf s1 z=> ?_);cases f with
 | next=>exact ij z
 | ret v=>exact z
 | brk=>exact z
 | cont=>exact z⟩
theorem zwL {X:Cx}{e:Expr}{te:TE}{pos:di}(he:tJ X e te)(hs:swapsWith e none pos.line X.env=pure false:=by rfl):sX X (.Expr e pos) (zhz te):=⟨λmt s σ H D hp I h=>by
 exact wpAny_Expr_any (zY (he.run mt s σ H _ hp I h) λv s1 ⟨x,H1,I1,r1,q1⟩=>⟨σ,H1,I1,q1⟩) I.quiet hs⟩
end L2
namespace L3
open PySem PySem.Spec PyProof.Rows L2
theorem zna {P:br}{w:bz}{K:Frag}{mg:Str->Option ad}{base:cf}{x qual:Str}{st:bw}{f:aa}{fd:bh}{N ps:List Str}{k:Nat}{sp:Sp}(F:zS K x qual st f fd)(sc:yQ N ps (zX st))(len: ∀vs H Q E,sp vs H Q E->vs.length=ps.length)
  (hB: ∀(xw:ad) (A:ci) (outer:List lc) (s:ag) (H:Hp) (vs:List V) (Q:VK) (E:XK),zH k 5#7->sp vs H Q E->
   ∃t,uM (qQ yG P w K mg base N qual (zX st) f xw A outer s H E).nox (pU st) t/\t {nx:=λ_ H'=>Q .non H',rt:=Q} (start N vs) H):rJ P w K mg base yG (k+1) f fd ps sp:=by
 obtain⟨oc,od,kV,doc,pm,an,xw,ct,yw,rfl,lk,hcd⟩:=F.ex;exact zlF lk hcd sc len λA outer s H vs Q E hr h=>let⟨t,ht,q⟩:=hB xw A outer s H vs Q E hr h;⟨t,ht.nox,q⟩
end L3
namespace L2
open PySem PySem.Spec PyProof.Rows
section
variable {prog:br} {w:bz} {A:ci} {E:ad->ag->Prop} {s:ag}
abbrev sH (h:cf)(z TI TO:aa)(f0 f1:ad):Prop:=h.get? z=some {cls:= .type "zip",dict:=none,data:= .fields #[f0,f1,.bool false,.ref TI,.ref TO],slots:= #[]}
structure j8 (h:cf)(z TI TO i1 i2 t1 t2 S:aa)(i:Nat):Prop where
 z:sH h z TI TO .none (.bool false)∨∃(a:aa) (oa:aj) (f:Bool),sH h z TI TO (rawInt a) (.bool f)/\h.get? a=some oa/\a≠z/\a≠TO/\a≠i1/\a≠i2/\a≠S
 pi:IsPair h TI (.ref i1) (.ref i2)
 po: ∃a b,IsPair h TO a b
 j1:h.IsTupleIter i1 t1 i
 j2:h.IsTupleIter i2 t2 i
theorem zpO {z TI TO:aa}{f0:ad}{f:Bool}{P:Bool->ag->Prop}(hz:sH s.heap z TI TO f0 (.bool f))(h: ∀h1,sH h1 z TI TO f0 (.bool true)->Heap.SameBut z s.heap h1->P false {s with heap:=h1}):
  av 6#2 A (if(Value.bool f !=Value.bool true)=true then do setField (Value.ref z) 1 (Value.bool true);pure false else pure false) P E s:=by
 cases f with
 | true=>
  rw[if_neg (show ¬ ((Value.bool true !=Value.bool true)=true)from cr)];exact al (h s.heap hz (Heap.SameBut.refl _ _))
 | false=>
  rw[if_pos (show(Value.bool false !=Value.bool true)=true from rfl)];exact ac (jw hz 3#0 λh1 hz1 s1=>al (h h1 hz1 s1))
theorem z0v {z TI TO i1 i2 t1 t2 S:aa}{i:Nat}{xs ys:Array ad}{x y:ad}{Q:Option ad->ag->Prop}(D:ZipApart z TI TO i1 i2 t1 t2)(st:j8 s.heap z TI TO i1 i2 t1 t2 S i)(hS:S < s.heap.objs.size)
  (ht1:s.heap.IsTuple t1 xs) (ht2:s.heap.IsTuple t2 ys) (hx:xs[i]?=some x) (hy:ys[i]?=some y)
  (hQ: ∀h',j8 h' z TI TO i1 i2 t1 t2 S (i+1)->IsPair h' s.heap.objs.size x y->h'.objs.size=s.heap.objs.size+1->(∀c o,c≠z->c≠TO->c≠i1->c≠i2->s.heap.get? c=some o->h'.get? c=some o)->Q (some 6#3) {s with heap:=h'}):
  av 6#2 A (pyNext (.ref z)) Q E s:=by
 have hT:s.TypeIs (.ref z) "zip" :=by
  rcases st.z with hz | ⟨_,_,_,hz,_⟩ <;> exact⟨_,hz,rfl⟩
 unfold pyNext;refine ac (lu (fc (name:=Str.ofString "__next__") hT oi (gb oi hT F.entry_zip_next ?_ (wn _))));obtain⟨oa0,ob0,hTO⟩:=st.po;rcases st.z with hz | ⟨a,oa,f,hz,ha,az,aTO,a1,a2,aS⟩
 ·refine ac (m:=field (.ref z) 2) (dj hz rfl (x:= .bool false) rfl ?_)
  refine ac (m:=field (.ref z) 3) (dj hz rfl (x:= .ref TI) rfl ?_);refine ac (m:=seqItems? (.ref TI)) (gy st.pi rfl ?_);refine ac (m:=Builtin.SmallTypes.ownedTupleIsFree (.ref z)) ?_;unfold Builtin.SmallTypes.ownedTupleIsFree;refine ac (dj hz rfl (x:= .none) rfl (al ?_));simp only[if_true];refine ac (ju (ac (dj hz rfl (x:= .ref TO) rfl (ac (jw hz 3#0 λh1 hz1 s1=> ?_)))));have hz1:sH h1 z TI TO .ellipsis (.bool false):=hz1;refine ac ?_;simp only[xa,xh,ma,pq];refine ac (ac (vf (ac (m:=Builtin.SmallTypes.nextOf (.ref i1)) ?_)));refine fV (st.j1.extBut s1.extBut D.i1z) (ht1.extBut s1.extBut D.l1z) hx λh2 j12 s2=>al ?_;have hTO2:IsPair h2 TO oa0 ob0:=s2.extBut _ _ D.TOi1 (s1.extBut _ _ D.TOz hTO);refine ac (gy hTO2 rfl (ac (vd hTO2 λh3 hTO3 s3=>ac (ue (al ?_)))));have hTO3:IsPair h3 TO x ob0:=hTO3;refine ac (ac (vf (ac (m:=Builtin.SmallTypes.nextOf (.ref i2)) ?_)));refine fV (((st.j2.extBut s1.extBut D.i2z).extBut s2.extBut D.i12.symm).extBut s3.extBut D.TOi2.symm) (((ht2.extBut s1.extBut D.l2z).extBut s2.extBut D.l2i1).extBut s3.extBut D.l2TO) hy λh4 j24 s4=>al ?_;have hTO4:IsPair h4 TO x ob0:=s4.extBut _ _ D.TOi2 hTO3;refine ac (gy hTO4 rfl (ac (vd hTO4 λh5 hTO5 s5=>ac (ue (al (al ?_))))));have hTO5:IsPair h5 TO x y:=hTO5;refine ac (gy hTO5 rfl (ac (wpAny_newTuple ?_)));have hsz:h5.objs.size=s.heap.objs.size:=by rw[s5.1,s4.1,s3.1,s2.1,s1.1]
  have k5: ∀c o,c≠z->c≠TO->c≠i1->c≠i2->s.heap.get? c=some o->h5.get? c=some o:=λc o c1 c2 c3 c4 e=>s5.extBut _ _ c2 (s4.extBut _ _ c4 (s3.extBut _ _ c2 (s2.extBut _ _ c3 (s1.extBut _ _ c1 e))));have hz5:sH h5 z TI TO .ellipsis (.bool false):=s5.extBut _ _ D.TOz.symm (s4.extBut _ _ D.i2z.symm (s3.extBut _ _ D.TOz.symm (s2.extBut _ _ D.i1z.symm hz1)));have j15:h5.IsTupleIter i1 t1 (i+1):=((j12.extBut s3.extBut D.TOi1.symm).extBut s4.extBut D.i12).extBut s5.extBut D.TOi1.symm;have j25:h5.IsTupleIter i2 t2 (i+1):=j24.extBut s5.extBut D.TOi2.symm;refine ac (m:=Builtin.SmallTypes.ownedTupleHandOut (.ref z) (.ref h5.objs.size)) ?_;unfold Builtin.SmallTypes.ownedTupleHandOut;have hz6:sH (h5.push {cls:= .type 22#1,data:= .seq #[x,y]}) z TI TO .ellipsis (.bool false):=ak _ hz5;refine ac (jw hz6 3#0 λh7 hz7 s7=> ?_);have hz7:sH h7 z TI TO (rawInt h5.objs.size) (.bool false):=hz7;refine jw hz7 3#0 λh8 hz8 s8=> ?_;have hz8:sH h8 z TI TO (rawInt h5.objs.size) (.bool false):=hz8;have up: ∀c o,c≠z->h5.get? c=some o->h8.get? c=some o:=λc o c1 e=>s8.extBut _ _ c1 (s7.extBut _ _ c1 (ak _ e));have lt: ∀{c o},s.heap.get? c=some o->s.heap.objs.size≠c:=λe=>cp (aw e);have hzl:z < h5.objs.size:=aw hz5;have hT8:IsPair h8 h5.objs.size x y:=s8.extBut _ _ (cp hzl) (s7.extBut _ _ (cp hzl) (be _ rfl));have e8:h8.objs.size=h5.objs.size+1:=by rw[s8.1,s7.1,du]
  rw[hsz]at hz8 hT8 e8;refine al ⟨_,rfl,al ?_⟩;rw[hsz];refine hQ h8 ⟨.inr ⟨_,_,false,hz8,hT8,lt hz,lt hTO,?_,?_,cp hS⟩,up _ _ D.TIz (k5 _ _ D.TIz D.TITO D.TIi1 D.TIi2 st.pi),⟨_,_,up _ _ D.TOz hTO5⟩,j15.at λo e=>up _ o D.i1z e,j25.at λo e=>up _ o D.i2z e⟩ hT8 e8 λc o c1 c2 c3 c4 e=>up c o c1 (k5 c o c1 c2 c3 c4 e)
  ·obtain⟨_,e,_⟩:=st.j1;exact lt e
  ·obtain⟨_,e,_⟩:=st.j2;exact lt e
 ·refine ac (m:=field (.ref z) 2) (dj hz rfl (x:= .bool false) rfl ?_)
  refine ac (m:=field (.ref z) 3) (dj hz rfl (x:= .ref TI) rfl ?_);refine ac (m:=seqItems? (.ref TI)) (gy st.pi rfl ?_);refine ac (m:=Builtin.SmallTypes.ownedTupleIsFree (.ref z)) ?_;unfold Builtin.SmallTypes.ownedTupleIsFree;refine ac (dj hz rfl (x:=rawInt a) rfl ?_);show av _ _ (loadIfAlive ((a:Int).toNat) >>= _) _ _ _;rw[mw];refine ac (kdx_alive ha ?_);simp only[vz,gk,if_false];refine ac (dj hz rfl (x:= .bool f) rfl ?_);refine zpO hz λh1 hz1 s1=> ?_;simp only[gk,if_false];refine ac ?_;rw[<- wa];simp only[ma,pq];refine ac (ac (ga (ac (m:=Builtin.SmallTypes.nextOf (.ref i1)) ?_)));refine fV (st.j1.extBut s1.extBut D.i1z) (ht1.extBut s1.extBut D.l1z) hx λh2 j12 s2=>al (al ?_);refine ac (ac (ga (ac (m:=Builtin.SmallTypes.nextOf (.ref i2)) ?_)));refine fV ((st.j2.extBut s1.extBut D.i2z).extBut s2.extBut D.i12.symm) ((ht2.extBut s1.extBut D.l2z).extBut s2.extBut D.l2i1) hy λh3 j23 s3=>al (al (al ?_));refine ac (wpAny_newTuple ?_ (hsz:=by show 2<=am;decide));have hsz:h3.objs.size=s.heap.objs.size:=by rw[s3.1,s2.1,s1.1]
  have k3: ∀c o,c≠z->c≠i1->c≠i2->s.heap.get? c=some o->h3.get? c=some o:=λc o c1 c3 c4 e=>s3.extBut _ _ c4 (s2.extBut _ _ c3 (s1.extBut _ _ c1 e));have up: ∀c o,h3.get? c=some o->(h3.push {cls:= .type 22#1,data:= .seq #[x,y]}).get? c=some o:=λc o e=>ak _ e;have hz3:sH h3 z TI TO (rawInt a) (.bool true):=s3.extBut _ _ D.i2z.symm (s2.extBut _ _ D.i1z.symm hz1);have hTn:IsPair (h3.push {cls:= .type 22#1,data:= .seq #[x,y]}) h3.objs.size x y:=be _ rfl;have e8:(h3.push {cls:= .type 22#1,data:= .seq #[x,y]}).objs.size=h3.objs.size+1:=du ..;refine al ⟨_,rfl,al ?_⟩;have:=hQ (h3.push {cls:= .type 22#1,data:= .seq #[x,y]}) ⟨.inr ⟨a,oa,true,up _ _ hz3,up _ _ (k3 _ _ az a1 a2 ha),az,aTO,a1,a2,aS⟩,up _ _ (k3 _ _ D.TIz D.TIi1 D.TIi2 st.pi),⟨_,_,up _ _ (k3 _ _ D.TOz D.TOi1 D.TOi2 hTO)⟩,(j12.extBut s3.extBut D.i12).at λo e=>up _ o e,j23.at λo e=>up _ o e⟩ (by rw[<- hsz];exact hTn) (by rw[e8,hsz]) λc o c1 c2 c3 c4 e=>up c o (k3 c o c1 c3 c4 e);rw[<- hsz]at this;exact this
theorem z0u {z TI TO i1 i2 t1 t2 S:aa}{i:Nat}{xs ys:Array ad}{Q:Option ad->ag->Prop}(hh:A.handled=none)(D:ZipApart z TI TO i1 i2 t1 t2)(st:j8 s.heap z TI TO i1 i2 t1 t2 S i)
  (ht1:s.heap.IsTuple t1 xs) (hx:xs[i]?=none) (hQ: ∀h',(∀c o,c≠z->c≠TO->c≠i1->c≠i2->s.heap.get? c=some o->h'.get? c=some o)->Q none {s with heap:=h'}):
  av 6#2 A (pyNext (.ref z)) Q E s:=by
 have hT:s.TypeIs (.ref z) "zip" :=by
  rcases st.z with hz | ⟨_,_,_,hz,_⟩ <;> exact⟨_,hz,rfl⟩
 unfold pyNext;refine ac (lu (fc (name:=Str.ofString "__next__") hT oi (gb oi hT F.entry_zip_next ?_ (wn _))));obtain⟨oa0,ob0,hTO⟩:=st.po;rcases st.z with hz | ⟨a,oa,f,hz,ha,az,aTO,a1,a2,aS⟩
 ·refine ac (m:=field (.ref z) 2) (dj hz rfl (x:= .bool false) rfl ?_)
  refine ac (m:=field (.ref z) 3) (dj hz rfl (x:= .ref TI) rfl ?_);refine ac (m:=seqItems? (.ref TI)) (gy st.pi rfl ?_);refine ac (m:=Builtin.SmallTypes.ownedTupleIsFree (.ref z)) ?_;unfold Builtin.SmallTypes.ownedTupleIsFree;refine ac (dj hz rfl (x:= .none) rfl (al ?_));simp only[if_true];refine ac (ju (ac (dj hz rfl (x:= .ref TO) rfl (ac (jw hz 3#0 λh1 hz1 s1=> ?_)))));have hz1:sH h1 z TI TO .ellipsis (.bool false):=hz1;refine ac ?_;simp only[xa,xh,ma,pq];refine ac (ac (vf (ac (m:=Builtin.SmallTypes.nextOf (.ref i1)) ?_)));refine zbY hh (st.j1.extBut s1.extBut D.i1z) (ht1.extBut s1.extBut D.l1z) hx λh2 e s2 he=> ?_;obtain⟨oe,hoe,hce⟩:=he;have hz2:sH h2 z TI TO .ellipsis (.bool false):=s2 _ _ D.i1z.symm hz1;have hez:e≠z:=λq=>by subst q;rw[hz2]at hoe;cases hoe;simp at hce
  refine jw hz2 3#0 λh3 _ s3=> ?_;refine ac (ln (T:= 68#1) (b:=true) ⟨oe,s3.extBut _ _ hez hoe,hce⟩ pf ?_);exact al (hQ _ λc o c1 _ c3 _ q=>s3.extBut _ _ c1 (s2 _ _ c3 (s1.extBut _ _ c1 q)))
 ·refine ac (m:=field (.ref z) 2) (dj hz rfl (x:= .bool false) rfl ?_)
  refine ac (m:=field (.ref z) 3) (dj hz rfl (x:= .ref TI) rfl ?_);refine ac (m:=seqItems? (.ref TI)) (gy st.pi rfl ?_);refine ac (m:=Builtin.SmallTypes.ownedTupleIsFree (.ref z)) ?_;unfold Builtin.SmallTypes.ownedTupleIsFree;refine ac (dj hz rfl (x:=rawInt a) rfl ?_);show av _ _ (loadIfAlive ((a:Int).toNat) >>= _) _ _ _;rw[mw];refine ac (kdx_alive ha ?_);simp only[vz,gk,if_false];refine ac (dj hz rfl (x:= .bool f) rfl ?_);refine zpO hz λh1 hz1 s1=> ?_;simp only[gk,if_false];refine ac ?_;rw[<- wa];simp only[ma,pq];refine ac (ac (ga (ac (m:=Builtin.SmallTypes.nextOf (.ref i1)) ?_)));refine zbY hh (st.j1.extBut s1.extBut D.i1z) (ht1.extBut s1.extBut D.l1z) hx λh2 e s2 he=> ?_;obtain⟨oe,hoe,hce⟩:=he;refine ac (ln (T:= 68#1) (b:=true) ⟨oe,hoe,hce⟩ pf ?_);exact al (hQ _ λc o c1 _ c3 _ q=>s2 _ _ c3 (s1.extBut _ _ c1 q))
end
theorem j8.keep {h h':cf}{z TI TO i1 i2 t1 t2 S:aa}{i:Nat}(st:j8 h z TI TO i1 i2 t1 t2 S i)(k: ∀b o,b≠S->h.get? b=some o->h'.get? b=some o)(n0:z≠S)(n1:TI≠S)(n2:TO≠S)(n3:i1≠S)(n4:i2≠S):j8 h' z TI TO i1 i2 t1 t2 S i:=by
 obtain⟨a,b,e⟩:=st.po;refine⟨?_,k _ _ n1 st.pi,⟨a,b,k _ _ n2 e⟩,st.j1.at λo e=>k _ o n3 e,st.j2.at λo e=>k _ o n4 e⟩;rcases st.z with hz | ⟨a,oa,f,hz,ha,az,aTO,a1,a2,aS⟩
 ·exact .inl (k _ _ n0 hz)
 ·exact .inr ⟨a,oa,f,k _ _ n0 hz,k _ _ aS ha,az,aTO,a1,a2,aS⟩
structure PrG (xs ys:Array ad)(lo:aa)(h:cf)(as:List aa):Prop where
 rise:as.Pairwise (· < ·)
 above: ∀a∈as,lo < a
 pairs: ∀(j:Nat) (a:aa),as[j]?=some a->∃x y,xs[j]?=some x/\ys[j]?=some y/\IsPair h a x y
section
variable {prog:br} {w:bz} {A:ci} {s:ag} {R:Result->ag->Prop} {xs ys:Array ad} {n:Nat}
theorem z0w {S z TI TO i1 i2 t1 t2 lo:aa}(hh:A.handled=none)(D:ZipApart z TI TO i1 i2 t1 t2)(hS:S∉ [z,TI,TO,i1,i2,t1,t2])(hlo: ∀b∈ [S,z,TI,TO,i1,i2],b<=lo)(hn:n<=am)(ex:xs.size=n)(ey:ys.size=n)(res:ad){h₁:cf}
  (hR: ∀h' tk yc c as,(∀b o,b∉ [S,z,TO,i1,i2]->h₁.get? b=some o->h'.get? b=some o)->h'.get? S=some {cls:= .type 9#1,dict:=none,data:= .seq yc c,slots:= #[]} ->as.length=n->PrG xs ys lo h' as->yc.toList=as.map Value.ref->R (.ok (.ret res)) {s with heap:=h',toks:=tk}):
  ∀(k i:Nat) (h:cf) (tk c:Nat) (yc:Array ad) (as:List aa),n - i=k->i<=n->j8 h z TI TO i1 i2 t1 t2 S i->h.IsTuple t1 xs->h.IsTuple t2 ys->(∀b o,b∉ [S,z,TO,i1,i2]->h₁.get? b=some o->h.get? b=some o)->
   h.get? S=some {cls:= .type 9#1,dict:=none,data:= .seq yc c,slots:= #[]} ->yc.toList=as.map Value.ref->as.length=i->PrG xs ys lo h as->(∀a∈as,a < h.objs.size)->lo < h.objs.size->
   jf 6#2 A (.builtin "list.extend.loop" ⟨[.ref S,.ref z,res],[]⟩) R {s with heap:=h,toks:=tk} :=by
 simp only[ar,bu,or_false,not_or]at hS;obtain⟨Sz,STI,STO,S1,S2,St1,St2⟩:=hS;have ne: ∀{a b:aa},lo < a->b∈ [S,z,TI,TO,i1,i2]->a≠b:=λh m e=>by have:=hlo _ m;rw[<- e]at this;exact absurd h (og.mpr this)
 intro k
 induction k with
 | zero=>
  intro i h tk c yc as hk hi st T1 T2 keep hSl yj hal G hb hl;have hin:i=n:=0#0
  refine jd rl ?_;rw[ig gn _];refine ac (m:=pyNext (.ref z)) (z0u (s:= {s with heap:=h,toks:=tk}) (A:=A.in1) hh D st T1 (ys:=ys) (kz 0#0) λh' kk=> ?_);refine al (hR h' tk yc c as (λb o hb e=> ?_) (kk S _ Sz STO S1 S2 hSl) 0#0 ⟨G.rise,G.above,λj a hj=> ?_⟩ yj)
  ·have hb':=hb
   simp only[ar,bu,or_false,not_or]at hb';exact kk b o hb'.2.1 hb'.2.2.1 hb'.2.2.2.1 hb'.2.2.2.2 (keep b o hb e)
  ·obtain⟨x,y,e1,e2,e3⟩:=G.pairs j a hj
   have ha:=G.above a (bf hj);exact⟨x,y,e1,e2,kk a _ (ne ha 3#0) (ne ha 3#0) (ne ha 3#0) (ne ha 3#0) e3⟩
 | succ k ih=>
  intro i h tk c yc as hk hi st T1 T2 keep hSl yj hal G hb hl;have yf:i < n:=0#0
  have hsz:yc.size=i:=by rw[<- fh,yj,ah,hal]
  refine jd rl ?_;rw[ig gn _];refine ac (m:=pyNext (.ref z)) (z0v (s:= {s with heap:=h,toks:=tk}) D st (aw hSl) T1 T2 (cx (by grobner:i < xs.size)) (cx (by grobner:i < ys.size)) λh' xp hp hz' kk=> ?_);have hS':=kk S _ Sz STO S1 S2 hSl;refine ac (m:=updateSeq S (·.push (.ref h.objs.size))) ?_;refine ip (s:= {s with heap:=h',toks:=tk}) hS' rfl (al ⟨jh gn _,?_⟩) (by rw[hsz];grobner) (by show(yc.push _).size<=am+1;rw[xg,hsz];grobner);obtain⟨h2,eh2⟩: ∃h2,h'.update S (Obj.mapSeq (·.push (.ref h.objs.size)))=h2:=⟨_,rfl⟩;have yt: ∀b o,b≠S->h'.get? b=some o->h2.get? b=some o:=λb o hb e=>by rw[<- eh2];exact(cm _ _ (dh hb)).trans e
  obtain⟨c',sl⟩: ∃c',h2.get? S=some {cls:= .type 9#1,dict:=none,data:= .seq (yc.push (.ref h.objs.size)) c',slots:= #[]} :=⟨_,by rw[<- eh2];exact ck (Obj.mapSeq (·.push (.ref h.objs.size))) hS' rfl⟩;have hz2:h2.objs.size=h.objs.size+1:=by rw[<- eh2,<- show h'.objs.size=h.objs.size+1 from hz'];exact(fz ..).1
  have mv: ∀b o,b∉ [S,z,TO,i1,i2]->h.get? b=some o->h2.get? b=some o:=λb o hb e=>by
   simp only[ar,bu,or_false,not_or]at hb;exact yt b o hb.1 (kk b o hb.2.1 hb.2.2.1 hb.2.2.2.1 hb.2.2.2.2 e)
  have nin: ∀{a:aa},lo < a->a∉ [S,z,TO,i1,i2]:=λha m=>by
   simp only[ar,bu,or_false]at m;rcases m with m | m | m | m | m <;> exact ne ha 3#0 m
  show jf 6#2 A (.builtin "list.extend.loop" ⟨[.ref S,.ref z,res],[]⟩) R {s with heap:=h'.update S (Obj.mapSeq (·.push (.ref h.objs.size))),toks:=tk};rw[eh2];refine ih (i+1) h2 tk c' (yc.push (.ref h.objs.size)) (as++ [h.objs.size]) 0#0 yf (xp.keep yt (dh Sz) (dh STI) (dh STO) (dh S1) (dh S2)) ?_ ?_ (λb o hb e=>mv b o hb (keep b o hb e)) sl ?_ ?_ ⟨?_,?_,?_⟩ ?_ ?_
  ·obtain⟨o,e,r⟩:=T1
   exact⟨o,mv _ _ (by simp only[ar,bu,or_false,not_or];exact⟨dh St1,D.l1z,D.l1TO,D.l1i1,D.l1i2⟩) e,r⟩
  ·obtain⟨o,e,r⟩:=T2
   exact⟨o,mv _ _ (by simp only[ar,bu,or_false,not_or];exact⟨dh St2,D.l2z,D.l2TO,D.l2i1,D.l2i2⟩) e,r⟩
  ·rw[ra,yj,ay];rfl
  ·rw[af,hal];rfl
  ·refine ny.mpr ⟨G.rise,3#0,λa ha b hb'=> ?_⟩
   rw[au.mp hb'];exact hb a ha
  ·intro a ha
   rcases bi.mp ha with ha | ha
   ·exact G.above a ha
   ·rw[au.mp ha];exact hl
  ·intro j a hj
   by_cases hji:j < as.length
   ·rw[cn hji]at hj
    obtain⟨x,y,e1,e2,e3⟩:=G.pairs j a hj;exact⟨x,y,e1,e2,mv a _ (nin (G.above a (bf hj))) e3⟩
   ·have hj2:=(ba.mp hj).1
    rw[af,gf]at hj2;have:j=as.length:=0#0
    subst this;rw[dg (aq _),jc]at hj;cases hj;refine⟨xs[i],ys[i],by rw[hal];exact cx _,by rw[hal];exact cx _,yt _ _ (ne hl 3#0) hp⟩
  ·intro a ha
   rcases bi.mp ha with ha | ha
   ·rw[hz2];exact ka (hb a ha)
   ·rw[au.mp ha,hz2];exact ia _
  ·rw[hz2];exact ka hl
end
section
variable {prog:br} {w:bz} {A:ci} {E:ad->ag->Prop} {s:ag} {xs ys:Array ad} {n:Nat}
theorem z0t:typeLookup (.type "zip") "__len__" =pure none:=by rw[nz,lh];kernel_rfl
theorem z0s:typeLookup (.type "zip") "__length_hint__" =pure none:=by rw[nz,lh];kernel_rfl
theorem ztc {z:aa}{Q:Bool->ag->Prop}(hT:s.TypeIs (.ref z) "zip")(h: ∀b,Q b s):av 6#2 A (Builtin.List.listLengthHint (.ref z)) Q E s:=by
 unfold Builtin.List.listLengthHint;refine ac (nv hT z0t ?_);show av _ A (specialOf (Value.ref z) (Str.ofString "__length_hint__") >>= _) _ _ _;refine ac (nv hT z0s ?_);exact al (h _)
theorem zrG {z TI TO i1 i2 t1 t2:aa}{Q:ad->ag->Prop}(hh:A.handled=none)(D:ZipApart z TI TO i1 i2 t1 t2)(hz:sH s.heap z TI TO .none (.bool false))(hpi:IsPair s.heap TI (.ref i1) (.ref i2))(hpo:IsPair s.heap TO .none .none)(hj1:s.heap.IsTupleIter i1 t1 0)(hj2:s.heap.IsTupleIter i2 t2 0)
  (T1:s.heap.IsTuple t1 xs) (T2:s.heap.IsTuple t2 ys) (hn:n<=am) (ex:xs.size=n) (ey:ys.size=n)
  (hQ: ∀h' tk yc c as,(∀b o,b∉ [z,TO,i1,i2]->s.heap.get? b=some o->h'.get? b=some o)->h'.get? s.heap.objs.size=some {cls:= .type 9#1,dict:=none,data:= .seq yc c,slots:= #[]} ->as.length=n->PrG xs ys s.heap.objs.size h' as->yc.toList=as.map Value.ref->Q 6#3 {s with heap:=h',toks:=tk}):
  av 6#2 A (call (.type 9#1) [.ref z]) Q E s:=by
 refine callType_codes (Q₁:=λobj s₁=>obj= .ref s.heap.objs.size/\s₁= {s with heap:=s.heap.push {cls:= .type 9#1,data:= .seq #[]}}) vj (sy _) tf (code_list_new _ ⟨rfl,rfl⟩) λobj s₁ h₁=> ?_;obtain⟨rfl,rfl⟩:=h₁;have kp: ∀b o,s.heap.get? b=some o->(s.heap.push {cls:= .type 9#1,data:= .seq #[]}).get? b=some o:=λb o e=>ak _ e;have hpz:(s.heap.push {cls:= .type 9#1,data:= .seq #[]}).objs.size=s.heap.objs.size+1:=du ..;have lz:=aw hz;have lI:=aw hpi;have lO:=aw hpo;have l1:i1 < s.heap.objs.size:=by obtain⟨_,e,_⟩:=hj1;exact aw e
 have l2:i2 < s.heap.objs.size:=by obtain⟨_,e,_⟩:=hj2;exact aw e
 have m1:t1 < s.heap.objs.size:=by obtain⟨_,e,_⟩:=T1;exact aw e
 have m2:t2 < s.heap.objs.size:=by obtain⟨_,e,_⟩:=T2;exact aw e
 have hS:(s.heap.push {cls:= .type 9#1,data:= .seq #[]}).get? s.heap.objs.size=some {cls:= .type 9#1,data:= .seq #[]} :=be _ rfl;generalize hS':s.heap.objs.size=S at *;have nS: ∀b o,s.heap.get? b=some o->b≠S:=λb o e=>by rw[<- hS'];exact bo (aw e)
 refine⟨⟨_,hS,rfl⟩,sr _ _,?_⟩;show av _ _ (do let old <- Builtin.List.listItems (.ref S);Builtin.List.listUpdate (.ref S) (λ_=> #[]);letGo old.toList.reverse;Builtin.List.listExtendWith (.ref S) (.ref z) .none) _ _ _;refine ac ?_;unfold Builtin.List.listItems;refine ac (gy hS rfl (al ?_));show av _ _ (updateSeq S (λ_=> #[]) >>= λ_=>letGo (#[]:Array ad).toList.reverse >>= λ_=>Builtin.List.listExtendWith (.ref S) (.ref z) .none) _ _ _;refine ac (ip hS rfl (ac (ue ?_)));have hS₂:=ck 0#6 hS rfl;have yt: ∀b o,b≠S->s.heap.get? b=some o->((s.heap.push {cls:= .type 9#1,data:= .seq #[]}).update S 0#6).get? b=some o:=λb o hb e=>(cm _ _ (dh hb)).trans (kp b o e);have hz₂:((s.heap.push {cls:= .type 9#1,data:= .seq #[]}).update S 0#6).objs.size=S+1:=by rw[<- hpz];exact(fz ..).1
 obtain⟨h2,eh2⟩: ∃h2,(s.heap.push {cls:= .type 9#1,data:= .seq #[]}).update S 0#6=h2:=⟨_,rfl⟩;rw[eh2]at hS₂ yt hz₂⊢
 have key: ∀(h:cf) (c₁ tk:Nat),(∀b o,b≠S->s.heap.get? b=some o->h.get? b=some o)->h.get? S=some {cls:= .type 9#1,data:= .seq #[] c₁} ->h.objs.size=S+1->jf 6#2 A.in1 (.builtin "list.extend.loop" ⟨[.ref S,.ref z,.none],[]⟩) (wants (λr s₂=>r=Value.none/\Q (Value.ref S) s₂) E) {s with heap:=h,toks:=tk} :=by
  intro h c₁ tk hk hS₁ hsz;refine z0w (lo:=S) (h₁:=s.heap) (A:=A.in1) hh D (by simp only[ar,bu,or_false,not_or];exact⟨cp lz,cp lI,cp lO,cp l1,cp l2,cp m1,cp m2⟩) ?_ hn ex ey .none ?_ n 0 h tk c₁ #[] [] (vy _) (db _) ?_ ?_ ?_ ?_ hS₁ rfl rfl ⟨.nil,(λa ha=>by cases ha),(λj a hj=>by cases hj)⟩ (λa ha=>by cases ha) ?_
  ·intro b hb
   simp only[ar,bu,or_false]at hb;rcases hb with rfl | rfl | rfl | rfl | rfl | rfl
   ·exact aq _
   all_goals exact ke (by assumption)
  ·intro h' tk yc c as k' hS'' hl hG yj
   refine⟨rfl,hQ h' tk yc c as (λb o hb e=>k' b o (λm=> ?_) e) hS'' hl hG yj⟩;rcases ar.mp m with m | m
   ·exact nS b o e m
   ·exact hb m
  ·exact⟨.inl (hk _ _ (nS _ _ hz) hz),hk _ _ (nS _ _ hpi) hpi,⟨_,_,hk _ _ (nS _ _ hpo) hpo⟩,hj1.at λo e=>hk _ o (nS _ _ e) e,hj2.at λo e=>hk _ o (nS _ _ e) e⟩
  ·obtain⟨o,e,r⟩:=T1;exact⟨o,hk _ _ (nS _ _ e) e,r⟩
  ·obtain⟨o,e,r⟩:=T2;exact⟨o,hk _ _ (nS _ _ e) e,r⟩
  ·exact λb o hb e=>hk b o (nS _ _ e) e
  ·rw[hsz];exact ia _
 unfold Builtin.List.listExtendWith;have hT2:Shared.TypeIs {s with heap:=h2} (.ref z) "zip" :=⟨_,yt _ _ (nS _ _ hz) hz,rfl⟩;refine ac (ld (T:= "zip") hT2 ?_);have e1:Builtin.List.listSameRef (.ref S) (.ref z)=false:=by simp[Builtin.List.listSameRef,cp lz]
 simp only[e1,show(Value.type "zip" ==Value.type 9#1)=false by decide,show(Value.type "zip" ==Value.type 22#1)=false by decide,iq,gk,if_false];refine ac (wpAny_pyIter_zip (f0:= .none) (yt _ _ (nS _ _ hz) hz) ?_);refine ac (ga (ztc hT2 λb=> ?_));refine md (λ_=> ?_) (λ_=>al ⟨jh gn _,key _ _ _ yt hS₂ hz₂⟩);refine ac (ju ?_);refine ac ?_;show av _ _ (updateSeq S (·.push .none) >>= λ_=>updateSeq S (·.pop)) _ _ _;refine ac (ip (s:= {s with heap:=h2}) hS₂ rfl ?_);have hS₃:=ck (Obj.mapSeq (·.push Value.none)) hS₂ rfl;refine ip (s:= {s with heap:=h2.update S (Obj.mapSeq (·.push Value.none))}) (hz:=by seq_fits) hS₃ rfl ?_;have hS₄:=ck (Obj.mapSeq (·.pop)) hS₃ rfl;exact al ⟨jh gn _,key _ _ _ (λb o hb e=>(cm _ _ (dh hb)).trans ((cm _ _ (dh hb)).trans (yt b o hb e))) hS₄ (by rw[(fz ..).1,(fz ..).1];exact hz₂)⟩
theorem z0r (t1 t2:aa)(xs ys:Array ad):Meets (Builtin.«zip.__new__» ⟨[.type "zip",.ref t1,.ref t2],[]⟩) (λ_ R s=>s.heap.IsTuple t1 xs/\s.heap.IsTuple t2 ys/\
  ∀h',sH h' (s.heap.objs.size+4) (s.heap.objs.size+2) (s.heap.objs.size+3) .none (.bool false)->IsPair h' (s.heap.objs.size+2) 6#3 (.ref 5#3)->IsPair h' (s.heap.objs.size+3) .none .none->h'.IsTupleIter s.heap.objs.size t1 0->h'.IsTupleIter 5#3 t2 0->
   h'.objs.size=s.heap.objs.size+5->(∀c o,s.heap.get? c=some o->h'.get? c=some o)->R (.ok (.ret (.ref (s.heap.objs.size+4)))) {s with heap:=h'}):=
 .of_wp λprog w A R s h=>by
  obtain⟨hp,g,d,tk,os⟩:=s;obtain⟨hl1,hl2,h⟩:=h;have hsub:=sub_zip;have hL1:Heap.IsTuple (Shared.heap ⟨hp,g,d,tk,os⟩) t1 xs:=hl1;have hL2:Heap.IsTuple (Shared.heap ⟨hp.push {cls:= .type 50#1,data:= .fields #[.ref t1,.int 0 0]},g,d,tk,os⟩) t2 ys:=Heap.IsTuple.push hl2 _
  wp_walk using ku hL1,ku hL2
  refine⟨_,rfl,?_⟩;obtain⟨a,ea⟩: ∃a:aj,a= {cls:= .type 50#1,data:= .fields #[.ref t1,.int 0 0]} :=⟨_,rfl⟩;obtain⟨b,eb⟩: ∃b:aj,b= {cls:= .type 50#1,data:= .fields #[.ref t2,.int 0 0]} :=⟨_,rfl⟩;obtain⟨c,ec⟩: ∃c:aj,c= {cls:= .type 22#1,data:= .seq #[.ref hp.objs.size,.ref (hp.push a).objs.size]} :=⟨_,rfl⟩;obtain⟨f,ef⟩: ∃f:aj,f= {cls:= .type 22#1,data:= .seq #[.none,.none]} :=⟨_,rfl⟩;obtain⟨e,ee⟩: ∃e:aj,e= {cls:= .type "zip",data:= .fields #[.none,.bool false,.bool false,.ref ((hp.push a).push b).objs.size,.ref (((hp.push a).push b).push c).objs.size]} :=⟨_,rfl⟩;have z1:(hp.push a).objs.size=hp.objs.size+1:=du ..;have z2:((hp.push a).push b).objs.size=hp.objs.size+2:=by rw[du,z1]
  have z3:(((hp.push a).push b).push c).objs.size=hp.objs.size+3:=by rw[du,z2]
  have z4:((((hp.push a).push b).push c).push f).objs.size=hp.objs.size+4:=by rw[du,z3]
  have z5:(((((hp.push a).push b).push c).push f).push e).objs.size=hp.objs.size+5:=by rw[du,z4]
  have up: ∀c' o,hp.get? c'=some o->(((((hp.push a).push b).push c).push f).push e).get? c'=some o:=λc' o q=>ak _ (ak _ (ak _ (ak _ (ak _ q))));have g1:(((((hp.push a).push b).push c).push f).push e).get? hp.objs.size=some a:=ak _ (ak _ (ak _ (ak _ (be _ (by rw[ea];rfl)))));have g2:(((((hp.push a).push b).push c).push f).push e).get? (hp.push a).objs.size=some b:=ak _ (ak _ (ak _ (be _ (by rw[eb];rfl))));have g3:(((((hp.push a).push b).push c).push f).push e).get? ((hp.push a).push b).objs.size=some c:=ak _ (ak _ (be _ (by rw[ec];rfl)));have g4:(((((hp.push a).push b).push c).push f).push e).get? (((hp.push a).push b).push c).objs.size=some f:=ak _ (be _ (by rw[ef];rfl));have g5:(((((hp.push a).push b).push c).push f).push e).get? ((((hp.push a).push b).push c).push f).objs.size=some e:=be _ (by rw[ee];rfl);have goal:R (.ok (.ret (.ref ((((hp.push a).push b).push c).push f).objs.size))) ⟨((((hp.push a).push b).push c).push f).push e,g,d,tk,os⟩:=by
   rw[z4];rw[z1]at g2;rw[z2]at g3;rw[z3]at g4;rw[z4]at g5;refine h _ ?_ ?_ ?_ ⟨a,g1,by subst ea;rfl,by subst ea;rfl⟩ ⟨b,g2,by subst eb;rfl,by subst eb;rfl⟩ z5 up
   ·exact g5.trans (congrArg some (by rw[ee,z2,z3]))
   ·exact g3.trans (congrArg some (by rw[ec,z1]))
   ·exact g4.trans (congrArg some ef)
  subst ee;subst ef;subst ec;subst eb;subst ea;exact goal
theorem zrM {t1 t2:aa}{Q:ad->ag->Prop}(hl1:s.heap.IsTuple t1 xs)(hl2:s.heap.IsTuple t2 ys)
  (h: ∀h',sH h' (s.heap.objs.size+4) (s.heap.objs.size+2) (s.heap.objs.size+3) .none (.bool false)->IsPair h' (s.heap.objs.size+2) 6#3 (.ref 5#3)->IsPair h' (s.heap.objs.size+3) .none .none->h'.IsTupleIter s.heap.objs.size t1 0->h'.IsTupleIter 5#3 t2 0->
   h'.objs.size=s.heap.objs.size+5->(∀c o,s.heap.get? c=some o->h'.get? c=some o)->Q (.ref (s.heap.objs.size+4)) {s with heap:=h'}):
  av 6#2 A (call (.type "zip") [.ref t1,.ref t2]) Q E s:=
 callType_new F.called_zip 2#0 (F.typeCall_zip_2 _ _) (F.newCall_zip_2 _ _) (λobj=>F.args_object_init_3 obj _ _) F.entry_zip_new (z0r t1 t2 xs ys) ⟨hl1,hl2,λh' a1 a2 a3 a4 a5 a6 a7=>⟨⟨_,a1,rfl⟩,h h' a1 a2 a3 a4 a5 a6 a7⟩⟩
end
def gH (as:List aa)(qs:List (V×V))(b:aa):Option HO:=((as.zip qs).find? λq=>decide (q.1=b)).map λq=>HO.tup [q.2.1,q.2.2]
def l7 (H:Hp)(as:List aa)(qs:List (V×V))(L:aa):Hp:=λb=>if b=L then some (.lst (as.map V.ref))else(gH as qs b).or (H b)
theorem zgv {as:List aa}{qs:List (V×V)}{b:aa}(h: ¬ b∈as):gH as qs b=none:=by
 unfold gH;rw[Option.map_eq_none_iff,List.find?_eq_none];intro q hq e;have:q.1=b:=by simpa using e
 exact h (this▸(kt (a:=q.1) (b:=q.2) hq).1)
theorem zwK {as:List aa}{qs:List (V×V)}(hr:as.Pairwise (· < ·)): ∀{j:Nat} {a:aa} {q:V×V},as[j]?=some a->qs[j]?=some q->gH as qs a=some (.tup [q.1,q.2]):=by
 induction as generalizing qs with
 | nil=>intro j a q e;cases e
 | cons c as ih=>
  intro j a q e1 e2;have hr':=jv.mp hr;cases qs with
  | nil=>cases e2
  | cons p qs=>
   unfold gH;cases j with
   | zero=>
    cases e1;cases e2;simp
   | succ j=>
    have e1:as[j]?=some a:=by simpa using e1
    have e2:qs[j]?=some q:=by simpa using e2
    have yo: ¬ c=a:=bo (hr'.1 a (bf e1));have:=ih hr'.2 e1 e2;unfold gH at this;simp only[wb,im];rw[decide_eq_false yo];exact this
theorem zn2 {α β:Type}{R:α->β->Prop} : ∀{l:List α} {m:List β},l.length=m.length->(∀(j:Nat) (a:α) (b:β),l[j]?=some a->m[j]?=some b->R a b)->Paired R l m
 | [],[],_,_=> .nil
 | [],_::_,h,_=>by cases h
 | _::_,[],h,_=>by cases h
 | a::l,b::m,h,f=> .cons (f 0 a b rfl rfl) (zn2 (by simpa using h) λj a b e1 e2=>f (j+1) a b (by simpa using e1) (by simpa using e2))
section
variable {X:Cx} {a b:Expr} {ta:TA} {p p2 pos pos2:di}
def zzp (K:Frag)(ta:TA):TE:=λσ H Q=>ta σ H λvs H1=> ∃(a b:aa) (xs ys:List V),vs= [.ref a,.ref b]/\xV K H1 a xs/\xV K H1 b ys/\xs.length=ys.length/\
 ∀(L:aa) (as:List aa) (H':Hp),H1 L=none->(∀c,H1 c≠none->H' c=H1 c)->H' L=some (.lst (as.map V.ref))->L∉as->Paired (λc (q:V×V)=>H1 c=none/\H' c=some (.tup [q.1,q.2])) as (xs.zip ys)->Q (.ref L) H'
theorem zwt (hc:X.calm=true)(hg:Gl X 9#1)(hm:X.mg 9#1 =none)(hg2:Gl X "zip")(hm2:X.mg "zip" =none)(ha:PA X [a,b] ta)(hs:starEach [a,b] X.env= [(false,eval a X.env),(false,eval b X.env)]:=by rfl)(hsb:starEach [b] X.env= [(false,eval b X.env)]:=by rfl)
  (yq:starEach [.Call (.Name "zip" p2) [a,b] [] pos2] X.env= [(false,eval (.Call (.Name "zip" p2) [a,b] [] pos2) X.env)]:=by rfl):
  PE X (.Call (.Name 9#1 p) [.Call (.Name "zip" p2) [a,b] [] pos2] [] pos) (zzp X.K ta):=⟨λmt s σ H Q I h=>by
 refine gw (lT I hg hm (show bootBuiltins 9#1 =some (.type 9#1) by decide+kernel) (callWith_type1 ?_ yq rfl));rw[yq];show av _ _ (spliced ((false,eval (.Call (.Name "zip" p2) [a,b] [] pos2) X.env)::backTo pos [])) _ _ s;refine iu (gw (lT I hg2 hm2 boot_zip (callWith_type1 (zY (ha pos2 mt s σ H _ I h) λus s1 ⟨vs,H1,I1,r1,q1⟩=> ?_) (by rw[hs,hsb]) (by rw[hsb];rfl))));obtain⟨a,b,xs,ys,e,hq,hq2,hl,q⟩:=q1;subst e;obtain⟨u,v,rfl,ru,rv⟩:=zR.two r1;cases ru;cases rv;obtain⟨xn,rv,tp,hz⟩:=I1.tuple hq;obtain⟨xu,rv2,tp2,hz2⟩:=I1.tuple hq2;have hl1:=rv.length;have hl2:=rv2.length;refine zrM tp tp2 λh' hZ hTI hTO hI1 hI2 hsz kk=>qr ?_;have la:a < s1.heap.objs.size:=by obtain⟨o,e,_⟩:=tp;exact aw e
 have lb:b < s1.heap.objs.size:=by obtain⟨o,e,_⟩:=tp2;exact aw e
 refine zrG (s:= {s1 with heap:=h'}) (n:=xn.length) (I1.ok.hd hc) (zipApart_new la lb) hZ hTI hTO hI1 hI2 (let⟨o,e,r⟩:=tp;⟨o,kk _ _ e,r⟩) (let⟨o,e,r⟩:=tp2;⟨o,kk _ _ e,r⟩) 0#0 3#0 (by simp;grobner) λh2 tk yc c as k2 hS hal hG yj=> ?_;have hsz:h'.objs.size=s1.heap.objs.size+5:=hsz;have k5: ∀d o,s1.heap.get? d=some o->h2.get? d=some o:=λd o e=>by
  refine k2 d o (λm=> ?_) (kk d o e);have:=aw e;simp only[ar,bu,or_false]at m;rcases m with m | m | m | m <;> (rw[m]at this;first | exact absurd this (cy _) | exact absurd this (og.mpr (jq _ _)))
 have fr: ∀{d:aa},s1.heap.objs.size<=d->H1 d=none:=λh=>I1.hok.fresh h;have frL:H1 h'.objs.size=none:=fr (by rw[hsz];exact jq _ _);have fra: ∀d∈as,h'.objs.size < d:=hG.above;have nLa:h'.objs.size∉as:=λm=>cy _ (fra _ m);have keepH: ∀d o,H1 d=some o->l7 H1 as (xs.zip ys) h'.objs.size d=some o:=λd o e=>by
  unfold l7;rw[if_neg (λz=>by rw[z,frL]at e;cases e),zgv (λm=>by rw[fr (cb (by rw[hsz];exact jq _ _) (ke (fra d m)))]at e;cases e)];exact e
 have zl:(xs.zip ys).length=as.length:=by rw[me,hal];grobner
 have pr: ∀j d (q:V×V),as[j]?=some d->(xs.zip ys)[j]?=some q->l7 H1 as (xs.zip ys) h'.objs.size d=some (.tup [q.1,q.2]):=λj d q e1 e2=>by
  have yo: ¬ d=h'.objs.size:=λz=>nLa (z▸bf e1);unfold l7;rw[if_neg yo,zwK hG.rise e1 e2];rfl
 have I2:z9 X mt σ (l7 H1 as (xs.zip ys) h'.objs.size) {s1 with heap:=h2,toks:=tk} :=by
  refine I1.laidM k5 keepH (λd o e hd=> ?_) λd o hd e=> ?_
  ·have lt:=aw e
   unfold l7;rw[if_neg (λz=>by rw[z,hsz]at lt;exact absurd lt (og.mpr (jq _ _))),zgv (λm=>absurd (mi lt (mj (by rw[hsz];exact jq _ _) (fra d m))) (cy _))];exact hd
  ·by_cases hL:d=h'.objs.size
   ·subst hL
    unfold l7 at e;rw[if_pos rfl]at e;cases e;refine⟨by rw[ah,hal];grobner,yc.toList,c,?_,by rw[nu];exact hS⟩;rw[yj];exact zn1 as λi _=>rfl
   ·have hm:d∈as:=by
     by_cases hm:d∈as
     ·exact hm
     ·unfold l7 at e
      rw[if_neg hL,zgv hm,hd]at e;cases e
    obtain⟨j,hj,ej⟩:=jl hm;have e1:as[j]?=some d:=by rw[bn hj,ej]
    have hjz:j < (xs.zip ys).length:=0#0
    have:=pr j d _ e1 (bn hjz);rw[this]at e;cases e;obtain⟨x,y,f1,f2,f3⟩:=hG.pairs j d e1;have hjx:j < xs.length:=by rw[me]at hjz;grobner
    have hjy:j < ys.length:=by rw[me]at hjz;grobner
    obtain⟨u1,g1,r1⟩:=rv.get (bn hjx);obtain⟨u2,g2,r2⟩:=rv2.get (bn hjy);have f1:xn[j]?=some x:=by simpa using f1
    have f2:xu[j]?=some y:=by simpa using f2
    rw[f1]at g1;cases g1;rw[f2]at g2;cases g2;rw[List.getElem_zip];exact⟨by show 2<=am;decide,[x,y],.cons r1 (.cons r2 .nil),_,f3,rfl,_,rfl,rfl⟩
 refine⟨.ref h'.objs.size,_,I2,rfl,q _ as _ frL (λd hd=> ?_) ?_ nLa (zn2 zl.symm λj d q e1 e2=>⟨?_,pr j d q e1 e2⟩)⟩
 ·cases e:H1 d with
  | none=>exact absurd e hd
  | some o=>exact keepH d o e
 ·unfold l7;rw[if_pos rfl]
 ·exact fr (cb (by rw[hsz];exact jq _ _) (ke (fra d (bf e1))))⟩
end
end L2
namespace L3
open PySem PySem.Spec PyProof.Rows L2
section
variable {X:Cx} {a b:Expr} {TA:yC} {p p2 pos pos2:di}
def zp7 (T:yC):zE:=λenv st Q=>T env st λzs xm=>match zs with | [.tup xs,.tup ys]=>xs.length=ys.length/\Q (.lst (i5 xs ys)) xm | _=>False
@[simp] theorem z5f {T:yC}{env:zI}{st:z7}{Q:K3} :zp7 T env st Q=(T env st λzs xm=>match zs with | [.tup xs,.tup ys]=>xs.length=ys.length/\Q (.lst (i5 xs ys)) xm | _=>False):=rfl
theorem zpM {K:Frag}{A:List aa}{H H':Hp}(g:zZ A H A H')(nA: ∀c,H c=none->c∉A): ∀{xs ys:List PV} {vs us:List V} {as:List aa},RVs K A H xs vs->RVs K A H ys us->Paired (λc (q:V×V)=>H c=none/\H' c=some (.tup [q.1,q.2])) as (vs.zip us)->RVs K A H' (i5 xs ys) (as.map V.ref)
 | _,_,_,_,_,.nil,_,h=>by cases h;exact .nil
 | _,_,_,_,_,.cons r t,.nil,h=>by cases h;exact .nil
 | _,_,_,_,_,.cons r t,.cons r' t',h=>by
  cases h with
  | cons q hq=>exact .cons (.tup (.inl ⟨.inl q.2,nA _ q.1⟩) (by show 2<=am;decide) (.cons (r.grow g) (.cons (r'.grow g) .nil))) (zpM g nA t t' hq)
theorem zxp (hc:X.calm=true)(hg:Gl X 9#1)(hm:X.mg 9#1 =none)(hg2:Gl X "zip")(hm2:X.mg "zip" =none)(ha:PA X [a,b] (wU X.K TA))(hs:starEach [a,b] X.env= [(false,eval a X.env),(false,eval b X.env)]:=by rfl)(hsb:starEach [b] X.env= [(false,eval b X.env)]:=by rfl)
  (yq:starEach [.Call (.Name "zip" p2) [a,b] [] pos2] X.env= [(false,eval (.Call (.Name "zip" p2) [a,b] [] pos2) X.env)]:=by rfl):
  PE X (.Call (.Name 9#1 p) [.Call (.Name "zip" p2) [a,b] [] pos2] [] pos) (zV X.K (zp7 TA)):=by
 refine vI (zwt hc hg hm hg2 hm2 ha hs hsb yq) λσ H Q ⟨A,env,st,Q3,xo,h,k⟩=>⟨A,env,st,_,xo,h,λA1 H1 xm zs vs g1 s1 e1 h1=> ?_⟩
 split at h1
 ·rename_i xs ys
  obtain⟨v,u,rfl,ev,eu⟩:=xC.two e1;cases ev with | val ev=>cases ev with | tup t z r=>
   cases eu with | val eu=>cases eu with | tup t' z' r'=>
    have l1:=r.len;have l2:=r'.len;refine⟨_,_,_,_,rfl,t.sq,t'.sq,0#0,λL as H' hL kp hLs hn hp=> ?_⟩;have g:zZ A1 H1 A1 H':=⟨⟨[],3#0,3#0⟩,λb o e _=>by rw[kp b (by rw[e];exact cw _)];exact e,λb hb=>by rw[kp b hb];exact hb⟩;have hl:=gx hp;rw[me]at hl;exact k A1 H' xm _ _ (g1.trans g) (s1.move g λc m=>kp c (s1.live m)) (.val (.lst (.inl ⟨.inl hLs,s1.fresh hL⟩) (by rw[ah];grobner) (zpM g (λc hc=>s1.fresh hc) r r' hp))) h1.2
 ·exact h1.elim
def zxD:R3:=λx y st Q=> ∃xs,rE x st=some xs/\rE y st=some []/\Q (.bl (!xs.isEmpty)) st
theorem zve {k:Nat}(hr:zH k X.A):yW X (compareOp .NotEq) (vU X.K zxD):=by
 intro mt s σ H v w vv ww Q I rv rw ⟨A,st,x,y,Q3,rs,ex,ey,⟨xs,e1,e2,h⟩,k⟩;obtain⟨a,us,rfl,hs,r,z⟩:=jK rs ex e1;obtain⟨b,us',rfl,hs',r',z'⟩:=jK rs ey e2;cases r';refine zvP (by have:=hr.un;grobner) mt s σ H _ _ vv ww Q I rv rw ⟨a,b,us,rfl,rfl,hs,hs',?_⟩;rw[r.empty];exact k.now rs (.val (.bl _)) h
end
end L3
namespace N13
open PySem L2 L3
def xK (i:Nat):bw:=PySem.Challenge.pw_copiedhouse_k13_whole_programs_written_a.main.body.getD i (.Pass ⟨0,0,0,0⟩)
theorem sC:bootBuiltins 22#1 =some (.type 22#1):=1#0
theorem ziW:bootBuiltins 9#1 =some (.type 9#1):=1#0
theorem fQ:bootBuiltins "int" =some (.type "int"):=1#0
theorem zr1:bootBuiltins "bool" =some (.type "bool"):=1#0
theorem jB:bootBuiltins "str" =some (.type "str"):=1#0
abbrev dR:bw:=xK 8
theorem zyj:yQ [69#1] [69#1] (zX dR):=⟨rfl,rfl,rfl,1#0,rfl,1#0,1#0⟩
abbrev dQ:bw:=xK 9
theorem zyi:yQ [69#1,"most"] [69#1,"most"] (zX dQ):=⟨rfl,rfl,rfl,1#0,rfl,1#0,1#0⟩
abbrev zaB:bw:=xK 14
theorem zo8:yQ ["piece","least","most","number"] ["piece","least","most"] (zX zaB):=⟨rfl,rfl,rfl,1#0,rfl,1#0,1#0⟩
abbrev zaG:bw:=xK 19
theorem zhj:yQ [69#1,28#1,4#1,"term"] [69#1,28#1] (zX zaG):=⟨rfl,rfl,rfl,1#0,rfl,1#0,1#0⟩
abbrev dY:bw:=xK 20
theorem dN:yQ [4#1,28#1,29#1,"piece","term"] [4#1,28#1,29#1] (zX dY):=⟨rfl,rfl,rfl,1#0,rfl,1#0,1#0⟩
abbrev zaE:bw:=xK 21
theorem zyl:yQ ["piece",28#1] ["piece",28#1] (zX zaE):=⟨rfl,rfl,rfl,1#0,rfl,1#0,1#0⟩
abbrev dX:bw:=xK 22
theorem zhm:yQ [4#1,28#1,29#1,"head",30#1] [4#1,28#1,29#1] (zX dX):=⟨rfl,rfl,rfl,1#0,rfl,1#0,1#0⟩
abbrev jY:bw:=xK 23
theorem zyp:yQ 4#6 4#6 (zX jY):=⟨rfl,rfl,rfl,1#0,rfl,1#0,1#0⟩
abbrev dU:bw:=xK 25
theorem dL:yQ [69#1,"shelves","hands","at","line"] [69#1] (zX dU):=⟨rfl,rfl,rfl,1#0,rfl,1#0,1#0⟩
abbrev zaA:bw:=xK 26
theorem zyk:yQ [69#1] [69#1] (zX zaA):=⟨rfl,rfl,rfl,1#0,rfl,1#0,1#0⟩
abbrev zaF:bw:=xK 27
theorem zhi:yQ ["line","shelves","hands",4#1,"kind"] ["line","shelves","hands"] (zX zaF):=⟨rfl,rfl,rfl,1#0,rfl,1#0,1#0⟩
abbrev zaM:bw:=xK 28
theorem zhn:yQ [4#1,"word","manner"] [4#1] (zX zaM):=⟨rfl,rfl,rfl,1#0,rfl,1#0,1#0⟩
abbrev zaN:bw:=xK 29
theorem zho:yQ ["word",4#1,"n","begin"] ["word",4#1] (zX zaN):=⟨rfl,rfl,rfl,1#0,rfl,1#0,1#0⟩
abbrev zaJ:bw:=xK 30
theorem zhl:yQ [4#1,"bag","word"] [4#1] (zX zaJ):=⟨rfl,rfl,rfl,1#0,rfl,1#0,1#0⟩
abbrev zaO:bw:=xK 31
theorem zo_:yQ [4#1,"words"] [4#1] (zX zaO):=⟨rfl,rfl,rfl,1#0,rfl,1#0,1#0⟩
abbrev zaL:bw:=xK 32
theorem zo9:yQ ["kind",4#1,"guard"] ["kind",4#1] (zX zaL):=⟨rfl,rfl,rfl,1#0,rfl,1#0,1#0⟩
abbrev zaK:bw:=xK 33
theorem dM:yQ ["kind",4#1,30#1,"place"] ["kind",4#1] (zX zaK):=⟨rfl,rfl,rfl,1#0,rfl,1#0,1#0⟩
abbrev gO:bw:=xK 35
theorem zyo:yQ ["term"] ["term"] (zX gO):=⟨rfl,rfl,rfl,1#0,rfl,1#0,1#0⟩
abbrev za8:bw:=xK 36
theorem zyh:yQ ["parts"] ["parts"] (zX za8):=⟨rfl,rfl,rfl,1#0,rfl,1#0,1#0⟩
abbrev gM:bw:=xK 37
theorem zhk:yQ ["program","lines","hand"] ["program"] (zX gM):=⟨rfl,rfl,rfl,1#0,rfl,1#0,1#0⟩
abbrev zaI:bw:=xK 38
theorem gK:yQ [30#1,"manner","begin","parts","word","many"] [30#1] (zX zaI):=⟨rfl,rfl,rfl,1#0,rfl,1#0,1#0⟩
abbrev dW:bw:=xK 39
theorem zyn:yQ ["row"] ["row"] (zX dW):=⟨rfl,rfl,rfl,1#0,rfl,1#0,1#0⟩
abbrev za1:bw:=xK 41
theorem dI:yQ [8#1,41#1,"_law_number_here","_law_own"] [8#1,41#1] (zX za1):=⟨rfl,rfl,rfl,1#0,rfl,1#0,1#0⟩
abbrev za2:bw:=xK 42
theorem dJ:yQ [0#1,27#1,"_law_digit","_law_number_here",20#1,"_law_two"] [0#1,27#1] (zX za2):=⟨rfl,rfl,rfl,1#0,rfl,1#0,1#0⟩
abbrev za4:bw:=xK 43
theorem zyc:yQ [0#1,21#1] [0#1,21#1] (zX za4):=⟨rfl,rfl,rfl,1#0,rfl,1#0,1#0⟩
abbrev dG:bw:=xK 44
theorem zhg:yQ [0#1,21#1] [0#1] (zX dG):=⟨rfl,rfl,rfl,1#0,rfl,1#0,1#0⟩
abbrev za3:bw:=xK 45
theorem zo3:yQ [0#1,"_law_most",17#1] [0#1,"_law_most"] (zX za3):=⟨rfl,rfl,rfl,1#0,rfl,1#0,1#0⟩
abbrev dF:bw:=xK 46
theorem jW:yQ 8#5 [0#1,3#1,"_law_told","_law_room","_law_deep"] (zX dF):=⟨rfl,rfl,rfl,1#0,rfl,1#0,1#0⟩
abbrev za0:bw:=xK 47
theorem za9:yQ [0#1,3#1,17#1,"_law_word_here",6#1] [0#1,3#1] (zX za0):=⟨rfl,rfl,rfl,1#0,rfl,1#0,1#0⟩
abbrev za5:bw:=xK 48
theorem zhe:yQ [0#1,3#1,17#1,"_law_guard"] [0#1,3#1] (zX za5):=⟨rfl,rfl,rfl,1#0,rfl,1#0,1#0⟩
abbrev kL:bw:=xK 49
theorem jV:yQ [0#1,3#1,10#1,17#1,21#1,32#1,48#1,6#1] [0#1,3#1] (zX kL):=⟨rfl,rfl,rfl,1#0,rfl,1#0,1#0⟩
abbrev jT:bw:=xK 50
theorem l5:yQ 5#4 [8#1,"_law_at"] (zX jT):=⟨rfl,rfl,rfl,1#0,rfl,1#0,1#0⟩
abbrev dE:bw:=xK 51
theorem zo4:yQ [6#1,"_law_kind"] [6#1] (zX dE):=⟨rfl,rfl,rfl,1#0,rfl,1#0,1#0⟩
abbrev za6:bw:=xK 52
theorem zhf:yQ [7#1,3#1,"_law_part"] [7#1] (zX za6):=⟨rfl,rfl,rfl,1#0,rfl,1#0,1#0⟩
abbrev jU:bw:=xK 53
theorem qB:yQ 8#7 [2#1] (zX jU):=⟨rfl,rfl,rfl,1#0,rfl,1#0,1#0⟩
abbrev zaz:bw:=xK 54
theorem dH:yQ [49#1,"_law_due","_law_left",20#1,"_law_other"] [49#1,"_law_due"] (zX zaz):=⟨rfl,rfl,rfl,1#0,rfl,1#0,1#0⟩
abbrev gJ:bw:=xK 55
theorem jX:yQ [2#1,10#1,49#1,5#1,7#1] [2#1] (zX gJ):=⟨rfl,rfl,rfl,1#0,rfl,1#0,1#0⟩
abbrev zhv:bw:=xK 56
theorem l6:yQ [8#1,20#1,"_law_other",41#1,2#1,"_law_text",6#1,"_law_told"] [8#1] (zX zhv):=⟨rfl,rfl,rfl,1#0,rfl,1#0,1#0⟩
def lR (i j:Nat):bw:=match xK i with
 | .ClassDef (body:=b) .. =>b.getD j (.Pass ⟨0,0,0,0⟩)
 | _=> .Pass ⟨0,0,0,0⟩
abbrev sPI:bw:=lR 13 0
theorem zo5:yQ [36#1,69#1,"spread"] [36#1,69#1] (zX sPI):=⟨rfl,rfl,rfl,1#0,rfl,1#0,1#0⟩
abbrev sPA:bw:=lR 13 1
theorem zyd:yQ [36#1] [36#1] (zX sPA):=⟨rfl,rfl,rfl,1#0,rfl,1#0,1#0⟩
abbrev sPT:bw:=lR 13 2
theorem zo6:yQ [36#1,"piece"] [36#1] (zX sPT):=⟨rfl,rfl,rfl,1#0,rfl,1#0,1#0⟩
abbrev sPK:bw:=lR 13 3
theorem zyf:yQ [36#1] [36#1] (zX sPK):=⟨rfl,rfl,rfl,1#0,rfl,1#0,1#0⟩
abbrev sPE:bw:=lR 13 4
theorem zye:yQ [36#1] [36#1] (zX sPE):=⟨rfl,rfl,rfl,1#0,rfl,1#0,1#0⟩
abbrev sPW:bw:=lR 13 5
theorem zo7:yQ [36#1,"piece"] [36#1] (zX sPW):=⟨rfl,rfl,rfl,1#0,rfl,1#0,1#0⟩
abbrev sPN:bw:=lR 13 6
theorem zyg:yQ [36#1,"least","most"] [36#1,"least","most"] (zX sPN):=⟨rfl,rfl,rfl,1#0,rfl,1#0,1#0⟩
abbrev sPM:bw:=lR 13 7
theorem zhh:yQ [36#1,"piece","figures"] [36#1] (zX sPM):=⟨rfl,rfl,rfl,1#0,rfl,1#0,1#0⟩
structure PX (K:Frag)(mg:Str->Option ad)(C I:aa)(fi:bh)(A:aa)(fa:bh)(T:aa)(ft:bh)(K9:aa)(fk:bh)(E:aa)(fe:bh)(W:aa)(fw:bh)(N:aa)(fn:bh)(M:aa)(fm:bh):Prop where
 gp:mg "Pieces" =some (.ref C)
 cl:sQ K C
 nP:qK K C 4#1
 nL:qK K C "place"
 mkC:Mk K C I
 fI:zS K 66#1 "Pieces.__init__" sPI I fi
 bI:y2 K fi [36#1,69#1] []
 mA:qJ K C "at_end" A
 fA:zS K "at_end" "Pieces.at_end" sPA A fa
 bA:y2 K fa [36#1] []
 mT:qJ K C "take" T
 fT:zS K "take" "Pieces.take" sPT T ft
 bT:y2 K ft [36#1] []
 mK:qJ K C "take_close" K9
 fK:zS K "take_close" "Pieces.take_close" sPK K9 fk
 bK:y2 K fk [36#1] []
 mE:qJ K C "take_end" E
 fE:zS K "take_end" "Pieces.take_end" sPE E fe
 bE:y2 K fe [36#1] []
 mW:qJ K C "take_word" W
 fW:zS K "take_word" "Pieces.take_word" sPW W fw
 bW:y2 K fw [36#1] []
 mN:qJ K C "take_number" N
 fN:zS K "take_number" "Pieces.take_number" sPN N fn
 bN:y2 K fn [36#1,"least","most"] []
 mM:qJ K C "take_many" M
 fM:zS K "take_many" "Pieces.take_many" sPM M fm
 bM:y2 K fm [36#1] []
structure Mo (K:Frag)(mg:Str->Option ad):Prop where
 len:mg "len" =none
 int:mg "int" =none
 range:mg "range" =none
 tuple:mg 22#1 =none
 isinstance:mg "isinstance" =none
 bool:mg "bool" =none
 str:mg "str" =none
 list:mg 9#1 =none
 min:mg "min" =none
 max:mg "max" =none
 all:mg "all" =none
 abs:mg "abs" =none
 enumerate:mg 14#1 =none
 sorted:mg "sorted" =none
 set:mg "set" =none
 zip:mg "zip" =none
 is_word: ∃f fd,zS K "is_word" "is_word" dR f fd/\y2 K fd [69#1] []/\mg "is_word" =some 8#3
 is_number: ∃f fd,zS K 56#1 56#1 dQ f fd/\y2 K fd [69#1,"most"] []/\mg 56#1 =some 8#3
 number_of: ∃f fd,zS K 55#1 55#1 zaB f fd/\y2 K fd ["piece","least","most"] []/\mg 55#1 =some 8#3
 read_term: ∃f fd,zS K 53#1 53#1 zaG f fd/\y2 K fd [69#1,28#1] []/\mg 53#1 =some 8#3
 take_term: ∃f fd,zS K 25#1 25#1 dY f fd/\y2 K fd [4#1,28#1,29#1] []/\mg 25#1 =some 8#3
 plain_term: ∃f fd,zS K 37#1 37#1 zaE f fd/\y2 K fd ["piece",28#1] []/\mg 37#1 =some 8#3
 take_inside: ∃f fd,zS K 19#1 19#1 dX f fd/\y2 K fd [4#1,28#1,29#1] []/\mg 19#1 =some 8#3
 take_terms: ∃f fd,zS K 16#1 16#1 jY f fd/\y2 K fd 4#6 []/\mg 16#1 =some 8#3
 read: ∃f fd,zS K "read" "read" dU f fd/\y2 K fd [69#1] []/\mg "read" =some 8#3
 lines_of: ∃f fd,zS K 72#1 72#1 zaA f fd/\y2 K fd [69#1] []/\mg 72#1 =some 8#3
 read_line: ∃f fd,zS K 54#1 54#1 zaF f fd/\y2 K fd ["line","shelves","hands"] []/\mg 54#1 =some 8#3
 take_shelf: ∃f fd,zS K 34#1 34#1 zaM f fd/\y2 K fd [4#1] []/\mg 34#1 =some 8#3
 take_told: ∃f fd,zS K 51#1 51#1 zaN f fd/\y2 K fd ["word",4#1] []/\mg 51#1 =some 8#3
 take_bag: ∃f fd,zS K 71#1 71#1 zaJ f fd/\y2 K fd [4#1] []/\mg 71#1 =some 8#3
 take_words: ∃f fd,zS K 33#1 33#1 zaO f fd/\y2 K fd [4#1] []/\mg 33#1 =some 8#3
 take_row: ∃f fd,zS K 70#1 70#1 zaL f fd/\y2 K fd ["kind",4#1] []/\mg 70#1 =some 8#3
 take_deed: ∃f fd,zS K 52#1 52#1 zaK f fd/\y2 K fd ["kind",4#1] []/\mg 52#1 =some 8#3
 «show_term»: ∃f fd,zS K 44#1 44#1 gO f fd/\y2 K fd ["term"] []/\mg 44#1 =some 8#3
 bracketed: ∃f fd,zS K 57#1 57#1 za8 f fd/\y2 K fd ["parts"] []/\mg 57#1 =some 8#3
 «show»: ∃f fd,zS K "show" "show" gM f fd/\y2 K fd ["program"] []/\mg "show" =some 8#3
 show_shelf: ∃f fd,zS K 35#1 35#1 zaI f fd/\y2 K fd [30#1] []/\mg 35#1 =some 8#3
 show_row: ∃f fd,zS K 65#1 65#1 dW f fd/\y2 K fd ["row"] []/\mg 65#1 =some 8#3
 _law_feed: ∃f fd,zS K 61#1 61#1 za1 f fd/\y2 K fd [8#1,41#1] []/\mg 61#1 =some 8#3
 _law_next: ∃f fd,zS K 60#1 60#1 za2 f fd/\y2 K fd [0#1,27#1] []/\mg 60#1 =some 8#3
 _law_one: ∃f fd,zS K 74#1 74#1 za4 f fd/\y2 K fd [0#1,21#1] []/\mg 74#1 =some 8#3
 _law_word: ∃f fd,zS K 58#1 58#1 dG f fd/\y2 K fd [0#1] []/\mg 58#1 =some 8#3
 _law_number: ∃f fd,zS K 26#1 26#1 za3 f fd/\y2 K fd [0#1,"_law_most"] []/\mg 26#1 =some 8#3
 _law_term: ∃f fd,zS K 45#1 45#1 dF f fd/\y2 K fd [0#1,3#1,"_law_told","_law_room","_law_deep"] []/\mg 45#1 =some 8#3
 _law_deed: ∃f fd,zS K 62#1 62#1 za0 f fd/\y2 K fd [0#1,3#1] []/\mg 62#1 =some 8#3
 _law_row: ∃f fd,zS K 73#1 73#1 za5 f fd/\y2 K fd [0#1,3#1] []/\mg 73#1 =some 8#3
 _law_shelf: ∃f fd,zS K 40#1 40#1 kL f fd/\y2 K fd [0#1,3#1] []/\mg 40#1 =some 8#3
 _law_program: ∃f fd,zS K 24#1 24#1 jT f fd/\y2 K fd [8#1,"_law_at"] []/\mg 24#1 =some 8#3
 _law_shown_term: ∃f fd,zS K 12#1 12#1 dE f fd/\y2 K fd [6#1] []/\mg 12#1 =some 8#3
 _law_shown_row: ∃f fd,zS K 15#1 15#1 za6 f fd/\y2 K fd [7#1] []/\mg 15#1 =some 8#3
 _law_rows: ∃f fd,zS K 59#1 59#1 jU f fd/\y2 K fd [2#1] []/\mg 59#1 =some 8#3
 _law_alike: ∃f fd,zS K 42#1 42#1 zaz f fd/\y2 K fd [49#1,"_law_due"] []/\mg 42#1 =some 8#3
 _law_terms: ∃f fd,zS K 39#1 39#1 gJ f fd/\y2 K fd [2#1] []/\mg 39#1 =some 8#3
 WIDE: ∃t,mg "WIDE" =some (.int 4294967296 t)
 LONGEST: ∃t,mg "LONGEST" =some (.int 8 t)
 FIGURES_AT_MOST: ∃t,mg "FIGURES_AT_MOST" =some (.int 10 t)
 FIGURES_IN_BAGS: ∃t,mg "FIGURES_IN_BAGS" =some (.int 9 t)
 MOST_BRACKETS: ∃t,mg "MOST_BRACKETS" =some (.int 20 t)
 LETTERS: ∃t,mg "LETTERS" =some (.str 13#1 t)
 FIGURES: ∃t,mg "FIGURES" =some (.str "0123456789" t)
 OPS: ∃a,mg "OPS" =some (.ref a)/\zb7 K a [.str "+",.str "-",.str "*",.str "<",.str "="]
 THREE: ∃a,mg "THREE" =some (.ref a)/\zb7 K a [.str "was",.str "mine",.str "yours"]
 PXs: ∃C I fi A fa T ft K9 fk E fe W fw N fn M fm,PX K mg C I fi A fa T ft K9 fk E fe W fw N fn M fm
local macro_rules | `(tactic| simp_all? only[$ts,*])=> `(tactic| ((try dsimp[rG]);repeat(simp only[cB,ziY,zj4,zjv,zjw,zjx,Nat.reduceAdd,Nat.reduceSub,Nat.reduceLT,Nat.reduceLeDiff,Int.reduceLT,Int.reduceLE,Int.reducePow,Int.reduceNeg,Int.reduceMul,Int.reduceAdd,Int.reduceSub,Int.reduceToNat,$ts,*];(try dsimp[rG]))))
local macro_rules | `(tactic| simp? only[$ts,*])=> `(tactic| ((try dsimp);repeat(simp only[cB,ziY,zj4,zjv,zjw,zjx,Nat.reduceAdd,Nat.reduceSub,Nat.reduceLT,Nat.reduceLeDiff,Int.reduceLT,Int.reduceLE,Int.reducePow,Int.reduceNeg,Int.reduceMul,Int.reduceAdd,Int.reduceSub,Int.reduceToNat,$ts,*];(try dsimp))))
local macro_rules | `(tactic| simp?)=> `(tactic| simp? only[true_and])
local macro_rules | `(tactic| simp_all?)=> `(tactic| simp_all? only[true_and])
set_option hygiene false
local macro_rules | `(tactic| symm)=> `(tactic| (refine zJ ?_;simp? only[true_and]))
set_option hygiene true
theorem zrX:c9 10 18:=⟨2#0,2#0,2#0⟩
def xW (a b:Int):Prop:=0<=a/\0<=b/\b<=2147483647
abbrev xG (a b:Int):PO:= .lst [.int a,.int b]
def zyB:zT:=λxs st Q=> ∃(ns:List Int) (k:Int),xs= [.lst (ns.map .int),.int k]/\ns.length<=63/\0<=k/\∀a b,xW a b->Q 0#5 (st++ [xG a b])
def zyY:zT:=λxs st Q=> ∃(i:Nat) (many a b:Int),xs= [.obj i,.int many]/\st[i]?=some (xG a b)/\xW a b/\0 < many/\many < 1099511627776/\∀d a b,0<=d->d < many->xW a b->Q (.int d) 3#7
section
theorem zJ {t u:xD}{D:w5}{env:zI}{st:z7}(h:t {D with nx:=u D} env st):rG t u D env st:=h
theorem zfF {tc:xL}{t u:xD}{D:w5}{env:zI}{st:z7}{b:Bool}(h: ∀Q,tc env st Q=Q b st)(k:if b=true then t D env st else u D env st):c7 tc t u D env st:=by
 show tc env st _;rw[h];exact k
abbrev W9:=zC
abbrev sv (w:W9):PV:= .str (zA w)
theorem lit {x:Str}{v:W9}(h:x=zA v:=by decide+kernel)(w:W9):(zA w==x)=decide (w=v):=by
 subst h;by_cases e:w=v
 ·subst e;rw[decide_eq_true rfl];exact beq_self_eq_true _
 ·rw[decide_eq_false e];exact beq_eq_false_iff_ne.mpr λz=>e (zi2 z)
abbrev y7 (C dx:aa)(ws:List W9)(k:Nat):PO:= .ins C dx [(4#1,.lst (ws.map sv)),("place",.int k)]
theorem bR:(2000000:Nat)<=am:=by rw[iz];decide
def zO (told:Bool):yH->PV
 | .lf w=>if told&&vM.contains w then .tup [sv w]else if !told&&y1 w then .tup [.str 30#1,sv w]else .tup [.str "num",.int (vR w)]
 | .op h a b=> .tup [.str "op",sv h,zO told a,zO told b]
 | .if3 a b c=> .tup [.str "if",zO told a,zO told b,zO told c]
 | .fl h ws=> .tup (sv h::ws.map sv)
def zzb:zT:=λxs st Q=> ∃w:W9,xs= [sv w]/\w.length<=1000000/\Q (.bl (y1 w)) st
def p1:List W9->Option (W9×List W9)
 | []=>none
 | w::r=>some (w,r)
def pc:List W9->Option (Unit×List W9)
 | []=>none
 | w::r=>if w= [41]then some ((),r)else none
def zy9 (C:aa):zT:=λxs st Q=> ∃(i:Nat) (dx:aa) (ws:List W9) (k:Nat),xs= [.obj i]/\st[i]?=some (y7 C dx ws k)/\ws.length<=1000000/\Q (.bl (decide (k=ws.length))) st
def zyF (C:aa):zT:=λxs st Q=> ∃(i:Nat) (dx:aa) (x:W9),xs= [.obj i,sv x]/\st[i]?=some (.ins C dx [])/\x.length<=300000/\Q .non (st.set i (y7 C dx (vO (wO x)) 0))
def gL (d:Nat):zT:=λxs st Q=> ∃(told:Bool) (t:yH),xs= [zO told t]/\vL told false t/\xT t < d/\(zQ t).length<=300000/\Q (sv (zQ t)) st
theorem zaD {K:Frag}{vs:List V}{H:Hp}{Q:VK}{E:XK}(h:yF K (gL 0) vs H Q E):False:=by
 obtain⟨_,_,_,_,_,_,⟨_,_,_,_,z,_⟩,_⟩:=h;exact absurd z (tw _)
def zyC:zT:=λxs st Q=> ∃ws:List W9,xs= [.lst (ws.map sv)]/\ws.length<=10/\(∀w∈ws,w.length<=300000)/\Q (sv (40::(yS ws++ [41]))) st
theorem zs5 {α:Type}{f:PV->Option PV}{g h:α->PV}(l:List α)(e: ∀x,f (g x)=some (h x)):(l.map g).filterMap f=l.map h:=by
 induction l with
 | nil=>rfl
 | cons x l ih=>rw[cc,jk,e x,ih];rfl
theorem zy3 (w:W9):pC (zA w)=w.map λc=>PV.str ⟨#[c]⟩:=by unfold pC;rw[tS]
theorem zsX {x:Str}{l:W9}(h:x=zA l)(c:Nat):(!(Builtin.Str.occurrences x ⟨#[c]⟩ 0 x.length 1).isEmpty)=decide (c∈l):=by subst h;exact zq9 l c
theorem zlW {i j:Str}{st:z7}{Q:K3} :sN false (.str i) (.str j) st Q=Q (.bl (!(Builtin.Str.occurrences j i 0 j.length 1).isEmpty)) st:=rfl
def inF (x:Str):PV->Option PV
 | .str z=>some (.bl (!(Builtin.Str.occurrences x z 0 x.length 1).isEmpty))
 | _=>none
def ziB:W9:= [97,98,99,100,101,102,103,104,105,106,107,108,109,110,111,112,113,114,115,116,117,118,119,120,121,122]
def zhM:W9:= [48,49,50,51,52,53,54,55,56,57]
theorem zmw (c:Nat):decide (c∈ziB)=m9 c:=
 (decide_eq_decide.mpr ((wo (s:=97) (n:=26)).trans (and_congr_right λ_=>xi))).trans (xj _ _)
theorem zs3 (c:Nat):decide (c∈zhM)=uC c:=
 (decide_eq_decide.mpr ((wo (s:=48) (n:=10)).trans (and_congr_right λ_=>xi))).trans (xj _ _)
theorem zmv:(13#1 :Str)=zA ziB:=1#0
theorem zs2:("0123456789" :Str)=zA zhM:=1#0
theorem zlU {x:Str}{l w:W9}{p:Nat->Bool}(h:x=zA l)(hp: ∀c,decide (c∈l)=p c):(pC (zA w)).filterMap (inF x)=(w.map p).map PV.bl:=by
 rw[zy3,zs5 w (h:=λc=>PV.bl (p c)) λc=> ?_,dm]
 ·rfl
 ·show some (PV.bl _)=_
  rw[zsX h,hp]
theorem ziF {w:W9}{p:Nat->Bool} :((w.map p).all id)=w.all p:=by rw[lg];rfl
theorem zbA {w:W9}{n:Nat}(h:w.length<=n)(hn:n<=2000000:=by decide):(zA w).length<=am:=by rw[yV];have:=bR;grobner
theorem zlJ {ws:List W9}{k:Nat}(h:k < ws.length): ∃w,ws[k]?=some w/\ws.drop k=w::ws.drop (k+1)/\atI (ws.map sv) (k:Int)=some (sv w):=by
 refine⟨ws[k],bn h,rm h,?_⟩;exact qM (j:=k) (by rw[dv,bn h];rfl)
theorem lN {ws:List W9}{k:Nat}(h:k<=ws.length):k=ws.length↔ws.drop k= []:=by rw[List.drop_eq_nil_iff];grobner
theorem lkP {a b:PV} :List.lookup (4#1 :Str) [((4#1 :Str),a),("place",b)]=some a:=by
 rw[gc,show((4#1 :Str)== 4#1)=true from beq_self_eq_true _]
theorem lkL {a b:PV} :List.lookup ("place" :Str) [((4#1 :Str),a),("place",b)]=some b:=by
 rw[gc,show(("place" :Str)== 4#1)=false by decide+kernel,gc,show(("place" :Str)== "place")=true from beq_self_eq_true _]
theorem lkN {m:Str}{a b:PV}(h1:(m== 4#1)=false)(h2:(m== "place")=false):List.lookup m [((4#1 :Str),a),("place",b)]=none:=by
 rw[gc,h1,gc,h2];rfl
theorem xP {C dx:aa}{i:Nat}{st:z7}{ws:List W9}{k:Nat}{m:Str}(h:st[i]?=some (y7 C dx ws k))(h1:(m== 4#1)=false:=by decide+kernel)(h2:(m== "place")=false:=by decide+kernel):mR C m (.obj i) st:=⟨_,_,_,mQ h,lkN h1 h2⟩
theorem zxa {C dx:aa}{ws:List W9}{k:Nat}{j:Int}{k':Nat}(h:j=k'):PO.ins C dx (qY "place" (.int j) [(4#1,.lst (ws.map sv)),("place",.int k)])=y7 C dx ws k':=by
 subst h;unfold qY;rw[if_neg 1#0];unfold qY;rw[if_pos rfl]
theorem zU {st:z7}{i:Nat}{o o':PO}(h:st[i]?=some o):(st.set i o')[i]?=some o':=df (ba.mp h).1
theorem iV {w:W9}(h:tH w=true):w≠ []/\w.length<=10/\w.all uC=true:=by
 unfold tH at h;simp only[bv,decide_eq_true_eq]at h;exact⟨λz=>by rw[z]at h;exact absurd h.1.1.1 3#0,h.1.1.2,h.2⟩
theorem hJ (w:W9): ∀l:List W9,lS (sv w) (l.map sv)=l.contains w
 | []=>rfl
 | a::l=>by
  have e:yO (sv a) (sv w)=(w==a):=by
   show(zA a==zA w)=_;rw[lit (v:=w) rfl a];by_cases h:a=w
   ·subst h;rw[decide_eq_true rfl];exact(beq_self_eq_true _).symm
   ·rw[decide_eq_false h];exact(beq_eq_false_iff_ne.mpr (dh h)).symm
  rw[cc,List.contains_cons,<- hJ w l,<- e]
  rfl
theorem zz2: [PV.str "was",.str "mine",.str "yours"]=vM.map sv:=by
 rw[show("was" :Str)=zA [119,97,115] by decide+kernel,show("mine" :Str)=zA [109,105,110,101] by decide+kernel,show("yours" :Str)=zA [121,111,117,114,115] by decide+kernel]
 rfl
theorem zvU: [PV.str "+",.str "-",.str "*",.str "<",.str "="]=([[43],[45],[42],[60],[61]]:List W9).map sv:=by
 rw[show("+" :Str)=zA [43] by decide+kernel,show("-" :Str)=zA [45] by decide+kernel,show("*" :Str)=zA [42] by decide+kernel,show("<" :Str)=zA [60] by decide+kernel,show("=" :Str)=zA [61] by decide+kernel]
 rfl
theorem aL {z:Str}{ys:List PV}{st:z7}{Q:K3} :sN false (.str z) (.tup ys) st Q=((sJ (.str z)=true/\ys.all sJ=true)/\Q (.bl (lS (.str z) ys)) st):=rfl
theorem zto {z:Str}{ys:List PV}{st:z7}{Q:K3} :sN false (.str z) (.lst ys) st Q=((sJ (.str z)=true/\ys.all sJ=true)/\Q (.bl (lS (.str z) ys)) st):=rfl
theorem ztq {w:W9}{st:z7}{Q:K3} :sN false (sv w) (.tup [.str "was",.str "mine",.str "yours"]) st Q=Q (.bl (vM.contains w)) st:=by
 rw[aL,zz2,hJ];exact propext ⟨λh=>h.2,λh=>⟨⟨rfl,by rw[lg];rfl⟩,h⟩⟩
theorem ztp {w:W9}{st:z7}{Q:K3} :sN false (sv w) (.tup [.str "+",.str "-",.str "*",.str "<",.str "="]) st Q=Q (.bl (tT w)) st:=by
 rw[aL,zvU,hJ];exact propext ⟨λh=>h.2,λh=>⟨⟨rfl,by rw[lg];rfl⟩,h⟩⟩
theorem bQ {w:W9} :uK true w=(m8 w||vM.contains w):=rfl
theorem bP {w:W9} :uK false w=(m8 w||y1 w):=rfl
theorem l40 (w:W9):(zA w==("(" :Str))=decide (w= [40]):=lit (v:= [40]) 1#0 w
theorem l41 (w:W9):(zA w==(")" :Str))=decide (w= [41]):=lit (v:= [41]) 1#0 w
theorem lif (w:W9):(zA w==("if" :Str))=decide (w=xZ):=lit (v:=xZ) 1#0 w
theorem zm0 (w:W9):(zA w==("many" :Str))=decide (w=w9):=lit (v:=w9) 1#0 w
theorem ztZ (w:W9):(zA w==("long" :Str))=decide (w=w6):=lit (v:=w6) 1#0 w
theorem zoQ (w:W9):(vO w).length<=w.length+1:=by
 induction w with
 | nil=>exact aq _
 | cons c r ih=>
  rw[b7]
  split
  ·rw[ao,ao];grobner
  ·split
   ·simp
   ·rename_i x l e;rw[e]at ih;rw[ao]at ih⊢;rw[ao];grobner
theorem zoR (w:W9): ∀x∈vO w,x.length<=w.length:=by
 induction w with
 | nil=>intro x hx;rw[au.mp hx];exact aq _
 | cons c r ih=>
  intro x hx;rw[b7]at hx
  split at hx
  ·rcases ar.mp hx with rfl | hx
   ·simp
   ·have:=ih x hx;rw[ao];grobner
  ·split at hx
   ·rw[au.mp hx];simp
   ·rename_i y l e
    rw[e]at ih;rcases ar.mp hx with rfl | hx
    ·have:=ih y 3#0;rw[ao,ao];grobner
    ·have:=ih x (bc _ hx);rw[ao];grobner
theorem zzf (w:W9):(Txt.split (zA w) " ").map PV.str=(vO w).map sv:=by
 rw[show(" " :Str)=⟨#[32]⟩ by decide+kernel,zqM,tS,dm]
 rfl
theorem k6 {C dx:aa}{ws:List W9} :PO.ins C dx (qY "place" (.int 0) (qY 4#1 (.lst (ws.map sv)) []))=y7 C dx ws 0:=by
 have ne: ¬ ((4#1 :Str)= "place"):=1#0
 simp only[qY,if_neg ne]
 rfl
theorem zhu {st:z7}{i:Nat}{o:PO}(h:st[i]?=some o):st.set i o=st:=by
 refine rb λj=> ?_;by_cases e:i=j
 ·subst e;rw[zU h,h]
 ·rw[ge e]
theorem znv (f:List W9->Option (yH×List W9))(k:Nat)(r:List W9):uX f (k+1) r=match f r with | none=>none | some p=>(match uX f k p.2 with | none=>none | some q=>some (p.1::q.1,q.2)):=rfl
theorem zgp {f:List W9->Option (yH×List W9)} : ∀{k:Nat} {r:List W9} {ts:List yH} {r':List W9},uX f k r=some (ts,r')->ts.length=k
 | 0,r,ts,r',h=>by cases h;rfl
 | k+1,r,ts,r',h=>by
  rw[znv]at h;cases e1:f r with
  | none=>rw[e1]at h;cases h
  | some p=>
   rw[e1]at h;dsimp only at h;cases e2:uX f k p.2 with
   | none=>rw[e2]at h;cases h
   | some q=>rw[e2]at h;cases h;rw[ao,zgp e2]
theorem tV {told:Bool}(t:yH):xJ (zO told t)=true:=by
 cases t <;> unfold zO <;> (try split) <;> (try split) <;> rfl
theorem zcb {m:Nat}{Q:K3}{x:PV}{s:z7}(h:xJ x=true):wX m Q x s=Q x (s.take m):=by
 cases x <;> first | rfl | cases h
theorem fX {m:Nat}{Q:K3}{told:Bool}{t:yH}{s:z7} :wX m Q (zO told t) s=Q (zO told t) (s.take m):=zcb (tV t)
theorem aO (ws:List W9):Txt.join " " (ws.map zA)=zA (yS ws):=by
 unfold Txt.join;rw[lj,show(" " :Str)=zA [32] by decide+kernel]
 induction ws with
 | nil=>rfl
 | cons a r ih=>
  cases r with
  | nil=>rfl
  | cons b r=>
   show zA a++zA [32]++Str.join (zA [32]) ((b::r).map zA)=_;rw[ih,wH,wH,uL a 3#0];simp
theorem gP {ws:List W9}{n:Nat}(h: ∀w∈ws,w.length<=n):((ws.map zA).map (·.length)).sum<=ws.length * n:=by
 induction ws with
 | nil=>simp
 | cons a r ih=>
  have h1:=h a (ax ..);have h2:=ih λw hw=>h w (bc _ hw);rw[cc,cc,List.sum_cons,ao,ml,yV];grobner
theorem lU (ws:List W9):ws.map sv=(ws.map zA).map PV.str:=by rw[dm];rfl
theorem kQ {w:W9}(h:vM.contains w=true){x:Str}{v:W9}(e:x=zA v)(n:vM.contains v=false):(zA w==x)=false:=by
 rw[lit (v:=v) e,decide_eq_false];intro z;rw[z,n]at h;cases h
theorem zjq {d:Nat}{told:Bool}{Q:List PV->z7->Prop}{e0:PV}{st:z7}{ts:List yH}(h: ∀t∈ts,vL told false t/\xT t < d/\(zQ t).length<=300000)(q:Q (ts.map λt=>sv (zQ t)) st):
  qF 1 (gN 1) i4 (tX (gL d) (tO (tP 1) oH)) none (ts.map (zO told)) Q [some e0] st:=by
 refine⟨λi ys env s=> ∃v:Option PV,ys=(ts.take i).map (λt=>sv (zQ t))/\env= [some e0,v]/\s=st,⟨none,rfl,rfl,rfl⟩,?_,?_⟩
 ·rintro i x ys env s hx ⟨v,rfl,rfl,rfl⟩
  obtain⟨t,ht,rfl⟩:=tL hx;obtain⟨h1,h2,h3⟩:=h t (bf ht);refine⟨told,t,rfl,h1,h2,h3,rfl,_,?_,rfl,rfl⟩;rw[qC ht,ay];rfl
 ·rintro ys env s ⟨v,rfl,rfl,rfl⟩
  rw[ah,bq (aq _)];exact q
theorem zlV {w:W9}{st:z7}{Q:K3} :sN false (sv w) (.tup [.str "many",.str "long"]) st Q=Q (.bl ([w9,w6].contains w)) st:=by
 rw[aL,show [PV.str "many",PV.str "long"]=([w9,w6]:List W9).map sv by rw[show("many" :Str)=zA w9 by decide+kernel,show("long" :Str)=zA w6 by decide+kernel];rfl,hJ];exact propext ⟨λh=>h.2,λh=>⟨⟨rfl,by rw[lg];rfl⟩,h⟩⟩
theorem aV:("(" :Str)=zA [40]:=1#0
theorem zax:(")" :Str)=zA [41]:=1#0
def tl (n:Nat):PV->Bool
 | .str x=>decide (x.length<=n)
 | _=>false
abbrev zqU (ys:List PV)(i:Nat)(st:z7)(Q:K3):Prop:=ys≠ []/\ys.length<=1000/\ys.all xJ=true/\∀y∈ys,∀a b,xW a b->Q y 3#7
theorem ziK {ys:List PV}{d:Int}(h0:0<=d)(h1:d < ys.length): ∃y∈ys,atI ys d=some y:=by
 obtain⟨n,rfl⟩:=fg h0;have hn:n < ys.length:=0#0
 exact⟨ys[n],lm hn,qM (j:=n) (bn hn)⟩
theorem lJ {T:zE}{g:wP}{D:w5}{env:zI}{st:z7}(Post:PV->z7->Prop)(h: ∀Q:K3,(∀x s,Post x s->Q x s)->T env st Q)(k: ∀x s,Post x s->nV (vC x) g D env s):nV T g D env st:=h _ λx s hx=>k x s hx
theorem zua (w:W9):(zA w==("" :Str))=decide (w= []):=lit (v:= []) 1#0 w
def dS:zT:=λxs st Q=> ∃ns:List Int,xs= [.lst (ns.map PV.int)]/\st= []/\ns.length<=63/\Q (.bl true) []
theorem xU {s:z7}{o:PO} :(s++ [o])[s.length]?=some o:=by rw[dg (aq _),jc];rfl
theorem u7 {s:z7}{o o':PO} :(s++ [o]).set s.length o'=s++ [o']:=by rw[ur (h:=aq _),jc];rfl
def kO (C:aa)(ys:List PV){α:Type}(f:List W9->Option (α×List W9))(g:α->PV):zT:=λxs st Q=> ∃(i:Nat) (dx:aa) (ws:List W9) (k:Nat) (t:α) (r:List W9),xs= .obj i::ys/\st[i]?=some (y7 C dx ws k)/\ws.length<=1000000/\(∀w∈ws,w.length<=1000000)/\k<=ws.length/\
 f (ws.drop k)=some (t,r)/\∀k',ws.drop k'=r->k'<=ws.length->Q (g t) (st.set i (y7 C dx ws k'))
def zyJ:zT:=λxs st Q=> ∃(w:W9) (m:Int),xs= [sv w,.int m]/\tH w=true/\(w.length:Int)<=m/\Q (.bl true) st
def zoJ:zT:=λxs st Q=> ∃(w:W9) (lo hi:Int),xs= [sv w,.int lo,.int hi]/\tH w=true/\lo<=(vR w:Int)/\(vR w:Int)<=hi/\Q (.int (vR w)) st
def zyL:zT:=λxs st Q=> ∃(w:W9) (told:Bool),xs= [sv w,.bl told]/\w.length<=1000000/\uK told w=true/\Q (zO told (.lf w)) st
def zoL (C:aa):zT:=λxs st Q=> ∃(i:Nat) (dx:aa) (ws:List W9) (k:Nat),xs= [.obj i]/\st[i]?=some (y7 C dx ws k)/\ws.length<=1000000/\k=ws.length/\Q .non st
def zyX (C:aa):zT:=λxs st Q=> ∃(lo hi:Int),kO C [.int lo,.int hi] (λl=>match l with | []=>none | w::r=>if tH w=true/\lo<=(vR w:Int)/\(vR w:Int)<=hi then some (w,r)else none) (λw=> .int (vR w)) xs st Q
def fO (i:Int):Bool:=Txt.startswith (zA (y3 i)) "-" ==decide (i < 0)
def zyW (C:aa):zT:=λxs st Q=> ∃n:Int,kO C [] (λl=>match l with | []=>none | w::r=>if lB n=true/\fO n=true/\w=y3 n then some (w,r)else none) (λ_=> .int n) xs st Q
def zoN (C:aa)(told:Bool)(n:Nat):zT:=kO C [.bl told,.int (20 - (n:Int))] (uD told n) (zO told)
def zyV (C:aa)(told:Bool)(n:Nat):zT:=kO C [.bl told,.int (20 - (n:Int))] (iH told (uD told n)) (zO told)
def zoM (C:aa)(told:Bool)(n:Nat):zT:=λxs st Q=> ∃m:Nat,m<=3/\kO C [.bl told,.int (20 - (n:Int)),.int m] (uX (uD told n) m) (λts=> .tup (ts.map (zO told))) xs st Q
theorem zvV {l:List W9}{w:W9}{r:List W9}(h:p1 l=some (w,r)):l=w::r:=by
 cases l with
 | nil=>cases h
 | cons a b=>cases h;rfl
theorem zwd {l:List W9}{r:List W9}(h:pc l=some ((),r)):l= [41]::r:=by
 cases l with
 | nil=>cases h
 | cons a b=>
  by_cases z:a= [41]
  ·rw[show pc (a::b)=some ((),b)from if_pos z]at h;cases h;rw[z]
  ·rw[show pc (a::b)=none from if_neg z]at h;cases h
theorem zrv:((List.range 199).all λk=>fO ((k:Int) - 99))=true:=1#0
theorem zrw {i:Int}(h1: -100 < i)(h2:i < 100):fO i=true:=by
 have:=dk.mp zrv (i+99).toNat (ou.mpr 0#0)
 rwa [show(((i+99).toNat:Nat):Int) - 99=i by grobner]at this
theorem bO {i:Int}(h:lB i=true):PySem.intText? (zA (y3 i))=some i/\tH (qI i)=true/\(qI i).length<=9/\qI i≠ [48]/\(y3 i).length<=10:=by
 unfold lB at h;simp only[bv,decide_eq_true_eq]at h;obtain⟨⟨⟨⟨⟨h1,h2⟩,h3⟩,h4⟩,h5⟩,h6⟩:=h;refine⟨h1,h3,h4,h5,?_⟩;unfold qI at h4
 split at h4
 ·rw[ic]at h4;grobner
 ·grobner
theorem l48 (w:W9):(zA w==("0" :Str))=decide (w= [48]):=lit (v:= [48]) 1#0 w
theorem zvX {told:Bool}{f:List W9->Option (yH×List W9)}{l:List W9}{t:yH}{r1:List W9}(e:iH told f l=some (t,r1)): ∃h r,l=h::r/\((tT h=true/\∃a b,uX f 2 r=some ([a,b],r1)/\t= .op h a b)∨(h=xZ/\∃a b c,uX f 3 r=some ([a,b,c],r1)/\t= .if3 a b c)∨
  (h=w9/\told=false/\∃x y r2,tI r=some (x,r2)/\tI r2=some (y,r1)/\t= .fl h [x,y])∨(h=w6/\told=false/\∃x,tI r=some (x,r1)/\t= .fl h [x])):=by
 cases l with
 | nil=>cases e
 | cons h r=>
  refine⟨h,r,rfl,?_⟩;rw[f9]at e;by_cases ho:tT h=true
  ·rw[if_pos ho]at e
   refine .inl ⟨ho,?_⟩;cases ep:uX f 2 r with
   | none=>rw[ep]at e;cases e
   | some p=>
    obtain⟨ts,r2⟩:=p;obtain⟨a,b,rfl⟩:=ztO (zgp ep);rw[ep]at e;cases e;exact⟨a,b,rfl,rfl⟩
  rw[if_neg ho]at e;by_cases hf:h=xZ
  ·rw[if_pos hf]at e
   refine .inr (.inl ⟨hf,?_⟩);cases ep:uX f 3 r with
   | none=>rw[ep]at e;cases e
   | some p=>
    obtain⟨ts,r2⟩:=p;obtain⟨a,b,c,rfl⟩:=zmt (zgp ep);rw[ep]at e;cases e;exact⟨a,b,c,rfl,rfl⟩
  rw[if_neg hf]at e;by_cases hM:h=w9/\told=false
  ·rw[if_pos hM]at e
   refine .inr (.inr (.inl ⟨hM.1,hM.2,?_⟩));cases ep:tI r with
   | none=>rw[ep]at e;cases e
   | some p=>
    obtain⟨x,r2⟩:=p;rw[ep]at e;dsimp only at e;cases ep2:tI r2 with
    | none=>rw[ep2]at e;cases e
    | some p2=>
     obtain⟨y,r3⟩:=p2;rw[ep2]at e;cases e;exact⟨x,y,r2,rfl,ep2,rfl⟩
  rw[if_neg hM]at e;by_cases hL:h=w6/\told=false
  ·rw[if_pos hL]at e
   refine .inr (.inr (.inr ⟨hL.1,hL.2,?_⟩));cases ep:tI r with
   | none=>rw[ep]at e;cases e
   | some p=>
    obtain⟨x,r2⟩:=p;rw[ep]at e;cases e;exact⟨x,rfl,rfl⟩
  rw[if_neg hL]at e;cases e
theorem zvW {o:Option (yH×List W9)}{t:yH}{r:List W9}(e:f8 o=some (t,r)):o=some (t,[41]::r):=by
 cases o with
 | none=>cases e
 | some p=>
  obtain⟨t',l⟩:=p;cases l with
  | nil=>cases e
  | cons w l=>
   by_cases hw:w= [41]
   ·rw[show f8 (some (t',w::l))=some (t',l)from if_pos hw]at e;cases e;rw[hw]
   ·rw[show f8 (some (t',w::l))=none from if_neg hw]at e;cases e
theorem znw {told:Bool}{n:Nat}{l:List W9}{t:yH}{r':List W9}(e:uD told n l=some (t,r')): ∃w r,l=w::r/\((w≠ [40]/\uK told w=true/\t= .lf w/\r'=r)∨(w= [40]/\∃n',n=n'+1/\iH told (uD told n') r=some (t,[41]::r'))):=by
 cases l with
 | nil=>cases n <;> cases e
 | cons w r=>
  refine⟨w,r,rfl,?_⟩;cases n with
  | zero=>
   rw[zi7]at e;by_cases h4:w= [40]
   ·rw[if_pos h4]at e;cases e
   ·rw[if_neg h4]at e
    by_cases hb:uK told w=true
    ·rw[if_pos hb]at e;cases e;exact .inl ⟨h4,hb,rfl,rfl⟩
    ·rw[if_neg hb]at e;cases e
  | succ n=>
   rw[iJ]at e;by_cases h4:w= [40]
   ·rw[if_pos h4]at e;exact .inr ⟨h4,n,rfl,zvW e⟩
   ·rw[if_neg h4]at e
    by_cases hb:uK told w=true
    ·rw[if_pos hb]at e;cases e;exact .inl ⟨h4,hb,rfl,rfl⟩
    ·rw[if_neg hb]at e;cases e
def zyN:zT:=λxs st Q=> ∃(x:W9) (told:Bool) (t:yH),xs= [sv x,.bl told]/\x.length<=300000/\b6 told x=some t/\Q (zO told t) st
theorem aH {P:br}{w:bz}{K:Frag}{mg:Str->Option ad}{base:cf}{CX:tY}{k:Nat}{f:aa}{fd:bh}{ps:List Str}{S:Bool->zT}(F: ∀b,yK P w K mg base CX k f fd ps (yF K (S b))):yK P w K mg base CX k f fd ps (yF K λxs st Q=> ∃b,S b xs st Q):=
 ⟨λvs H Q E ⟨A,st,xs,Q3,h1,h2,⟨b,h3⟩,h4⟩=>(F b).len vs H Q E ⟨A,st,xs,Q3,h1,h2,h3,h4⟩,λA outer s H args us vs Q E hr he hb hv ⟨A0,st,xs,Q3,h1,h2,⟨b,h3⟩,h4⟩=>(F b).run A outer s H args us vs Q E hr he hb hv ⟨A0,st,xs,Q3,h1,h2,h3,h4⟩⟩
def vD:u9->PV
 | .tm h w t=> .tup [sv h,sv w,zO false t]
 | .io h w w'=> .tup [sv h,sv w,sv w']
 | .lay w t w'=> .tup [.str "lay",sv w,zO false t,sv w']
 | .tell t=> .tup [.str "tell",zO false t]
def hdD:u9->W9
 | .tm h _ _=>h
 | .io h _ _=>h
 | .lay _ _ _=>rL
 | .tell _=>rM
def kR:u9->List W9
 | .tm _ w t=>w::yL t
 | .io _ w w'=> [w,w']
 | .lay w t w'=>w::(yL t++ [w'])
 | .tell t=>yL t
theorem zpn (d:u9):wG (wF d)=hdD d::kR d:=by
 cases d <;> simp[wG,wF,lC,hdD,kR]
def w4:wR->PV
 | .sj h w=> .tup [sv h,sv w]
 | .wh g d=> .tup [.str "when",zO false g,vD d]
 | .de d=>vD d
def iY:wR->W9
 | .sj h _=>h
 | .wh _ _=>tB
 | .de d=>hdD d
def tlR:wR->List W9
 | .sj _ w=> [w]
 | .wh g d=>yL g++(hdD d::kR d)
 | .de d=>kR d
theorem zz4 (r:wR):wG (xN r)=iY r::tlR r:=by
 cases r with
 | sj h w=>rfl
 | wh g d=>show [tB]++wG (.t false g::wF d)=_;rw[cW,zpn];rfl
 | de d=>exact zpn d
abbrev spK (C:aa)(hd:W9)(tl:List W9)(v:PV):zT:=λxs st Q=> ∃(i:Nat) (dx:aa) (ws:List W9) (k:Nat) (r:List W9),xs= [sv hd,.obj i]/\st[i]?=some (y7 C dx ws k)/\ws.length<=1000000/\(∀w∈ws,w.length<=1000000)/\k<=ws.length/\ws.drop k=tl++r/\∀k',ws.drop k'=r->k'<=ws.length->Q v (st.set i (y7 C dx ws k'))
def zyE (C:aa):zT:=λxs st Q=> ∃d,kX d/\spK C (hdD d) (kR d) (vD d) xs st Q
def zyP (C:aa):zT:=λxs st Q=> ∃r,iD r/\spK C (iY r) (tlR r) (w4 r) xs st Q
theorem aW (w:W9):(zA w==("tell" :Str))=decide (w=rM):=lit (v:=rM) 1#0 w
theorem ztY (w:W9):(zA w==("lay" :Str))=decide (w=rL):=lit (v:=rL) 1#0 w
theorem aX (w:W9):(zA w==("when" :Str))=decide (w=tB):=lit (v:=tB) 1#0 w
theorem nG {w:W9}{l:List W9}{ys:List PV}{st:z7}{Q:K3}(h:ys=l.map sv):sN false (sv w) (.tup ys) st Q=Q (.bl (l.contains w)) st:=by
 rw[aL,h,hJ];exact propext ⟨λh=>h.2,λh=>⟨⟨rfl,by rw[lg];simp[sJ]⟩,h⟩⟩
theorem ioV: [PV.str "in",.str "out"]=([pI,pJ]:List W9).map sv:=by
 rw[show("in" :Str)=zA pI by decide+kernel,show("out" :Str)=zA pJ by decide+kernel];rfl
theorem zoG: [PV.str "set",.str "more",.str "drop"]=([oP,oO,oM]:List W9).map sv:=by
 rw[show("set" :Str)=zA oP by decide+kernel,show("more" :Str)=zA oO by decide+kernel,show("drop" :Str)=zA oM by decide+kernel];rfl
theorem sjV: [PV.str "split",.str "join"]=([m7,m6]:List W9).map sv:=by
 rw[show("split" :Str)=zA m7 by decide+kernel,show("join" :Str)=zA m6 by decide+kernel];rfl
theorem nR {w:W9}{r:List W9}(h:y1 w=true):tI (w::r)=some (w,r):=if_pos h
theorem zab (d:u9):xJ (vD d)=true:=by cases d <;> rfl
theorem zmN (r:wR):xJ (w4 r)=true:=by
 cases r with
 | de d=>exact zab d
 | _=>rfl
theorem zj9 {m:Nat}{Q:K3}{d:u9}{s:z7} :wX m Q (vD d) s=Q (vD d) (s.take m):=zcb (zab d)
theorem zsY {d:u9}(v:kX d):(decide (hdD d=tB))=false/\[m7,m6].contains (hdD d)=false:=by
 cases d with
 | tm h w t=>rcases v.1 with rfl | rfl | rfl <;> exact⟨rfl,rfl⟩
 | io h w w'=>rcases v.1 with rfl | rfl <;> exact⟨rfl,rfl⟩
 | lay w t w'=>exact⟨rfl,rfl⟩
 | tell t=>exact⟨rfl,rfl⟩
theorem oX {st l:z7}{i:Nat}{o:PO}(h:i < st.length):(st.set i o++l)[i]?=some o:=by
 rw[cn (by rw[fq];exact h),df h]
theorem zht {st l:z7}{i:Nat}{o o':PO}(h:i < st.length):(st.set i o++l).set i o'=st.set i o'++l:=by
 rw[uy (h:=by rw[fq];exact h),gm]
theorem lK {st:z7}{i:Nat}{o o':PO} :(st.set i o++ [o'])[st.length]?=some o':=by
 rw[dg (by rw[fq];exact aq _),fq,jc];rfl
theorem zoB {st:z7}{i:Nat}{o o1 o2:PO} :(st.set i o++ [o1]).set st.length o2=st.set i o++ [o2]:=by
 rw[ur (h:=by rw[fq];exact aq _),fq,jc];rfl
theorem zpj {st:z7}{i:Nat}{o o1:PO} :(st.set i o++ [o1]).take st.length=st.set i o:=by
 rw[gq (by rw[fq];exact aq _),bq (by rw[fq];exact aq _)]
def zzd (C:aa):zT:=λxs st Q=> ∃(i:Nat) (dx:aa) (ws:List W9) (k:Nat),xs= [.obj i]/\st[i]?=some (y7 C dx ws k)/\ws.length<=1000000/\(∀w∈ws,w.length<=1000000)/\k<=ws.length/\(∀w∈ws.drop k,y1 w=true)/\(ws.drop k).length<=1000/\Q (.tup ((ws.drop k).map sv)) (st.set i (y7 C dx ws ws.length))
def zyZ (C:aa):zT:=λxs st Q=> ∃(w:W9) (n:Nat) (t:yH) (b:Nat) (i:Nat) (dx:aa) (ws:List W9) (k:Nat) (r:List W9),xs= [sv w,.obj i]/\2<=n/\n<=5/\b < n/\kY true t/\st[i]?=some (y7 C dx ws k)/\ws.length<=1000000/\(∀w∈ws,w.length<=1000000)/\k<=ws.length/\ws.drop k=y3 n::y3 b::(yL t++r)/\
 ∀k',ws.drop k'=r->k'<=ws.length->Q (.tup [sv w,.tup [.str 28#1,.int n,zO true t],.int b]) (st.set i (y7 C dx ws k'))
def pW (l:List (W9×Int)):List W9:=l.flatMap λp=> [p.1,y3 p.2]
def u0 (p:W9×Int):PV:= .tup [sv p.1,.int p.2]
def okB (l:List (W9×Int)):Prop:=(∀p∈l,y1 p.1=true/\p.2≠0/\ -100 < p.2/\p.2 < 100)/\l.Pairwise λa b=>a.1 < b.1
def zyA (C:aa):zT:=λxs st Q=> ∃(l:List (W9×Int)) (i:Nat) (dx:aa) (ws:List W9) (k:Nat),xs= [.obj i]/\okB l/\l.length<=1000/\st[i]?=some (y7 C dx ws k)/\ws.length<=1000000/\(∀w∈ws,w.length<=1000000)/\k<=ws.length/\ws.drop k=pW l/\Q (.tup (l.map u0)) (st.set i (y7 C dx ws ws.length))
theorem ztJ (l:List PV)(y:PV):atI (l++ [y]) (-1)=some y:=by
 unfold atI;have e:uH (l++ [y]).length (-1)=some l.length:=by unfold uH;simp;grobner
 rw[e];simp
def yT (s:xX):PV:=match s.2 with
 | .num h n=> .tup [sv s.1,.tup [sv h],.int n]
 | .bag l=> .tup [sv s.1,.tup [sv wL],.tup (l.map u0)]
 | .row l=> .tup [sv s.1,.tup [sv wY],.tup (l.map sv)]
 | .told n t b=> .tup [sv s.1,.tup [.str 28#1,.int n,zO true t],.int b]
theorem zpo (l:List (W9×Int)):wG (wZ (.bag l))=wL::pW l:=by
 show [wL]++wG (l.flatMap λp=> [.w p.1,.w (y3 p.2)])=_;have: ∀l:List (W9×Int),wG (l.flatMap λp=> [yR.w p.1,.w (y3 p.2)])=pW l:=λl=>by
  induction l with
  | nil=>rfl
  | cons p l ih=>rw[dy,zq3,ih];rfl
 rw[this];rfl
theorem zpp (l:List W9):wG (wZ (.row l))=wY::l:=by
 show [wY]++wG (l.map .w)=_;have: ∀l:List W9,wG (l.map yR.w)=l:=λl=>by
  induction l with
  | nil=>rfl
  | cons p l ih=>rw[cc,cW,ih];rfl
 rw[this];rfl
theorem zpq (n:Nat)(t:yH)(b:Nat):wG (wZ (.told n t b))=tQ::y3 n::y3 b::(yL t++ []):=by
 simp[wG,wZ,lC]
def zyS (C:aa):zT:=λxs st Q=> ∃(s:xX) (i:Nat) (dx:aa) (ws:List W9) (k:Nat),xs= [.obj i]/\cN s/\(wG (wZ s.2)).length<=1000/\st[i]?=some (y7 C dx ws k)/\ws.length<=1000000/\(∀w∈ws,w.length<=1000000)/\k<=ws.length/\ws.drop k=s.1::wG (wZ s.2)/\Q (yT s) (st.set i (y7 C dx ws ws.length))
theorem qS (w:W9):(zA w==(28#1 :Str))=decide (w=tQ):=lit (v:=tQ) 1#0 w
theorem mV (w:W9):(zA w==("bag" :Str))=decide (w=wL):=lit (v:=wL) 1#0 w
theorem g8 (w:W9):(zA w==("row" :Str))=decide (w=wY):=lit (v:=wY) 1#0 w
theorem lsV: [PV.str "last",.str "sum"]=([oN,oQ]:List W9).map sv:=by
 rw[show("last" :Str)=zA oN by decide+kernel,show("sum" :Str)=zA oQ by decide+kernel];rfl
theorem zlC: ∀l:List (W9×Int),l.length<=(pW l).length
 | []=>aq _
 | p::l=>by
  have:=zlC l;show l.length+1<=(pW l).length+1+1;grobner
def zyH:zT:=λxs st Q=> ∃l:List W9,xs= [sv (xY 10 l)]/\(∀w∈l,10∉w/\w≠ [])/\(xY 10 l).length<=1000000/\Q (.lst (l.map sv)) st
theorem zt6 {l:List W9}(h: ∀w∈l,10∉w/\w≠ [])(n:l≠ []):xY 10 l≠ []:=by
 cases l with
 | nil=>exact absurd rfl n
 | cons a r=>
  have ha:=(h a (ax ..)).2;cases r with
  | nil=>exact ha
  | cons b r=>rw[cP 10 a 3#0];intro z;exact ha (uf.mp z).1
def q5:yR->PV
 | .w x=>sv x
 | .t told t=>zO told t
theorem zfS:("lay" :Str)=zA rL:=1#0
theorem zh3:("tell" :Str)=zA rM:=1#0
theorem z0o:("when" :Str)=zA tB:=1#0
theorem zg0 (d:u9):vD d= .tup ((wF d).map q5):=by
 cases d with
 | lay w t w'=>unfold vD;rw[zfS];rfl
 | tell t=>unfold vD;rw[zh3];rfl
 | _=>rfl
def oE:wR->Nat
 | .wh _ _=>1
 | _=>0
def zhw (d:Nat):zT:=λxs st Q=> ∃r,xs= [w4 r]/\tG r/\oE r < d/\Q (sv (yU (xN r))) st
theorem zaC {K:Frag}{vs:List V}{H:Hp}{Q:VK}{E:XK}(h:yF K (zhw 0) vs H Q E):False:=by
 obtain⟨_,_,_,_,_,_,⟨_,_,_,z,_⟩,_⟩:=h;exact absurd z (tw _)
theorem znT (told:Bool)(t:yH): ∃xs,zO told t= .tup xs:=by
 cases t <;> unfold zO <;> (try split) <;> (try split) <;> exact⟨_,rfl⟩
theorem rV:(16777216:Nat)=am:=iz.symm
theorem zpL {h:W9}(n:h≠tB):(zA h==("when" :Str))=false:=by rw[aX,decide_eq_false n]
theorem zg1 {r:wR}(n:oE r=0):w4 r= .tup ((xN r).map q5):=by
 cases r with
 | sj h w=>rfl
 | wh g d=>cases n
 | de d=>exact zg0 d
theorem zny {r:wR}(v:iD r)(n:oE r=0): ∃h l,xN r= .w h::l/\h≠tB:=by
 cases r with
 | sj h w=>exact⟨_,_,rfl,by rcases v.1 with rfl | rfl <;> decide⟩
 | wh g d=>cases n
 | de d=>
  cases d with
  | tm h w t=>exact⟨_,_,rfl,by rcases v.1 with rfl | rfl | rfl <;> decide⟩
  | io h w w'=>exact⟨_,_,rfl,by rcases v.1 with rfl | rfl <;> decide⟩
  | lay w t w'=>exact⟨_,_,rfl,2#0⟩
  | tell t=>exact⟨_,_,rfl,2#0⟩
theorem aP {y:PV}{ws:List W9}{st:z7}{Q:K3}(n m:Nat)(hy:rE y st=some (ws.map sv))(hl:ws.length<=m)(hw: ∀w∈ws,w.length<=n)(hz:m * (n+1)<=16777216)(q:Q (sv (yS ws)) st):gI (.str " ") [y] st Q:=by
 refine⟨ws.map zA,by rw[<- lU];exact hy,?_,by rw[aO];exact q⟩;have h1:=gP hw;have h2:ws.length * (n+1)<=m * (n+1):=dr _ hl;rw[wc]at h2;rw[ah,show(" " :Str).length=1 by decide+kernel];grobner
theorem zrU {Q:List PV->z7->Prop}{e0:PV}{st:z7}{l:List yR}(h: ∀p∈l,s9 p)(q:Q ((l.map uB).map sv) st):
  qF 1 (gN 1) i4 (vIf (c8 (tX eZ (tO (tP 1) (tO (vC (PV.ty "str")) oH)))) (tP 1) (tX (gL 28) (tO (tP 1) oH))) none (l.map q5) Q [some e0] st:=by
 refine⟨λi ys env s=> ∃v:Option PV,ys=((l.take i).map uB).map sv/\env= [some e0,v]/\s=st,⟨none,rfl,rfl,rfl⟩,?_,?_⟩
 ·rintro i x ys env s hx ⟨v,rfl,rfl,rfl⟩
  obtain⟨p,hp,rfl⟩:=tL hx;have hz:=h p (bf hp);have up:((l.take (i+1)).map uB).map sv=((l.take i).map uB).map sv++ [sv (uB p)]:=by rw[qC hp,ay,ay];rfl
  cases p with
  | w x=>exact⟨rfl,_,up.symm,rfl,rfl⟩
  | t told t=>
   obtain⟨xs,e⟩:=znT told t;show sP none s (gN 1 (zO told t) _ s _);rw[e]
   simp_all?
   exact⟨told,t,by rw[e],hz.1,by have:=hz.2.1;grobner,by have:=hz.2.2;grobner,rfl,_,up.symm,rfl,rfl⟩
 ·rintro ys env s ⟨v,rfl,rfl,rfl⟩
  rw[ah,bq (aq _)];exact q
theorem z0p:("when " :Str)=zA (tB++ [32]):=1#0
theorem iP:(" " :Str)=zA [32]:=1#0
def zyR:zT:=λxs st Q=> ∃s,xs= [yT s]/\rO s/\Q (sv (yU (xS s))) st
def t6 (h:vG):PV:= .tup [sv h.1,.tup (h.2.map w4)]
def uQ (p:uJ):PV:= .tup [.tup (p.1.map yT),.tup (p.2.map t6)]
def zyT:zT:=λxs st Q=> ∃p,xs= [uQ p]/\tR p/\Q (sv (xY 10 (vA p))) st
theorem dP:(30#1 :Str)=zA uA:=1#0
theorem zpr:(28#1 :Str)=zA tQ:=1#0
theorem zaH {s:xX}{ys:List PV}{st:z7}{Q:K3}(sz:zb1 s)(e:ys=((xS s).map uB).map sv)(q:Q (sv (yU (xS s))) st):gI (.str " ") [.obj st.length] (st++ [PO.lst ys]) (wX st.length Q):=by
 subst e;refine aP 900 25 (by show(match(st++ [_])[st.length]? with | some (PO.lst xs)=>some xs | _=>none)=_;rw[xU]) (by rw[ah];exact sz.2) (λw hw=>by obtain⟨p,hp,rfl⟩:=bt.mp hw;exact cU (sz.1 p hp)) 2#0 ?_;show Q _ (List.take st.length (st++_));rw[jr];exact q
def j9 (l:List (W9×Int)):List PV:=l.flatMap λp=> [sv p.1,sv (y3 p.2)]
theorem zru (w:W9)(l:List (W9×Int)):PV.str 30#1 ::sv w::sv wL::j9 l=((xS (w,.bag l)).map uB).map sv:=by
 rw[dP];show _=sv uA::sv w::sv wL::((l.flatMap λp=> [yR.w p.1,.w (y3 p.2)]).map uB).map sv;have: ∀l:List (W9×Int),j9 l=((l.flatMap λp=> [yR.w p.1,.w (y3 p.2)]).map uB).map sv:=λl=>by
  unfold j9
  induction l with
  | nil=>rfl
  | cons p l ih=>rw[dy,dy,ay,ay,ih];rfl
 rw[this]
theorem g9 (i:Int):PV.str (Str.ofString (toString i))=sv (y3 i):=congrArg PV.str (cQ i)
theorem zxS (w:W9)(l:List W9):PV.str 30#1 ::sv w::sv wY::l.map sv=((xS (w,.row l)).map uB).map sv:=by
 rw[dP];show _=sv uA::sv w::sv wY::((l.map yR.w).map uB).map sv;rw[dm,dm];rfl
theorem a0 {α:Type}{n:Nat}{S:zT}{f g:α->PV}{l:List α}{Q:List PV->z7->Prop}{env:zI}{st:z7}(hn:env.length=n)(h: ∀a∈l,∀Q':K3,Q' (g a) st->S [f a] st Q')(ho: ∀a,xJ (g a)=true)(q:Q (l.map g) st):
  qF 1 (gN n) i4 (tX S (tO (tP n) oH)) none (l.map f) Q env st:=by
 refine⟨λi ys e s=> ∃v:Option PV,ys=(l.take i).map g/\e=env++ [v]/\s=st,⟨none,rfl,rfl,rfl⟩,?_,?_⟩
 ·rintro i x ys e s hx ⟨v,rfl,rfl,rfl⟩
  obtain⟨a,ha,rfl⟩:=tL hx;have eg:(env++ [v]).set n (some (f a))=env++ [some (f a)]:=by subst hn;simp
  have ev:(env++ [some (f a)])[n]?=some (some (f a)):=by subst hn;simp
  show tX S (tO (tP n) oH) ((env++ [v]).set n (some (f a))) s _;rw[eg];unfold tX tO tP oH;dsimp only;rw[ev];refine h a (bf ha) _ ⟨ho a,_,?_,rfl,rfl⟩;rw[qC ha,ay];rfl
 ·rintro ys e s ⟨v,rfl,rfl,rfl⟩
  rw[ah,bq (aq _)];exact q
theorem zuV:("\n" :Str)=⟨#[10]⟩:=1#0
theorem zmp {y:PV}{ws:List W9}{st:z7}{Q:K3}(n m:Nat)(hy:rE y st=some (ws.map sv))(hl:ws.length<=m)(hw: ∀w∈ws,w.length<=n)(hz:m * (n+1)<=16777216)(q:Q (sv (xY 10 ws)) st):gI (.str "\n") [y] st Q:=by
 refine⟨ws.map zA,by rw[<- lU];exact hy,?_,by rw[zuV,zqt];exact q⟩;have h1:=gP hw;have h2:ws.length * (n+1)<=m * (n+1):=dr _ hl;rw[wc]at h2;rw[ah,show("\n" :Str).length=1 by decide+kernel];grobner
theorem zlN:("hand " :Str)=zA (uW++ [32]):=1#0
def sO (p:uJ)(i:Nat):List W9:=p.1.map (λs=>yU (xS s))++(p.2.take i).flatMap oS
theorem zgV {p:uJ}{i:Nat}{h:vG}(e:p.2[i]?=some h):sO p (i+1)=sO p i++ [uW++32::h.1]++h.2.map (λr=>yU (xN r)):=by
 unfold sO;rw[qC e,jm];show _++(_++(oS h++ []))=_;unfold oS;rw[zik,cg];simp
theorem zo2 {p:uJ}{i:Nat}{h:vG}(e:p.2[i]?=some h):(sO p (i+1)).length=(sO p i).length+1+h.2.length:=by rw[zgV e];simp;grobner
theorem zgU {p:uJ}{i:Nat}(ok:tR p):(sO p i).length<=94:=by
 have:=cT ok;unfold vA at this;unfold sO;rw[af]at this⊢
 have h2:((p.2.take i).flatMap oS).length<=(p.2.flatMap oS).length:=by
  conv=>rhs;rw[<- List.take_append_drop i p.2,jm,af]
  exact jq _ _
 grobner
theorem rk2 (r:wR):oE r < 2:=by cases r <;> first | exact Nat.zero_lt_two | exact Nat.one_lt_two
theorem zro {z:Str}{d:Int}(h0:0<=d)(h1:d < z.length): ∃c∈z.cps.toList,atI z.cps.toList d=some c:=by
 obtain⟨n,rfl⟩:=fg h0;have hn:n < z.cps.toList.length:=by have:(z.cps.toList.length:Int)=z.length:=rfl;grobner
 exact⟨z.cps.toList[n],lm hn,qM (j:=n) (bn hn)⟩
def spO:zT:=λxs st Q=> ∃(i:Nat) (x:PV) (a b:Int),xs= [.obj i,x]/\st[i]?=some (xG a b)/\xW a b/\
 ((∃ys:List PV,x= .lst ys/\zqU ys i st Q)∨(∃z:Str,x= .str z/\0 < z.length/\z.length<=1000/\∀c∈z.cps.toList,∀a b,xW a b->Q (sv [c]) 3#7))
def plS:PV->Bool
 | .str x=>y1 x.cps.toList
 | _=>false
theorem zwF {y:PV}(h:plS y=true): ∃w:W9,y=sv w/\y1 w=true:=by
 cases y with
 | str x=>exact⟨x.cps.toList,by rw[show sv x.cps.toList=PV.str x from congrArg PV.str (j3 x)],h⟩
 | _=>cases h
def zzc:zT:=λxs st Q=> ∃(i:Nat) (a b:Int),xs= [.obj i]/\st[i]?=some (xG a b)/\xW a b/\∀w:W9,y1 w=true->∀a b,xW a b->Q (sv w) 3#7
theorem zmn (ws:List W9):Txt.join "" (ws.map zA)=zA ws.flatten:=by
 unfold Txt.join;rw[lj,show("" :Str)=zA [] by decide+kernel]
 induction ws with
 | nil=>rfl
 | cons a r ih=>
  cases r with
  | nil=>show zA a=_;rw[mx,List.flatten_nil,cg]
  | cons b r=>
   show zA a++zA []++Str.join (zA []) ((b::r).map zA)=_;rw[ih,show zA a++zA []=zA a from by rw[wH,cg],wH];rfl
theorem zs9 (cs:W9):(cs.map λc=> [c]).flatten=cs:=by
 induction cs with
 | nil=>rfl
 | cons c r ih=>rw[cc,mx,ih];rfl
theorem ztQ {c:Nat}(h:c∈(13#1 :Str).cps.toList):m9 c=true:=by
 rw[zmv,tS]at h;rw[<- zmw];exact decide_eq_true h
def zyI:zT:=λxs st Q=> ∃(i:Nat) (a b:Int),xs= [.obj i,.int 4294967295]/\st[i]?=some (xG a b)/\xW a b/\∀n:Nat,n<=4294967295->∀a b,xW a b->Q (.int n) 3#7
def iO (ws:List W9):Prop:=ws.length=6/\∀w∈ws,y1 w=true
theorem o3 {ws:List W9}{i:Nat}{st:z7}{Q:K3}{a b:Int}(h:iO ws)(hi:st[i]?=some (xG a b))(hb:xW a b)(q: ∀w,y1 w=true->∀a b,xW a b->Q (sv w) 3#7):spO [.obj i,.lst (ws.map sv)] st Q:=by
 refine⟨i,_,a,b,rfl,hi,hb,.inl ⟨_,rfl,?_,by rw[ah,h.1];decide,dk.mpr λy hy=> ?_,λy hy a b hb=> ?_⟩⟩
 ·intro z
  have:=congrArg List.length z;rw[ah,h.1]at this;cases this
 ·obtain⟨w,_,rfl⟩:=bt.mp hy;rfl
 ·obtain⟨w,hw,rfl⟩:=bt.mp hy
  exact q w (h.2 w hw) a b hb
def vN (told:Bool)(room e:Nat)(t:yH):Prop:=vL told false t/\xT t<=e+1/\(zQ t).length<=30 * room
def zoO (d:Nat):zT:=λxs st Q=> ∃(i:Nat) (ws:List W9) (told:Bool) (room e:Nat) (a b:Int),xs= [.obj i,.lst (ws.map sv),.bl told,.int room,.int e]/\st[i]?=some (xG a b)/\xW a b/\iO ws/\1<=room/\room<=30/\e < d/\∀t,vN told room e t->∀a b,xW a b->Q (zO told t) 3#7
theorem zoP {K:Frag}{vs:List V}{H:Hp}{Q:VK}{E:XK}(h:yF K (zoO 0) vs H Q E):False:=by
 obtain⟨_,_,_,_,_,_,⟨_,_,_,_,_,_,_,_,_,_,_,_,_,z,_⟩,_⟩:=h;exact absurd z (tw _)
theorem zuA (n:Nat)(h:n<=4294967295):vM.contains (y3 n)=false:=by
 have hf:=(iV (sU (n:=n) 0#0)).2.2;cases e:vM.contains (y3 n)with
 | false=>rfl
 | true=>
  have:y3 n= [119,97,115]∨y3 n= [109,105,110,101]∨y3 n= [121,111,117,114,115]:=by unfold vM at e;simpa using e
  rcases this with z | z | z <;> rw[z]at hf <;> exact absurd hf 2#0
theorem zu_ (n:Nat)(h:n<=4294967295):y1 (y3 n)=false:=by
 obtain⟨h0,_,hf⟩:=iV (sU (n:=n) 0#0);cases e:y1 (y3 n)with
 | false=>rfl
 | true=>
  unfold y1 at e;have e:=(cj.mp e).2;cases hz:y3 n with
  | nil=>exact absurd hz h0
  | cons c r=>
   rw[hz]at e hf;have e:=(cj.mp (jg▸e:(m9 c&&r.all m9)=true)).1;have hf:=(cj.mp (jg▸hf:(uC c&&r.all uC)=true)).1;unfold m9 at e;unfold uC at hf;simp only[bv,decide_eq_true_eq]at e hf;grobner
theorem znV (told:Bool){n:Nat}(h:n<=4294967295):zO told (.lf (y3 n))= .tup [.str "num",.int n]:=by
 unfold zO;rw[zuA n h,zu_ n h,oy,oy,pK];rfl
theorem zmR (told:Bool){n room e:Nat}(h:n<=4294967295)(hr:1<=room):vN told room e (.lf (y3 n)):=by
 have hf:=zqu h;refine⟨.inl ?_,db _,?_⟩
 ·unfold uK;rw[hf];rfl
 ·have:=(iV (sU (n:=n) 0#0)).2.1
  show(y3 n).length<=_;grobner
theorem zxf {w:W9}(h:y1 w=true):zO false (.lf w)= .tup [.str 30#1,sv w]:=by
 unfold zO;rw[h];rfl
theorem zy0 {w:W9}{room e:Nat}(h:y1 w=true)(hr:1<=room):vN false room e (.lf w):=by
 refine⟨.inl ?_,db _,?_⟩
 ·rw[bP,h,Bool.or_true]
 ·have:=s0 h;show w.length<=_;grobner
theorem zm8:("many" :Str)=zA w9:=1#0
theorem zm1:("long" :Str)=zA w6:=1#0
theorem zum {x y:W9}{room e:Nat}(hx:y1 x=true)(hy:y1 y=true)(hr:1<=room):vN false room e (.fl w9 [x,y]):=by
 refine⟨⟨rfl,.inl ⟨rfl,x,y,rfl,hx,hy⟩⟩,by show 1<=e+1;grobner,?_⟩;have h1:=s0 hx;have h2:=s0 hy;simp[zQ,yS,w9];grobner
theorem zub {x:W9}{room e:Nat}(hx:y1 x=true)(hr:1<=room):vN false room e (.fl w6 [x]):=by
 refine⟨⟨rfl,.inr ⟨rfl,x,rfl,hx⟩⟩,by show 1<=e+1;grobner,?_⟩;have h1:=s0 hx;simp[zQ,yS,w6];grobner
theorem zh4 {w:W9}{room e:Nat}(h:vM.contains w=true)(hr:1<=room):vN true room e (.lf w)/\zO true (.lf w)= .tup [sv w]:=by
 refine⟨⟨.inl ?_,db _,?_⟩,?_⟩
 ·rw[bQ,h,Bool.or_true]
 ·have:w= [119,97,115]∨w= [109,105,110,101]∨w= [121,111,117,114,115]:=by unfold vM at h;simpa using h
  rcases this with rfl | rfl | rfl
  ·show 3<=_;grobner
  ·show 4<=_;grobner
  ·show 5<=_;grobner
 ·unfold zO;rw[h];rfl
theorem ztl {told:Bool}{r3 room e:Nat}{a b c:yH}(ha:vN told r3 e a)(hb:vN told r3 e b)(hc:vN told r3 e c)(h:3 * r3+1<=room):vN told room (e+1) (.if3 a b c):=by
 refine⟨⟨ha.1,hb.1,hc.1⟩,?_,?_⟩
 ·have h1:=ha.2.1;have h2:=hb.2.1;have h3:=hc.2.1
  show 1+max (xT a) (max (xT b) (xT c))<=_;grobner
 ·have h1:=ha.2.2;have h2:=hb.2.2;have h3:=hc.2.2
  simp[zQ,xZ];grobner
theorem zvR {told:Bool}{r1 r2 room e:Nat}{h:W9}{a b:yH}(ho:tT h=true)(ha:vN told r1 e a)(hb:vN told r2 e b)(hr:r1+r2+1<=room):vN told room (e+1) (.op h a b):=by
 have hl:h.length=1:=by
  have:h= [43]∨h= [45]∨h= [42]∨h= [60]∨h= [61]:=by unfold tT at ho;simpa using ho
  rcases this with rfl | rfl | rfl | rfl | rfl <;> rfl
 refine⟨⟨ho,ha.1,hb.1⟩,?_,?_⟩
 ·have h1:=ha.2.1;have h2:=hb.2.1
  show 1+max (xT a) (xT b)<=_;grobner
 ·have h1:=ha.2.2;have h2:=hb.2.2
  simp[zQ];grobner
theorem zvC {c:Nat}(h:c∈("+-*<=" :Str).cps.toList):tT [c]=true:=by
 rw[show("+-*<=" :Str)=zA [43,45,42,60,61] by decide+kernel,tS]at h;simp only[ar,bu,or_false]at h;rcases h with rfl | rfl | rfl | rfl | rfl <;> decide
theorem z0n:("was" :Str)=zA [119,97,115]:=1#0
theorem zuo:("mine" :Str)=zA [109,105,110,101]:=1#0
theorem z0q:("yours" :Str)=zA [121,111,117,114,115]:=1#0
theorem vN.up {told:Bool}{r e:Nat}{t:yH}(h:vN told r e t)(hr:r<=30)(he:e<=6):vN told 30 6 t:=⟨h.1,by have:=h.2.1;grobner,by have:=h.2.2;grobner⟩
theorem dZ {told:Bool}{t:yH}(h:vN told 30 6 t):s9 (.t told t):=⟨h.1,h.2.1,h.2.2⟩
theorem vT {told:Bool}{t:yH}(h:vN told 30 6 t):kY told t:=⟨h.1,by have:=h.2.1;grobner⟩
theorem pE {w:W9}(h:y1 w=true):s9 (.w w):=by have:=s0 h;show w.length<=10;grobner
theorem zsi {h w:W9}{t:yH}(hh:h=oP∨h=oO∨h=oM)(hw:y1 w=true)(ht:vN false 30 6 t):tG (.de (.tm h w t)):=
 ⟨⟨hh,hw,vT ht⟩,zL (show h.length<=10 by rcases hh with rfl | rfl | rfl <;> decide) (zL (pE hw) (yN (dZ ht)))⟩
theorem zse {h w w':W9}(hh:h=pI∨h=pJ)(hw:y1 w=true)(hw':y1 w'=true):tG (.de (.io h w w')):=
 ⟨⟨hh,hw,hw'⟩,zL (show h.length<=10 by rcases hh with rfl | rfl <;> decide) (zL (pE hw) (yN (pE hw')))⟩
theorem zsf {w w':W9}{t:yH}(hw:y1 w=true)(ht:vN false 30 6 t)(hw':y1 w'=true):tG (.de (.lay w t w')):=
 ⟨⟨hw,vT ht,hw'⟩,zL (show rL.length<=10 by decide) (zL (pE hw) (zL (dZ ht) (yN (pE hw'))))⟩
theorem zsh {t:yH}(ht:vN false 30 6 t):tG (.de (.tell t)):=⟨vT ht,zL (show rM.length<=10 by decide) (yN (dZ ht))⟩
theorem zsg {h w:W9}(hh:h=m7∨h=m6)(hw:y1 w=true):tG (.sj h w):=⟨⟨hh,hw⟩,zL (show h.length<=10 by rcases hh with rfl | rfl <;> decide) (yN (pE hw))⟩
theorem zsj {g:yH}{d:u9}(hg:vN false 30 6 g)(h:tG (.de d)):tG (.wh g d):=⟨⟨vT hg,h.1⟩,zL (show tB.length<=10 by decide) (zL (dZ hg) h.2)⟩
def zyD:zT:=λxs st Q=> ∃(i:Nat) (ws:List W9) (a b:Int),xs= [.obj i,.lst (ws.map sv)]/\st[i]?=some (xG a b)/\xW a b/\iO ws/\∀d,tG (.de d)->∀a b,xW a b->Q (vD d) 3#7
def zyQ:zT:=λxs st Q=> ∃(i:Nat) (ws:List W9) (a b:Int),xs= [.obj i,.lst (ws.map sv)]/\st[i]?=some (xG a b)/\xW a b/\iO ws/\∀r,tG r->∀a b,xW a b->Q (w4 r) 3#7
def TmP (told:Bool)(i:Nat)(st:z7):PV->z7->Prop:=λx s=> ∃(t:yH) (a b:Int),x=zO told t/\vN told 30 6 t/\xW a b/\s=st.set i (xG a b)
theorem zoA:("set" :Str)=zA oP:=1#0
theorem zmA:("more" :Str)=zA oO:=1#0
theorem zj1:("drop" :Str)=zA oM:=1#0
theorem inS:("in" :Str)=zA pI:=1#0
theorem znt:("out" :Str)=zA pJ:=1#0
theorem zze:("split" :Str)=zA m7:=1#0
theorem zt8:("join" :Str)=zA m6:=1#0
theorem bJ {l:List W9}{ys:List PV}{d:Int}(e:ys=l.map sv)(h0:0<=d)(h1:d < l.length): ∃h∈l,atI ys d=some (sv h):=by
 subst e;obtain⟨y,hy,ey⟩:=ziK (ys:=l.map sv) h0 (by rw[ah];exact h1);obtain⟨w,hw,rfl⟩:=bt.mp hy;exact⟨w,hw,ey⟩
theorem zgj {n:Nat}(h:n<=4294967295):s9 (.w (y3 n)):=(iV (sU (n:=n) 0#0)).2.1
theorem zyx {w h:W9}{n:Nat}(hw:y1 w=true)(hh:h=oN∨h=oQ)(hn:n<=4294967295):rO (w,.num h n):=
 ⟨⟨hw,hh,hn⟩,zL (show uA.length<=10 by decide) (zL (pE hw) (zL (show h.length<=10 by rcases hh with rfl | rfl <;> decide) (yN (zgj hn)))),by show 4<=25;decide⟩
theorem zyz {w:W9}{n b:Nat}{t:yH}(hw:y1 w=true)(h2:2<=n)(h5:n<=5)(hb:b < n)(ht:vN true 30 6 t):rO (w,.told n t b):=
 ⟨⟨hw,h2,h5,hb,vT ht⟩,zL (show uA.length<=10 by decide) (zL (pE hw) (zL (show tQ.length<=10 by decide) (zL (zgj 0#0) (zL (zgj 0#0) (yN (dZ ht)))))),by show 6<=25;decide⟩
theorem zyy {w:W9}{l:List W9}(hw:y1 w=true)(hl: ∀x∈l,y1 x=true)(h20:l.length<=20):rO (w,.row l):=
 ⟨⟨hw,hl⟩,zL (show uA.length<=10 by decide) (zL (pE hw) (zL (show wY.length<=10 by decide) λp hp=>by obtain⟨x,hx,rfl⟩:=bt.mp hp;exact pE (hl x hx))),by show(l.map yR.w).length+1+1+1<=25;rw[ah];grobner⟩
theorem zyw {w:W9}{l:List (W9×Int)}(hw:y1 w=true)(hl:okB l)(h10:l.length<=10):rO (w,.bag l):=by
 refine⟨⟨hw,hl⟩,zL (show uA.length<=10 by decide) (zL (pE hw) (zL (show wL.length<=10 by decide) λp hp=> ?_)),?_⟩
 ·obtain⟨q,hq,hp⟩:=lq.mp hp
  obtain⟨h1,h2,h3,h4⟩:=hl.1 q hq;exact zL (P:=s9) (pE h1) (yN (show s9 (.w (y3 q.2))from(bO (iF h2 h3 h4)).2.2.2.2)) p hp
 ·show(l.flatMap λp=> [yR.w p.1,.w (y3 p.2)]).length+1+1+1<=25
  have:=zbu (f:=λp:W9×Int=> [yR.w p.1,.w (y3 p.2)]) (l:=l) (n:=2) λa _=>aq _;grobner
def zyU:zT:=λxs st Q=> ∃(i:Nat) (ws:List W9) (a b:Int),xs= [.obj i,.lst (ws.map sv)]/\st[i]?=some (xG a b)/\xW a b/\iO ws/\∀s,rO s->∀a b,xW a b->Q (yT s) 3#7
theorem ztI:("last" :Str)=zA oN:=1#0
theorem zzi:("sum" :Str)=zA oQ:=1#0
theorem zrx:("bag" :Str)=zA wL:=1#0
theorem zxR:("row" :Str)=zA wY:=1#0
def WrP (n i:Nat)(st:z7):PV->z7->Prop:=λx s=> ∃(l:List W9) (a b:Int),x= .lst (l.map sv)/\(∀w∈l,y1 w=true)/\(l.Pairwise λa b=>a < b)/\l.length<=n/\xW a b/\s=st.set i (xG a b)
def BnP (n i:Nat)(st:z7):PV->z7->Prop:=λx s=> ∃(ns:List Int) (a b:Int),x= .lst (ns.map PV.int)/\ns.length=n/\(∀z∈ns,z≠0/\ -100 < z/\z < 100)/\xW a b/\s=st.set i (xG a b)
theorem zzj (z:Str):PV.str z=sv z.cps.toList:=congrArg PV.str (j3 z).symm
def zyK:zT:=λxs st Q=> ∃(ns:List Int) (k:Nat),xs= [.lst (ns.map .int),.int k]/\ns.length<=63/\k<=1000/\∀p,tR p->Q (uQ p) st
structure PG (st s:z7):Prop where
 bx: ∃a b,s[st.length]?=some (xG a b)/\xW a b
 tk:s.take st.length=st
theorem PG.lt {st s:z7}(h:PG st s):st.length < s.length:=by obtain⟨a,b,e,_⟩:=h.bx;exact(ba.mp e).1
theorem PG.new {st s:z7}(h:PG st s)(o:PO):PG st (s++ [o]):=by
 have hl:=h.lt;obtain⟨a,b,e,hb⟩:=h.bx;exact⟨⟨a,b,by rw[cn hl];exact e,hb⟩,by rw[gq 0#0];exact h.tk⟩
theorem PG.put {st s:z7}(h:PG st s){a b:Int}(hb:xW a b):PG st (s.set st.length (xG a b)):=
 ⟨⟨a,b,df h.lt,hb⟩,by rw[lw (aq _)];exact h.tk⟩
theorem PG.oth {st s:z7}(h:PG st s){j:Nat}(hj:st.length < j)(o:PO):PG st (s.set j o):=by
 obtain⟨a,b,e,hb⟩:=h.bx;exact⟨⟨a,b,by rw[ge 0#0];exact e,hb⟩,by rw[lw 0#0];exact h.tk⟩
theorem zw6 {st:z7}{a b:Int}(hb:xW a b):PG st (st++ [xG a b]):=⟨⟨a,b,xU,hb⟩,jr⟩
theorem zmO (s:xX):xJ (yT s)=true:=by
 obtain⟨w,m⟩:=s;cases m <;> rfl
theorem eB {w:W9}{l:List W9}{ys:List PV}{st:z7}{Q:K3}(h:ys=l.map sv):sN false (sv w) (.lst ys) st Q=Q (.bl (l.contains w)) st:=by
 rw[zto,h,hJ];exact propext ⟨λh=>h.2,λh=>⟨⟨rfl,by rw[lg];simp[sJ]⟩,h⟩⟩
theorem mlV: [PV.str "many",.str "long"]=([w9,w6]:List W9).map sv:=by rw[zm8,zm1];rfl
theorem zm_ {x:Str}{v:W9}(e:x=zA v)(n: [w9,w6].contains v=false){st:z7}{Q:K3} :sN false (.str x) (.lst [.str "many",.str "long"]) st Q=Q (.bl false) st:=by
 rw[e];show sN false (sv v) _ st Q=_;rw[eB mlV,n]
theorem zuu {st:z7}{Q:K3} :sN false (.str "op") (.lst [.str "many",.str "long"]) st Q=Q (.bl false) st:=zm_ (v:= [111,112]) 1#0 2#0
theorem zut {st:z7}{Q:K3} :sN false (.str "if") (.lst [.str "many",.str "long"]) st Q=Q (.bl false) st:=zm_ (v:=xZ) 1#0 2#0
theorem zrV {n d:Nat}{told:Bool}{Q:List PV->z7->Prop}{env:zI}{st:z7}{ts:List yH}(hn:env.length=n)(h: ∀t∈ts,vL told false t/\xT t < d/\(zQ t).length<=300000)(q:Q (ts.map λt=>sv (zQ t)) st):
  qF 1 (gN n) i4 (tX (gL d) (tO (tP n) oH)) none (ts.map (zO told)) Q env st:=
 a0 hn (λt ht Q' q'=>⟨told,t,rfl,(h t ht).1,(h t ht).2.1,(h t ht).2.2,q'⟩) (λ_=>rfl) q
theorem ifS:("if" :Str)=zA xZ:=1#0
theorem lP:Str.empty=zA []:=rfl
theorem zr2 {w:W9}{st:z7}{Q:K3}(h:w.length<=1000000)(q:Q (sv (40::(w++ [41]))) st):kH (.str "(") (sv w) st λx xm=>kH x (.str ")") xm (wX st.length Q):=by
 have hb:=rV;rw[aV,zax]
 simp_all?
 rw[wH,wH];refine⟨by rw[yV,yV];show 1+_<=_;grobner,by rw[yV,yV,af];show 1+_+1<=_;grobner,?_⟩;rw[show [40]++w++ [41]=40::(w++ [41]) by simp];exact q
theorem zr3 {w:W9}{st:z7}{Q:K3}(h:w.length<=1000000)(q:Q (sv (40::(w++ [41]))) st):("(" :Str).length+(zA w).length<=am/\(("(" :Str)++zA w).length+(")" :Str).length<=am/\Q (.str (("(" :Str)++zA w++ ")")) st:=by
 have hb:=rV;rw[aV,zax,wH,wH];refine⟨by rw[yV,yV];show 1+_<=_;grobner,by rw[yV,yV,af];show 1+_+1<=_;grobner,?_⟩;rw[show [40]++w++ [41]=40::(w++ [41]) by simp];exact q
def zfQ:List W9:= [oP,oO,oM,pI,pJ,rL,rM]
theorem k7V: [PV.str "set",.str "more",.str "drop",.str "in",.str "out",.str "lay",.str "tell"]=zfQ.map sv:=by rw[zoA,zmA,zj1,inS,znt,zfS,zh3];rfl
theorem zxb (told:Bool)(t:yH)(v:vL told false t): ∃(h:W9) (ys:List PV),zO told t= .tup (sv h::ys)/\zfQ.contains h=false:=by
 cases t with
 | lf w=>
  cases hc:(told&&vM.contains w)with
  | true=>
   refine⟨w,[],by unfold zO;rw[hc];rfl,?_⟩;have h3:=(cj.mp hc).2;have:w= [119,97,115]∨w= [109,105,110,101]∨w= [121,111,117,114,115]:=by unfold vM at h3;simpa using h3
   rcases this with rfl | rfl | rfl <;> decide
  | false=>
   cases hp:(!told&&y1 w)with
   | true=>exact⟨uA,[sv w],by unfold zO;rw[hc,hp,dP];rfl,2#0⟩
   | false=>exact⟨[110,117,109],[.int (vR w)],by unfold zO;rw[hc,hp,show("num" :Str)=zA [110,117,109] by decide+kernel];rfl,2#0⟩
 | op h a b=>exact⟨[111,112],_,by unfold zO;rw[show("op" :Str)=zA [111,112] by decide+kernel],2#0⟩
 | if3 a b c=>exact⟨xZ,_,by unfold zO;rw[ifS],2#0⟩
 | fl h ws=>exact⟨h,_,rfl,by obtain⟨_,⟨rfl,_⟩ | ⟨rfl,_⟩⟩:=v <;> decide⟩
theorem zxc (d:u9)(v:kX d): ∃(h:W9) (ys:List PV),vD d= .tup (sv h::ys)/\zfQ.contains h=true:=by
 cases d with
 | tm h w t=>exact⟨h,_,rfl,by rcases v.1 with rfl | rfl | rfl <;> decide⟩
 | io h w w'=>exact⟨h,_,rfl,by rcases v.1 with rfl | rfl <;> decide⟩
 | lay w t w'=>exact⟨rL,_,by unfold vD;rw[zfS],2#0⟩
 | tell t=>exact⟨rM,_,by unfold vD;rw[zh3],2#0⟩
def ItK (d:Nat)(p:PV×W9):Prop:=(p.1=sv p.2)∨(∃told t,p=(zO told t,zQ t)/\s9 (.t told t))∨(∃de,p=(vD de,yU (wF de))/\tG (.de de)/\0 < d)
theorem zxT {r:wR}{d:Nat}(ok:tG r)(hd:oE r < d+1): ∃l:List (PV×W9),w4 r= .tup (l.map (·.1))/\(∀p∈l,ItK d p/\p.2.length<=6000)/\l.length<=6/\yS (l.map (·.2))=yU (xN r):=by
 cases hr0:oE r with
 | zero=>
  refine⟨(xN r).map λp=>(q5 p,uB p),by rw[zg1 hr0,dm];rfl,λp hp=> ?_,by rw[ah];exact cS r,by rw[dm];rfl⟩;obtain⟨q,hq,rfl⟩:=bt.mp hp;have hz:=ok.2 q hq;refine⟨?_,by have:=cU hz;show(uB q).length<=_;grobner⟩;cases q with
  | w x=>exact .inl rfl
  | t told t=>exact .inr (.inl ⟨told,t,rfl,hz⟩)
 | succ n=>
  cases r with
  | sj h w=>cases hr0
  | de d=>cases hr0
  | wh gd de=>
   have hrk:oE (.wh gd de)=1:=rfl;have hs:=ok.2 (.t false gd) (by simp[xN]);have od:tG (.de de):=⟨ok.1.2,λp hp=>ok.2 p (by simp[xN];exact .inr (.inr hp))⟩;have hz:(yU (wF de)).length<=6000:=zbz od.2;refine⟨[(.str "when",tB),(zO false gd,zQ gd),(vD de,yU (wF de))],rfl,zL ⟨.inl (congrArg PV.str z0o),2#0⟩ (zL ⟨.inr (.inl ⟨false,gd,rfl,hs⟩),by have:=hs.2.2;show(zQ gd).length<=_;grobner⟩ (yN ⟨.inr (.inr ⟨de,rfl,od,0#0⟩),hz⟩)),by show 3<=6;decide,?_⟩;rw[ziq]
   rfl
def zyG:zT:=λxs st Q=> ∃p,xs= [uQ p]/\tR p/\Q (.lst ((vA p).map sv)) st
theorem zmm (x:W9)(l:List W9):yS (x::l)=x++(l.map (32:: ·)).flatten:=by
 induction l generalizing x with
 | nil=>show x=_;simp
 | cons y l ih=>rw[uL x 3#0,ih y,cc,mx];simp
theorem zmy (w:W9)(m:iC):yU (xS (w,m))=uA++32::(w++32::yU (wZ m)):=by
 have ne:wZ m≠ []:=by cases m <;> simp[wZ]
 show yU (.w uA:: .w w::wZ m)=_;rw[f7 3#0,f7 ne];rfl
theorem ztR (l:List (W9×Int)):yU (wZ (.bag l))=wL++(l.map λp=>32::(p.1++32::y3 p.2)).flatten:=by
 show yS (wL::(l.flatMap λp=> [yR.w p.1,.w (y3 p.2)]).map uB)=_;rw[zmm]
 congr 1
 induction l with
 | nil=>rfl
 | cons p l ih=>
  rw[dy,ay,ay,List.flatten_append,ih];show((32::p.1)++((32::y3 p.2)++ []))++_=(32::(p.1++32::y3 p.2))++_;simp
theorem ztS (l:List W9):yU (wZ (.row l))=wY++(l.map (32:: ·)).flatten:=by
 show yS (wY::(l.map yR.w).map uB)=_;rw[zmm,dm,dm]
 rfl
theorem za_:("shelf " :Str)=zA (uA++ [32]):=1#0
theorem zmo {y:PV}{ws:List W9}{st:z7}{Q:K3}(n m:Nat)(hy:rE y st=some (ws.map sv))(hl:ws.length<=m)(hw: ∀w∈ws,w.length<=n)(hz:m * (n+1)<=16777216)(q:Q (sv ws.flatten) st):gI (.str "") [y] st Q:=by
 refine⟨ws.map zA,by rw[<- lU];exact hy,?_,by rw[zmn];exact q⟩;have h1:=gP hw;have h2:ws.length * (n+1)<=m * (n+1):=dr _ hl;rw[wc]at h2;rw[ah,show("" :Str).length=0 from rfl];grobner
theorem eF {i:Nat}{xs:List PV}{st:z7}(h:st[i]?=some 2#4):rE (.obj i) st=some xs:=by show(match st[i]? with | some (PO.lst xs)=>some xs | _=>none)=_;rw[h]
theorem zs8 {ws:List W9}{n:Nat}(h: ∀x∈ws,x.length<=n):ws.flatten.length<=ws.length * n:=by
 induction ws with
 | nil=>simp
 | cons a r ih=>
  have h1:=h a (ax ..);have h2:=ih λw hw=>h w (bc _ hw);rw[mx,af,ao,ml];grobner
def k7 (p:yH×Bool):PV:= .tup [zO p.2 p.1,.bl p.2]
def jN (p:yH×Bool):Prop:=s9 (.t p.2 p.1)
def zza:zT:=λxs st Q=> ∃p,xs= [uQ p]/\tR p/\∀ts:List (yH×Bool),(∀p∈ts,jN p)->ts.length<=1000->Q (.lst (ts.map k7)) st
def szF:yR->Prop
 | .w _=>True
 | .t told t=>told=false/\s9 (.t told t)
theorem znx {d:u9}(h: ∀p∈wF d,s9 p): ∀p∈wF d,szF p:=by
 cases d with
 | tm a w t=>exact zL trivial (zL trivial (yN ⟨rfl,h _ (by simp[wF])⟩))
 | io a w w'=>exact zL trivial (zL trivial (yN trivial))
 | lay w t w'=>exact zL trivial (zL trivial (zL ⟨rfl,h _ (by simp[wF])⟩ (yN trivial)))
 | tell t=>exact zL trivial (yN ⟨rfl,h _ (by simp[wF])⟩)
theorem zvZ {r:wR}(n:oE r=0)(h:cV r): ∀p∈xN r,szF p:=by
 cases r with
 | sj a w=>exact zL trivial (yN trivial)
 | wh g d=>cases n
 | de d=>exact znx h
theorem zrW {e0 e1 e2 e3 e4:Option PV}{st:z7}{l:List yR}{Q:List PV->z7->Prop}(h: ∀p∈l,szF p)(q: ∀ts:List (yH×Bool),(∀p∈ts,jN p)->ts.length<=l.length->Q (ts.map k7) st):
  qF 1 (gN 5) (c8 (tX eZ (tO (tP 5) (tO (vC (PV.ty 22#1)) oH)))) (zhG (tO (tP 5) (tO (vC (PV.bl false)) oH))) none (l.map q5) Q [e0,e1,e2,e3,e4] st:=by
 refine⟨λi ys env s=> ∃(v:Option PV) (ts:List (yH×Bool)),ys=ts.map k7/\ts.length<=i/\(∀p∈ts,jN p)/\env= [e0,e1,e2,e3,e4,v]/\s=st,⟨none,[],rfl,aq _,λp hp=>(by cases hp),rfl,rfl⟩,?_,?_⟩
 ·rintro i x ys env s hx ⟨v,ts,rfl,hl,ht,rfl,rfl⟩
  obtain⟨p,hp,rfl⟩:=tL hx;have hz:=h p (bf hp);cases p with
  | w x=>
   rw[show q5 (.w x)=sv x from rfl]
   simp_all?
   exact⟨_,ts,rfl,0#0,ht,rfl⟩
  | t told t=>
   obtain⟨rfl,hz⟩:=hz;obtain⟨xs,e⟩:=znT false t;rw[show q5 (.t false t)=zO false t from rfl,e]
   simp_all?
   refine⟨_,ts++ [(t,false)],?_,by rw[af];show _+1<=_;grobner,λp hp=> ?_,rfl⟩
   ·rw[ay,<- e];rfl
   ·rcases bi.mp hp with hp | hp
    ·exact ht p hp
    ·rw[au.mp hp];exact hz
 ·rintro ys env s ⟨v,ts,rfl,hl,ht,rfl,rfl⟩
  rw[ah]at hl;exact q ts ht hl
inductive AT:PV->Prop
 | int (i:Int):AT 1#5
 | str (x:Str):AT (.str x)
 | tup {xs:List PV} :(∀x∈xs,AT x)->AT 2#6
mutual
def nd:PV->Nat
 | .tup xs=>1+nds xs
 | _=>1
def nds:List PV->Nat
 | []=>0
 | x::xs=>nd x+nds xs
end
theorem wV {xs:List PV} :nd 2#6=1+nds xs:=by unfold nd;rfl
theorem gB {i:Int} :nd 1#5=1:=by unfold nd;rfl
theorem vB {x:Str} :nd (.str x)=1:=by unfold nd;rfl
theorem vH:nds []=0:=by unfold nds;rfl
theorem yP {x:PV}{xs:List PV} :nds (x::xs)=nd x+nds xs:=by rw[nds]
theorem eJ (l m:List PV):nds (l++m)=nds l+nds m:=by
 induction l with
 | nil=>rw[vH,dq,so]
 | cons x l ih=>rw[jp,yP,yP,ih,Nat.add_assoc]
theorem zmI {x:PV}(h:AT x):1<=nd x:=by
 cases h with
 | int i=>rw[gB];exact aq _
 | str x=>rw[vB];exact aq _
 | tup h=>rw[wV];grobner
theorem zmJ {l:List PV}(h: ∀x∈l,AT x):l.length<=nds l:=by
 induction l with
 | nil=>rw[vH];exact aq _
 | cons x l ih=>
  have h1:=zmI (h x (ax ..));have h2:=ih λy hy=>h y (bc _ hy);rw[yP,ao];grobner
theorem gC {α:Type}{f:α->PV}{l:List α}{n:Nat}(h: ∀a∈l,nd (f a)<=n):nds (l.map f)<=l.length * n:=by
 induction l with
 | nil=>rw[kg,vH];exact db _
 | cons a l ih=>
  have h1:=h a (ax ..);have h2:=ih λy hy=>h y (bc _ hy);rw[cc,yP,ao,ml];grobner
def qE (x:PV):PV:= .tup [x,x]
theorem zpN (xs:List PV):i5 xs xs=xs.map qE:=by
 unfold i5
 induction xs with
 | nil=>rfl
 | cons x xs ih=>rw[wb,cc,cc,ih];rfl
def zy_:zT:=λxs st Q=> ∃x,xs= [x,x]/\AT x/\nd x<=2000000/\xJ x=true/\Q (.bl true) st
theorem AT.to {x:PV}(h:AT x):TO x:=by
 induction h with
 | int i=>exact .int i
 | str x=>exact .str x
 | tup h ih=>exact .tup ih
theorem pT (told:Bool): ∀t,AT (zO told t)
 | .lf w=>by
  unfold zO
  split
  ·exact .tup (yN 7#4)
  ·split
   ·exact .tup (zL 7#4 (yN 7#4))
   ·exact .tup (zL 7#4 (yN (.int _)))
 | .op h a b=>by unfold zO;exact .tup (zL 7#4 (zL 7#4 (zL (pT told a) (yN (pT told b)))))
 | .if3 a b c=>by unfold zO;exact .tup (zL 7#4 (zL (pT told a) (zL (pT told b) (yN (pT told c)))))
 | .fl h ws=>by unfold zO;exact .tup (zL 7#4 λx hx=>by obtain⟨w,_,rfl⟩:=bt.mp hx;exact .str _)
theorem ziI (d:u9):AT (vD d):=by
 cases d with
 | tm h w t=>exact .tup (zL 7#4 (zL 7#4 (yN (pT _ _))))
 | io h w w'=>exact .tup (zL 7#4 (zL 7#4 (yN 7#4)))
 | lay w t w'=>exact .tup (zL 7#4 (zL 7#4 (zL (pT _ _) (yN 7#4))))
 | tell t=>exact .tup (zL 7#4 (yN (pT _ _)))
theorem zbH (r:wR):AT (w4 r):=by
 cases r with
 | sj h w=>exact .tup (zL 7#4 (yN 7#4))
 | wh g d=>exact .tup (zL 7#4 (zL (pT _ _) (yN (ziI d))))
 | de d=>exact ziI d
theorem fJ {α:Type}{f:α->PV}{l:List α}(h: ∀a∈l,AT (f a)):AT (.tup (l.map f)):= .tup λx hx=>by obtain⟨a,ha,rfl⟩:=bt.mp hx;exact h a ha
theorem zbI (s:xX):AT (yT s):=by
 obtain⟨w,m⟩:=s;cases m with
 | num h n=>exact .tup (zL 7#4 (zL (.tup (yN 7#4)) (yN (.int _))))
 | bag l=>exact .tup (zL 7#4 (zL (.tup (yN 7#4)) (yN (fJ λp _=> .tup (zL 7#4 (yN (.int _)))))))
 | row l=>exact .tup (zL 7#4 (zL (.tup (yN 7#4)) (yN (fJ λp _=> .str _))))
 | told n t b=>exact .tup (zL 7#4 (zL (.tup (zL 7#4 (zL (.int _) (yN (pT _ _))))) (yN (.int _))))
theorem zrm (p:uJ):AT (uQ p):= .tup (zL (fJ λs _=>zbI s) (yN (fJ λh _=> .tup (zL 7#4 (yN (fJ λr _=>zbH r))))))
theorem jL (told:Bool): ∀t,vL told false t->nd (zO told t)<=3 * (zQ t).length
 | .lf w,v=>by
  have hb:uK told w=true:=v.elim id λz=>by cases z.1
  have hw:1<=w.length:=by
   rcases w with _ | ⟨c,r⟩
   ·cases told <;> exact absurd hb 2#0
   ·simp
  have e:(zQ (.lf w)).length=w.length:=rfl;unfold zO
  split
  ·rw[wV,yP,vH,vB];grobner
  ·split
   ·rw[wV,yP,yP,vH,vB,vB];grobner
   ·rw[wV,yP,yP,vH,vB,gB];grobner
 | .op h a b,⟨_,va,vb⟩=>by
  have h1:=jL told a va;have h2:=jL told b vb;unfold zO;rw[wV,yP,yP,yP,yP,vH,vB,vB];simp[zQ];grobner
 | .if3 a b c,⟨va,vb,vc⟩=>by
  have h1:=jL told a va;have h2:=jL told b vb;have h3:=jL told c vc;unfold zO;rw[wV,yP,yP,yP,yP,vH,vB];simp[zQ,xZ];grobner
 | .fl h ws,v=>by
  unfold zO;obtain⟨_,⟨rfl,x,y,rfl,hx,hy⟩ | ⟨rfl,x,rfl,hx⟩⟩:=v
  ·rw[wV,yP,cc,cc,kg,yP,yP,vH,vB,vB,vB]
   simp[zQ,yS,w9];grobner
  ·rw[wV,yP,cc,kg,yP,vH,vB,vB]
   simp[zQ,yS,w6];grobner
theorem zgl {p:yR}(h:s9 p):nd (q5 p)<=2700:=by
 cases p with
 | w x=>rw[show q5 (.w x)=sv x from rfl,vB];grobner
 | t told t=>have:=jL told t h.1;have:=h.2.2;show nd (zO told t)<=2700;grobner
theorem zmH {d:u9}(h: ∀p∈wF d,s9 p):nd (vD d)<=11000:=by
 rw[zg0,wV];have:=gC (f:=q5) (l:=wF d) (n:=2700) λp hp=>zgl (h p hp);have h4:(wF d).length * 2700<=4 * 2700:=dr _ (cR d);grobner
theorem zuP {r:wR}(ok:cV r):nd (w4 r)<=17000:=by
 cases r with
 | sj h w=>rw[show w4 (.sj h w)= .tup [sv h,sv w]from rfl,wV,yP,yP,vH,vB,vB];grobner
 | wh g d=>
  have h1:=zgl (ok (.t false g) (by simp[xN]));have h1:nd (zO false g)<=2700:=h1;have h2:=zmH (d:=d) λp hp=>ok p (by simp[xN];exact .inr (.inr hp));rw[show w4 (.wh g d)= .tup [.str "when",zO false g,vD d]from rfl,wV,yP,yP,yP,vH,vB];grobner
 | de d=>have:=zmH (d:=d) ok;show nd (vD d)<=_;grobner
theorem zuQ {s:xX}(ok:rO s):nd (yT s)<=3000:=by
 obtain⟨w,m⟩:=s;have h25:=ok.2.2;cases m with
 | num h n=>rw[show yT (w,.num h n)= .tup [sv w,.tup [sv h],.int n]from rfl,wV,yP,yP,yP,vH,vB,wV,yP,vH,vB,gB];grobner
 | bag l=>
  have e:(xS (w,.bag l)).length=(l.flatMap λp=> [yR.w p.1,.w (y3 p.2)]).length+1+1+1:=rfl;have hl:l.length<=(l.flatMap λp=> [yR.w p.1,.w (y3 p.2)]).length:=by
   clear e h25 ok
   induction l with
   | nil=>exact aq _
   | cons p l ih=>rw[dy,af,ao];show _<=2+_;grobner
  have h1:=gC (f:=u0) (l:=l) (n:=3) λp _=>by rw[show u0 p= .tup [sv p.1,.int p.2]from rfl,wV,yP,yP,vH,vB,gB];exact aq _
  rw[show yT (w,.bag l)= .tup [sv w,.tup [sv wL],.tup (l.map u0)]from rfl,wV,yP,yP,yP,vH,vB,wV,yP,vH,vB,wV];grobner
 | row l=>
  have e:(xS (w,.row l)).length=(l.map yR.w).length+1+1+1:=rfl;rw[ah]at e;have h1:=gC (f:=sv) (l:=l) (n:=1) λp _=>by rw[vB];exact aq _
  rw[show yT (w,.row l)= .tup [sv w,.tup [sv wY],.tup (l.map sv)]from rfl,wV,yP,yP,yP,vH,vB,wV,yP,vH,vB,wV];grobner
 | told n t b=>
  have h1:=zgl (ok.2.1 (.t true t) (by simp[xS,wZ]));have h1:nd (zO true t)<=2700:=h1;rw[show yT (w,.told n t b)= .tup [sv w,.tup [.str 28#1,.int n,zO true t],.int b]from rfl,wV,yP,yP,yP,vH,vB,wV,yP,yP,yP,vH,vB,gB,gB];grobner
theorem zuO {p:uJ}(ok:tR p):nd (uQ p)<=2000000:=by
 have h1:=gC (f:=yT) (l:=p.1) (n:=3000) λs hs=>zuQ (ok.1 s hs);have h2:=gC (f:=t6) (l:=p.2) (n:=170010) λh hh=>by
  have oh:=ok.2.1 h hh;have h3:=gC (f:=w4) (l:=h.2) (n:=17000) λr hr=>zuP (oh.2.1 r hr).2;have h4:h.2.length * 17000<=10 * 17000:=dr _ oh.2.2;rw[show t6 h= .tup [sv h.1,.tup (h.2.map w4)]from rfl,wV,yP,yP,vH,vB,wV];grobner
 have h5:p.1.length * 3000<=6 * 3000:=dr _ ok.2.2.1;have h6:p.2.length * 170010<=8 * 170010:=dr _ ok.2.2.2;rw[show uQ p= .tup [.tup (p.1.map yT),.tup (p.2.map t6)]from rfl,wV,yP,yP,vH,wV,wV];grobner
theorem gU {told:Bool} : ∀t,vL told false t->(yL t).length<=(zQ t).length
 | .lf w,v=>by
  have hb:uK told w=true:=v.elim id λz=>by cases z.1
  rcases w with _ | ⟨c,r⟩
  ·cases told <;> exact absurd hb 2#0
  ·show 1<=r.length+1;grobner
 | .op h a b,⟨ho,va,vb⟩=>by
  have h1:=gU a va;have h2:=gU b vb;simp[yL,zQ];grobner
 | .if3 a b c,⟨va,vb,vc⟩=>by
  have h1:=gU a va;have h2:=gU b vb;have h3:=gU c vc;simp[yL,zQ,xZ];grobner
 | .fl h ws,v=>by
  obtain⟨_,⟨rfl,x,y,rfl,hx,hy⟩ | ⟨rfl,x,rfl,hx⟩⟩:=v
  ·simp[yL,zQ,yS,w9]
  ·simp[yL,zQ,yS,w6]
theorem zz3 {s:xX}(ok:rO s):(wG (wZ s.2)).length<=1000:=by
 obtain⟨w,m⟩:=s;have h25:=ok.2.2;cases m with
 | num h n=>show 2<=1000;decide
 | bag l=>
  have e:(xS (w,.bag l)).length=(l.flatMap λp=> [yR.w p.1,.w (y3 p.2)]).length+1+1+1:=rfl;show(wG (wZ (.bag l))).length<=1000;rw[zpo];have:(pW l).length=(l.flatMap λp=> [yR.w p.1,.w (y3 p.2)]).length:=by
   unfold pW;clear e h25 ok
   induction l with
   | nil=>rfl
   | cons p l ih=>rw[dy,dy,af,af,ih];rfl
  rw[ao,this];grobner
 | row l=>
  have e:(xS (w,.row l)).length=(l.map yR.w).length+1+1+1:=rfl;rw[ah]at e;show(wG (wZ (.row l))).length<=1000;rw[zpp,ao];grobner
 | told n t b=>
  have hz:=ok.2.1 (.t true t) (by simp[xS,wZ]);have h1:=gU t hz.1;have h2:=hz.2.2;show(wG (wZ (.told n t b))).length<=1000;rw[zpq];simp;grobner
def j7 (K:Frag)(A:List aa)(H:Hp)(v:Option V)(e:Option PV):Prop:= ∀x,e=some x->∃w,v=some w/\RE K A H x w
theorem x9 {K:Frag}{A:List aa}{H:Hp}{v:Option V} :j7 K A H v none:=λx h=>by cases h
theorem q4 {K:Frag}{A:List aa}{H:Hp}{w:V}{x:PV}(r:RE K A H x w):j7 K A H (some w) (some x):=λy h=>by cases h;exact⟨w,rfl,r⟩
theorem pB {K:Frag}{A:List aa}{H:Hp}{st:z7}{v0 v1 v2 v3 v4:Option V}{e0 e1 e2 e3 e4:Option PV}(rs:RS K A H st)(h0:j7 K A H v0 e0)(h1:j7 K A H v1 e1)(h2:j7 K A H v2 e2)(h3:j7 K A H v3 e3)(h4:j7 K A H v4 e4):wB K A H [v0,v1,v2,v3,v4] [e0,e1,e2,e3,e4] st:=by
 refine⟨rs,rfl,λi x h=> ?_⟩
 match i,h with
 | 0,h=>obtain⟨w,e,r⟩:=h0 x (ca h);exact⟨w,by rw[e];rfl,r⟩
 | 1,h=>obtain⟨w,e,r⟩:=h1 x (ca h);exact⟨w,by rw[e];rfl,r⟩
 | 2,h=>obtain⟨w,e,r⟩:=h2 x (ca h);exact⟨w,by rw[e];rfl,r⟩
 | 3,h=>obtain⟨w,e,r⟩:=h3 x (ca h);exact⟨w,by rw[e];rfl,r⟩
 | 4,h=>obtain⟨w,e,r⟩:=h4 x (ca h);exact⟨w,by rw[e];rfl,r⟩
 | i+5,h=>cases h
theorem zxV {K:Frag}{H:Hp} :RS K [] H []:=⟨3#0,rfl,λi a o h=>by cases h⟩
theorem zno {K:Frag}{p:aa}{A:List aa}{H H':Hp}{o:PO}(g:zZ [p] H A H')(s:RS K A H' [o]):A= [p]:=by
 obtain⟨B,rfl,_⟩:=g.ext;have:=s.len;cases B with
 | nil=>rfl
 | cons b B=>simp at this
theorem zuT {K:Frag}{A:List aa}{H H':Hp}{o:PO}(g:zZ [] H A H')(s:RS K A H' [o]): ∃p,A= [p]/\H p=none:=by
 have hl:A.length=1:=s.len;cases A with
 | nil=>cases hl
 | cons p A=>
  cases A with
  | cons b A=>simp at hl
  | nil=>
   obtain⟨B,e,hB⟩:=g.ext;exact⟨p,rfl,hB p (by rw[dq]at e;rw[<- e];simp)⟩
theorem zo0 {K:Frag}{p C dx:aa}{H:Hp}{fs:List (Str×PV)}(s:RS K [p] H [.ins C dx fs]): ∀b∈ [p],∃C dx fs,H b=some (.ins C dx fs):=λb hb=>by
 rw[au.mp hb];obtain⟨us,e,_⟩:=s.at_ 0 p _ rfl rfl;exact⟨_,_,_,e⟩
theorem zsV {A0 A1:List aa}{H0 H H':Hp}{p:aa}(G:zZ A0 H0 A0 H)(hp:H0 p=none)(g:zZ [p] H A1 H'):zZ A0 H0 A0 H':=
 ⟨⟨[],3#0,3#0⟩,λb o e n=>g.keep b o (G.keep b o e n) (λm=>by rw[au.mp m,hp]at e;cases e),λb hb=>g.live b (G.live b hb)⟩
theorem zsU {A0 A1:List aa}{H H':Hp}(g:zZ [] H A1 H'):zZ A0 H A0 H':=⟨⟨[],3#0,3#0⟩,λb o e n=>g.keep b o e 3#0,g.live⟩
def mZ (h:vG):Str×List PV:=(zA h.1,h.2.map w4)
def zyM (K:Frag):Sp:=λvs H Q E=> ∃(x:W9) (sh hd:aa) (ls:List (aa×aa)) (S S':List xX) (Hs Hs':List vG),vs= [.str (zA x),.ref sh,.ref hd]/\x.length<=300000/\HS K H sh hd ls (S.map yT) (Hs.map mZ)/\kU S Hs x S' Hs'/\S.length<=100/\Hs.length<=100/\(∀h∈Hs,h.2.length<=100)/\
 ∀H' ls',zZ (sh::hd::ls.map (·.2)) H (sh::hd::ls'.map (·.2)) H'->HS K H' sh hd ls' (S'.map yT) (Hs'.map mZ)->Q .non H'
theorem zoU {S S':List xX}{Hs Hs':List vG}{x:W9}(h:kU S Hs x S' Hs'): ∃k l,vO (wO x)=k::l/\
  ((∃s,k=uA/\l=s.1::wG (wZ s.2)/\rO s/\Hs= []/\S'=S++ [s]/\Hs'= [])∨(∃w,k=uW/\l= [w]/\y1 w=true/\S'=S/\Hs'=Hs++ [(w,[])])∨
   (∃r H0 w rs,k=iY r/\l=tlR r/\tG r/\k≠uA/\k≠uW/\Hs=H0++ [(w,rs)]/\S'=S/\Hs'=H0++ [(w,rs++ [r])])):=by
 cases h with
 | @shelf s ok=>
  refine⟨_,_,by rw[zby (by simp[xS]) (ziw ok.1)];rfl,.inl ⟨s,rfl,rfl,ok,rfl,rfl,rfl⟩⟩
 | @hand _ w hw=>
  refine⟨_,_,by rw[zby 3#0 (zL (pL (rN 2#0)) (yN (pM hw)))];rfl,.inr (.inl ⟨w,rfl,rfl,hw,rfl,rfl⟩)⟩
 | @row H0 w rs r ok=>
  refine⟨_,_,by rw[zby (zqz r) (ziv ok.1),zz4],.inr (.inr ⟨r,H0,w,rs,rfl,rfl,ok,?_,?_,rfl,rfl,rfl⟩)⟩
  all_goals
   obtain⟨v,_⟩:=ok;cases r with
   | sj h w=>rcases v.1 with rfl | rfl <;> (intro z;cases z)
   | wh g d=>intro z;cases z
   | de d=>
    cases d with
    | tm h w t=>rcases v.1 with rfl | rfl | rfl <;> (intro z;cases z)
    | io h w w'=>rcases v.1 with rfl | rfl <;> (intro z;cases z)
    | lay w t w'=>intro z;cases z
    | tell t=>intro z;cases z
theorem zud (w:W9):(zA w==(30#1 :Str))=decide (w=uA):=lit (v:=uA) 1#0 w
theorem zmx (w:W9):(zA w==("hand" :Str))=decide (w=uW):=lit (v:=uW) 1#0 w
structure LS (K:Frag)(C dx:aa)(ws:List W9)(H0:Hp)(p sh hd:aa)(ls:List (aa×aa))(S:List PV)(Hs:List (Str×List PV))(H:Hp)(k:Nat):Prop where
 rs:RS K [p] H [y7 C dx ws k]
 gr:zZ (sh::hd::ls.map (·.2)) H0 (sh::hd::ls.map (·.2)) H
 hs:HS K H sh hd ls S Hs
theorem LS.step {K:Frag}{C dx:aa}{ws:List W9}{H0 H H':Hp}{p sh hd:aa}{ls:List (aa×aa)}{S:List PV}{Hs:List (Str×List PV)}{k k':Nat}{A1:List aa}(l:LS K C dx ws H0 p sh hd ls S Hs H k)(hp:H0 p=none)(g:zZ [p] H A1 H')(s:RS K A1 H' [y7 C dx ws k']):A1= [p]/\LS K C dx ws H0 p sh hd ls S Hs H' k':=by
 have e:=zno g s;subst e;exact⟨rfl,s,zsV l.gr hp g,l.hs.keep (λb o q n=>g.keep b o q n) (zo0 l.rs)⟩
theorem dC {K:Frag}{C dx p q:aa}{H:Hp}{ws:List W9}{k:Nat}{o:HO}(s:RS K [p] H [y7 C dx ws k])(n:q≠p)(hws:ws≠ [])(hq:H q=none∨∃us,H q=some (.lst us)/\∀y∈us,∃a,y=V.ref a):RS K [p] (zN H q o) [y7 C dx ws k]:=by
 obtain⟨us,e,rf⟩:=s.at_ 0 p _ rfl rfl;refine⟨3#0,rfl,λi a u h1 h2=> ?_⟩;cases i with
 | succ i=>cases h1
 | zero=>
 cases h1;cases h2;refine⟨us,by rw[yJ (dh n)];exact e,?_⟩;cases rf with
 | cons r1 t=>
 cases t with
 | cons r2 t=>
 cases t;obtain⟨n1,v1⟩:=r1;obtain⟨n2,v2⟩:=r2;refine .cons ⟨n1,?_⟩ (.cons ⟨n2,?_⟩ .nil)
 ·generalize hv1:(Prod.snd _:V)=v at v1⊢
  cases v1 with
  | @lst _ a vs t z r=>
   have r':RVs K [p] (zN H q o) (ws.map sv) vs:=r.mapTo λx hx v rv=>by obtain⟨w,_,rfl⟩:=bt.mp hx;cases rv;exact .str _
   refine .lst ?_ z r';rcases t with⟨rd,na⟩ | kl
   ·have ha:a≠q:=λz=>by
     subst z;rcases hq with hq | ⟨us',hq,hr⟩
     ·rcases rd with rd | ⟨o',rd⟩ <;> (rw[hq]at rd;cases rd)
     ·rcases rd with rd | ⟨o',rd⟩
      ·rw[hq]at rd
       cases rd;cases ws with
       | nil=>exact hws rfl
       | cons c ws=>
        cases r with
        | cons rv _=>
         cases rv;obtain⟨b,hb⟩:=hr _ (ax ..);cases hb
      ·rw[hq]at rd;cases rd
    refine .inl ⟨?_,na⟩;rcases rd with rd | ⟨o',rd⟩
    ·exact .inl (by rw[yJ ha];exact rd)
    ·exact .inr ⟨o',by rw[yJ ha];exact rd⟩
   ·exact .inr kl
 ·generalize hv2:(Prod.snd _:V)=v at v2⊢
  cases v2;exact .int _
theorem zou {K:Frag}{A:List aa}{H:Hp}{α:Type}{f:α->PV}{l:List α}{vs:List V}(hf: ∀a,∃xs,f a= .tup xs)(r:RVs K A H (l.map f) vs): ∀y∈vs,∃a,y=V.ref a:=by
 induction l generalizing vs with
 | nil=>cases r;intro y hy;cases hy
 | cons a l ih=>
  cases r with
  | cons r t=>
   intro y hy;rcases ar.mp hy with rfl | hy
   ·obtain⟨xs,e⟩:=hf a
    rw[e]at r;cases r;exact⟨_,rfl⟩
   ·exact ih t y hy
theorem zxe (s:xX): ∃xs,yT s= .tup xs:=by obtain⟨w,m⟩:=s;cases m <;> exact⟨_,rfl⟩
theorem zxd (r:wR): ∃xs,w4 r= .tup xs:=by
 cases r with
 | de d=>cases d <;> exact⟨_,rfl⟩
 | _=>exact⟨_,rfl⟩
theorem ztK (l:List V)(y:V):atI (l++ [y]) (-1)=some y:=by
 unfold atI;have e:uH (l++ [y]).length (-1)=some l.length:=by unfold uH;simp;grobner
 rw[e];simp
def zyO:zT:=λxs st Q=> ∃p,xs= [sv (xY 10 (vA p))]/\tR p/\(xY 10 (vA p)).length<=300000/\Q (uQ p) st
theorem zzg {S S':List xX}{Hs Hs':List vG}{x:W9}(h:kU S Hs x S' Hs'):x≠ []:=by
 intro z;obtain⟨k,l,e,h⟩:=zoU h;rw[z]at e;have e: [([]:W9)]=k::l:=e;cases e;rcases h with⟨_,h,_⟩ | ⟨_,h,_⟩ | ⟨r,_,_,_,h,_,ok,_⟩
 ·cases h
 ·cases h
 ·have v:=ok.1
  cases r with
  | sj a w=>rcases v.1 with rfl | rfl <;> cases h
  | wh g d=>cases h
  | de d=>
   cases d with
   | tm a w t=>rcases v.1 with rfl | rfl | rfl <;> cases h
   | io a w w'=>rcases v.1 with rfl | rfl <;> cases h
   | lay w t w'=>cases h
   | tell t=>cases h
theorem zxU {p:uJ}(ok:tR p): ∀w∈vA p,10∉w/\w≠ []:=by
 have go: ∀(l:List W9) (S:List xX) (Hs:List vG),qH p S Hs l->∀w∈l,w≠ []:=λl=>by
  induction l with
  | nil=>intro S Hs _ w hw;cases hw
  | cons x l ih=>
   intro S Hs h w hw;obtain⟨S',Hs',stp,h'⟩:=h.step ok;rcases ar.mp hw with rfl | hw
   ·exact zzg stp
   ·exact ih S' Hs' h' w hw
 exact λw hw=>⟨zq0 ok.vp w hw,go _ _ _ zil w hw⟩
theorem zxY {K:Frag}{A:List aa}{H:Hp}{l:List W9}{vs:List V}(r:RVs K A H (l.map sv) vs):vs=l.map λw=>V.str (zA w):=by
 induction l generalizing vs with
 | nil=>cases r;rfl
 | cons a l ih=>
  cases r with
  | cons r t=>cases r;rw[ih t];rfl
theorem zt7 {c:Nat}{l:List W9}{w:W9}(h:w∈l):w.length<=(xY c l).length:=by
 induction l with
 | nil=>cases h
 | cons a r ih=>
  cases r with
  | nil=>rw[au.mp h];exact aq _
  | cons b r=>
   rw[cP c a 3#0,af,ao];rcases ar.mp h with rfl | h
   ·grobner
   ·have:=ih h;grobner
theorem zrn {i:Nat}(h:i < 4): ∃m:Int,m<=20000/\atI [PV.int 20000,.int 20000,.int 4000,.int 1] (i:Int)=some (.int m):=by
 have:i=0∨i=1∨i=2∨i=3:=0#0
 rcases this with rfl | rfl | rfl | rfl
 ·exact⟨20000,2#0,rfl⟩
 ·exact⟨20000,2#0,rfl⟩
 ·exact⟨4000,2#0,rfl⟩
 ·exact⟨1,2#0,rfl⟩
theorem zvl:tR ([],[]):=⟨(λs h=>by cases h),(λs h=>by cases h),2#0,2#0⟩
theorem zrY {xs:List PV}{lo hi:Option Int}{x:PV}(h:x∈qP xs lo hi):x∈xs:=lr (nw h)
theorem ztm {tc:xL}{t u:xD}{D:w5}{env:zI}{st:z7}{b:Bool}(h: ∀Q:Bool->z7->Prop,Q b st->tc env st Q)(k:if b=true then t D env st else u D env st):c7 tc t u D env st:=h _ k
end
section
variable (P:br) (w:bz) {K:Frag} {mg:Str->Option ad} (base:cf) {C Ia Aa Ta Ka Ea Wa Na Ma:aa} {fi fa ft fk fe fw fn fm:bh}
theorem nd0:([69#1,"sign"]:List Str).Nodup:=1#0
theorem znk (M:Mo K mg){f:aa}{fd:bh}(F:zS K "is_word" "is_word" dR f fd):yK P w K mg base yG 1 f fd [69#1] (yF K (zzb)):=by
 obtain⟨tLONGEST,zLONGEST⟩:=M.LONGEST;obtain⟨tLETTERS,zLETTERS⟩:=M.LETTERS;refine xE 0 F zyj (λxs st Q h=>by obtain⟨w,rfl,_⟩:=h;rfl) ⟨_,λxw A outer s H E hr=>(zF (yB (PW.pt (nU (y0 nN 9#4 zB (y8 _)) (kG (y0 jM 9#4 (o8 (v:= .int 8) (y:= .int 8) 4#0 zLONGEST ⟨_,rfl⟩ (λ_ _=> .val (.int _))) (y8 _))))) (zG (zW t8)) yI)
   (zG (zW (vJ (zmV rfl) 4#0 M.all boot_all (z6 (uR (own:= ["sign"]) (vV (fsc:=zX dR) (N:= [69#1]) (N':= [69#1]) rfl rfl 1#0) rfl (u5 (qv 0)) (λC s H fp mt=>(yX (i:=1) nd0 rfl 0#2)) 0#4 (λC s H fp mt=>(zap (o0 hr) (qv 1) (o8 (v:= .str 13#1) (y:= .str 13#1) 4#0 zLETTERS ⟨_,rfl⟩ (λ_ _=> .val 7#4)) 4#0))) z8))))),λxs st Q h=> ?_⟩
 obtain⟨w,rfl,hw,q⟩:=h;have hz:=zbA hw
 simp_all?
 have hl:=yV w;refine⟨hz,uG (λh=> ?_) (λh=>⟨hz,uG (λh2=> ?_) (λh2=>⟨hz,?_⟩)⟩)⟩
 ·have h:=of_decide_eq_true h
  have e:y1 w=false:=by unfold y1;rw[decide_eq_false 0#0];rfl
  rw[e]at q;exact q
 ·have h2:=of_decide_eq_true h2
  have e:y1 w=false:=by unfold y1;rw[decide_eq_false (show ¬ w.length<=8 by grobner),oy];rfl
  rw[e]at q;exact q
 ·have h:=of_decide_eq_false (su _▸h)
  have h2:=of_decide_eq_false (su _▸h2);refine zjp (inF 13#1) (λj x e hx he=> ?_) ?_
  ·obtain⟨c,hc,rfl⟩:=tL hx
   obtain⟨y,rfl⟩:=zms he
   simp_all? only[zlW]
   exact CP.yes (e':= [_]) hx rfl rfl
  ·rw[zlU zmv zmw]
   refine⟨_,rfl,?_⟩;rw[ziF]
   simp_all?
   have e:y1 w=w.all m9:=by unfold y1;rw[decide_eq_true (show 1<=w.length by grobner),decide_eq_true (show w.length<=8 by grobner)];rfl
   rw[e]at q;exact q
theorem nd1:([69#1,"most","sign"]:List Str).Nodup:=1#0
theorem znj (M:Mo K mg){f:aa}{fd:bh}(F:zS K 56#1 56#1 dQ f fd):yK P w K mg base yG 1 f fd [69#1,"most"] (yF K (zyJ)):=by
 obtain⟨tFIGURES,zFIGURES⟩:=M.FIGURES;refine xE 0 F zyi (λxs st Q h=>by obtain⟨w,m,rfl,_⟩:=h;rfl) ⟨_,λxw A outer s H E hr=>(zF (yB (PW.pt (nU (y0 nN 9#4 zB (y8 _)) (kG (y0 jM 9#4 (qv 1) (y8 _))))) (zG (zW t8)) yI)
   (zF (yB (PW.pt (kD (y0 jM 9#4 zB (y8 _)) (kF (y0 (x8 hr) 2#2 zD (y8 _))))) (zG (zW t8)) yI)
   (zG (zW (vJ (zmV rfl) 4#0 M.all boot_all (z6 (uR (own:= ["sign"]) (vV (fsc:=zX dQ) (N:= [69#1,"most"]) (N':= [69#1,"most"]) rfl rfl 1#0) rfl (u5 (qv 0)) (λC s H fp mt=>(yX (i:=2) nd1 rfl 0#2)) 0#4 (λC s H fp mt=>(zap (o0 hr) (qv 2) (o8 (v:= .str "0123456789") (y:= .str "0123456789") 4#0 zFIGURES ⟨_,rfl⟩ (λ_ _=> .val 7#4)) 4#0))) z8)))))),λxs st Q h=> ?_⟩
 obtain⟨w,m,rfl,hf,hm,q⟩:=h;obtain⟨h1,h2,h3⟩:=iV hf;have hz:(zA w).length<=am:=zbA (n:=10) h2;have hl:=yV w;have hp:0 < w.length:=oq.mpr h1
 simp_all?
 refine⟨hz,?_⟩;rw[if_neg (by simp only[decide_eq_true_eq];grobner)];refine⟨hz,?_⟩;rw[if_neg (by simp only[decide_eq_true_eq];grobner)];refine⟨hz,?_⟩;have fin:qF 1 (gN 2) i4 (jZ (sN false) (tP 2) (vC (PV.str (Str.ofString "0123456789")))) none (pC (zA w)) (λys xr=>zg8 [PV.lst ys] xr (wX (List.length st) Q)) [some (sv w),some (PV.int m)] st:=by
  refine zjp (inF "0123456789") (λj x e hx he=> ?_) ?_
  ·obtain⟨c,hc,rfl⟩:=tL hx
   obtain⟨y,rfl⟩:=zms he
   simp_all? only[zlW]
   exact CP.yes (e':= [_]) hx rfl rfl
  ·rw[zlU zs2 zs3]
   refine⟨_,rfl,?_⟩;rw[ziF,h3]
   simp_all?
   exact q
 refine uG (λh=>⟨hz,?_⟩) (λh=>⟨hz,fin⟩);have h:=of_decide_eq_true h;cases w with
 | nil=>exact absurd rfl h1
 | cons c r=>
  rw[show atI (c::r) 0=some c from qM (j:=0) rfl];show(if _ then _ else _);have e4:c≠48:=λz=>by
   unfold tH at hf;rw[z,show decide (1 < (48::r:W9).length)=true from decide_eq_true (by rw[<- z];grobner)]at hf;simp at hf
  rw[if_neg (λz=>e4 (by
   have:(⟨#[c]⟩:Str)=⟨#[48]⟩:=(beq_iff_eq.mp z).trans 1#0;have:=congrArg (λx:Str=>x.cps) this;simpa using this))]
  exact⟨hz,fin⟩
theorem znl (M:Mo K mg){f:aa}{fd:bh}(F:zS K 55#1 55#1 zaB f fd):yK P w K mg base yG 2 f fd ["piece","least","most"] (yF K (zoJ)):=by
 obtain⟨zs6,zsy,gX,zbN,zge⟩:=M.is_number;have zbm:=znj P w base M gX;obtain⟨tFIGURES_AT_MOST,zFIGURES_AT_MOST⟩:=M.FIGURES_AT_MOST;refine xE 0 F zo8 (λxs st Q h=>by obtain⟨w,lo,hi,rfl,_⟩:=h;rfl) ⟨_,λxw A outer s H E hr=>have hr1:zH 1 _:=hr.mono 2#0;(zF (yB (oB (uS (zM zbm hr1 4#0 zge gX.kp zbN (z6 (qv 0) (z6 (o8 (v:= .int 10) (y:= .int 10) 4#0 zFIGURES_AT_MOST ⟨_,rfl⟩ (λ_ _=> .val (.int _))) z8))))) (zG sM) yI)
   (zF (y9 (i:=3) zo8.nd rfl 0#2 (u3 zmX 4#0 M.int fQ (z6 (qv 0) z8)))
   (zF (yB (PW.pt (nU (y0 nN (qv 3) (qv 1) (y8 _)) (kG (y0 jM (qv 3) (qv 2) (y8 _))))) (zG sM) yI)
   (zG (zW (qv 3)))))),λxs st Q h=> ?_⟩
 obtain⟨w,lo,hi,rfl,hf,h0,h1,q⟩:=h;obtain⟨f1,f2,f3⟩:=iV hf
 simp_all?
 refine⟨w,10,rfl,hf,0#0,?_⟩
 simp_all?
 refine⟨by rw[yV];grobner,_,zq_ f3 f1 0#0,?_⟩;rw[if_neg (by simp only[decide_eq_true_eq];grobner),if_neg (by simp only[decide_eq_true_eq];grobner)];exact q
theorem znm (M:Mo K mg){f:aa}{fd:bh}(F:zS K 37#1 37#1 zaE f fd):yK P w K mg base yG 3 f fd ["piece",28#1] (yF K (zyL)):=by
 obtain⟨zs7,zsz,gY,zbO,zgf⟩:=M.is_word;have zbn:=znk P w base M gY;obtain⟨zsC,zs0,gZ,zbP,zgh⟩:=M.number_of;have zbo:=znl P w base M gZ;obtain⟨tWIDE,zWIDE⟩:=M.WIDE;obtain⟨aTHREE,zTHREE,kTHREE⟩:=M.THREE;refine xE 0 F zyl (λxs st Q h=>by obtain⟨w,told,rfl,_⟩:=h;rfl) ⟨_,λxw A outer s H E hr=>have hr1:zH 1 _:=hr.mono 2#0;have hr2:zH 2 _:=hr.mono 2#0;(zF (yB (PW.pt (kD (uS (qv 1)) (kF (y0 (o0 hr) (qv 0) (o8 (v:= .ref aTHREE) (y:= .tup [.str "was",.str "mine",.str "yours"]) 4#0 zTHREE rfl (λ_ _=> .val (.tup (.inr kTHREE) (by show 3<=am;decide) (.cons 7#4 (.cons 7#4 (.cons 7#4 .nil)))))) 4#0)))) (zG (zW (yM (z6 (qv 0) z8)))) yI)
   (zF (yB (PW.pt (kD (oB (uS (qv 1))) (kF (uS (zM zbn hr1 4#0 zgf gY.kp zbO (z6 (qv 0) z8)))))) (zG (zW (yM (z6 zD (z6 (qv 0) z8))))) yI)
   (zG (zW (yM (z6 zD (z6 (zM zbo hr2 4#0 zgh gZ.kp zbP (z6 (qv 0) (z6 zB (z6 (y6 qU (o8 (v:= .int 4294967296) (y:= .int 4294967296) 4#0 zWIDE ⟨_,rfl⟩ (λ_ _=> .val (.int _))) zB) z8)))) z8))))))),λxs st Q h=> ?_⟩
 obtain⟨w,told,rfl,hw,hb,q⟩:=h;have num:(told&&vM.contains w)=false->(!told&&y1 w)=false->zoJ [sv w,PV.int 0,PV.int 4294967295] st (λx xm=>xJ x=true/\Q (PV.tup [PV.str (Str.ofString "num"),x]) (List.take (List.length st) xm)):=λh1 h2=>by
  have eb:m8 w=true:=by
   cases told with
   | true=>rw[bQ,show vM.contains w=false from h1,iq]at hb;exact hb
   | false=>rw[bP,show y1 w=false from h2,iq]at hb;exact hb
  have eb:=cj.mp eb;have:=of_decide_eq_true eb.2;refine⟨w,0,4294967295,rfl,eb.1,0#0,0#0,rfl,?_⟩;unfold zO at q;rw[h1,h2]at q
  simp_all?
  exact q
 cases told with
 | true=>
  simp_all? only[ztq]
  cases e:vM.contains w with
  | true=>
   simp_all?
   unfold zO at q;rw[e]at q;exact q
  | false=>
   simp_all?
   exact num e rfl
 | false=>
  simp_all?
  refine⟨w,rfl,hw,?_⟩
  simp_all?
  cases e:y1 w with
  | true=>
   simp_all?
   unfold zO at q;rw[e]at q;exact q
  | false=>
   simp_all?
   exact num rfl e
theorem zai (M:Mo K mg)(U:1#2):yK P w K mg base yG 1 Aa fa [36#1] (yF K (zy9 C)):=by
 refine xE 0 U.fA zyd (λxs st Q h=>by obtain⟨i,dx,ws,k,rfl,_⟩:=h;rfl) ⟨_,λxw A outer s H E hr=>(zG (zW (zap (x8 hr) (eT U.cl U.nL (qv 0)) (vJ q0 4#0 M.len gi (z6 (eT U.cl U.nP (qv 0)) z8)) (y8 _)))),λxs st Q h=> ?_⟩;obtain⟨i,dx,ws,k,rfl,hi,hl,q⟩:=h
 simp_all?
 refine⟨_,_,_,_,mQ hi,lkL,_,_,_,_,mQ hi,lkP,?_⟩
 simp_all? only[ah]
 have e:((k:Int)==(ws.length:Int))=decide (k=ws.length):=by
  by_cases h:k=ws.length
  ·rw[h,decide_eq_true rfl];exact beq_self_eq_true _
  ·rw[decide_eq_false h];exact beq_eq_false_iff_ne.mpr 0#0
 rw[e];exact q
theorem nQ (M:Mo K mg)(U:1#2):yK P w K mg base yG 2 Ta ft [36#1] (yF K (kO C [] p1 sv)):=by
 have GA:=zai P w base M U;refine xE 0 U.fT zo6 (λxs st Q h=>by obtain⟨i,dx,ws,k,t,r,rfl,_⟩:=h;rfl) ⟨_,λxw A outer s H E hr=>have hr1:zH 1 _:=hr.mono 2#0;(zF (yB (uS (wJ U.cl U.mA GA hr1 U.bA (qv 0))) (zG sM) yI)
   (zF (y9 (i:=1) zo6.nd rfl 0#2 (yE (yD hr) (eT U.cl U.nP (qv 0)) (eT U.cl U.nL (qv 0)) 1#4))
   (zF (zg5 U.cl U.nL (qv 0) (y6 xF (eT U.cl U.nL (qv 0)) zB))
   (zG (zW (qv 1)))))),λxs st Q h=> ?_⟩
 obtain⟨i,dx,ws,k,t,r,rfl,hi,hl,hw,hk,e,q⟩:=h;have e:=zvV e
 simp_all?
 refine⟨xP hi,i,dx,ws,k,rfl,hi,hl,?_⟩
 simp_all?
 have hz: ¬ k=ws.length:=λz=>by rw[(lN hk).mp z]at e;cases e
 rw[decide_eq_false hz];obtain⟨w,h1,h2,h3⟩:=zlJ (ws:=ws) (k:=k) 0#0
 simp_all?
 refine⟨_,_,_,_,mQ hi,lkP,_,_,_,_,mQ hi,lkL,?_⟩
 simp_all? only[h3]
 refine⟨_,_,_,_,mQ hi,lkL,?_⟩
 simp_all?
 refine⟨_,_,_,mQ hi,?_⟩
 simp_all?
 rw[zxa (show((k:Int)+1)=((k+1:Nat):Int) by grobner)];rw[h2]at e;cases e;have:=q (k+1) rfl 0#0
 simp_all?
 exact this
theorem znh (M:Mo K mg)(U:1#2):yK P w K mg base yG 3 Ka fk [36#1] (yF K (kO C [] pc (λ_=> .non))):=by
 have GT:=nQ P w base M U;refine xE 0 U.fK zyf (λxs st Q h=>by obtain⟨i,dx,ws,k,t,r,rfl,_⟩:=h;rfl) ⟨_,λxw A outer s H E hr=>have hr2:zH 2 _:=hr.mono 2#0;(zG (yB (y0 (lX hr) 3#5 zD (y8 _)) (zG sM) yI)),λxs st Q h=> ?_⟩;obtain⟨i,dx,ws,k,t,r,rfl,hi,hl,hw,hk,e,q⟩:=h;have e:=zwd e
 simp_all?
 refine⟨xP hi,i,dx,ws,k,[41],r,rfl,hi,hl,hw,hk,by rw[e];rfl,λk' e' hk'=> ?_⟩
 simp_all? only[l41]
 exact q k' e' hk'
theorem znf (M:Mo K mg)(U:1#2):yK P w K mg base yG 2 Ea fe [36#1] (yF K (zoL C)):=by
 have GA:=zai P w base M U;refine xE 0 U.fE zye (λxs st Q h=>by obtain⟨i,dx,ws,k,rfl,_⟩:=h;rfl) ⟨_,λxw A outer s H E hr=>have hr1:zH 1 _:=hr.mono 2#0;(zG (yB (oB (uS (wJ U.cl U.mA GA hr1 U.bA (qv 0)))) (zG sM) yI)),λxs st Q h=> ?_⟩;obtain⟨i,dx,ws,k,rfl,hi,hl,hk,q⟩:=h
 simp_all?
 refine⟨xP hi,i,dx,ws,k,rfl,hi,hl,?_⟩;rw[decide_eq_true hk]
 simp_all?
 exact q
theorem jO (M:Mo K mg)(U:1#2):yK P w K mg base yG 3 Wa fw [36#1] (yF K (kO C [] tI sv)):=by
 obtain⟨zs7,zsz,gY,zbO,zgf⟩:=M.is_word;have zbn:=znk P w base M gY;have GT:=nQ P w base M U;refine xE 0 U.fW zo7 (λxs st Q h=>by obtain⟨i,dx,ws,k,t,r,rfl,_⟩:=h;rfl) ⟨_,λxw A outer s H E hr=>have hr1:zH 1 _:=hr.mono 2#0;have hr2:zH 2 _:=hr.mono 2#0;(zF (y9 (i:=1) zo7.nd rfl 0#2 3#5)
   (zF (yB (oB (uS (zM zbn hr1 4#0 zgf gY.kp zbO 9#5))) (zG sM) yI)
   (zG (zW (qv 1))))),λxs st Q h=> ?_⟩
 obtain⟨i,dx,ws,k,t,r,rfl,hi,hl,hw,hk,e,q⟩:=h;obtain⟨hp,e⟩:=zqE e;have hx:t∈ws:=lr (by rw[e];exact ax ..)
 simp_all?
 refine⟨xP hi,i,dx,ws,k,t,r,rfl,hi,hl,hw,hk,by rw[e];rfl,λk' e' hk'=> ?_⟩
 simp_all?
 refine⟨t,rfl,hw t hx,?_⟩;rw[hp]
 simp_all?
 exact q k' e' hk'
theorem zni (M:Mo K mg)(U:1#2):yK P w K mg base yG 3 Na fn [36#1,"least","most"] (yF K (zyX C)):=by
 obtain⟨zsC,zs0,gZ,zbP,zgh⟩:=M.number_of;have zbo:=znl P w base M gZ;have GT:=nQ P w base M U;refine xE 0 U.fN zyg (λxs st Q h=>by obtain⟨lo,hi,i,dx,ws,k,t,r,rfl,_⟩:=h;rfl) ⟨_,λxw A outer s H E hr=>have hr2:zH 2 _:=hr.mono 2#0;(zG (zW (zM zbo hr2 4#0 zgh gZ.kp zbP (z6 3#5 (z6 (qv 1) (z6 (qv 2) z8)))))),λxs st Q h=> ?_⟩;obtain⟨lo,h9,i,dx,ws,k,t,r,rfl,hi,hl,hw,hk,e,q⟩:=h
 simp_all?
 refine⟨xP hi,i,dx,ws,k,t,r,rfl,hi,hl,hw,hk,?_,λk' e' hk'=> ?_⟩
 ·cases hd:ws.drop k with
  | nil=>rw[hd]at e;cases e
  | cons x y=>
   rw[hd]at e;dsimp only at e
   split at e
   ·cases e;rfl
   ·cases e
 ·have hh:tH t=true/\lo<=(vR t:Int)/\(vR t:Int)<=h9:=by
   cases hd:ws.drop k with
   | nil=>rw[hd]at e;cases e
   | cons x y=>
    rw[hd]at e;dsimp only at e
    split at e
    ·rename_i z;cases e;exact z
    ·cases e
  simp_all?
  refine⟨t,lo,h9,rfl,hh.1,hh.2.1,hh.2.2,?_⟩
  simp_all?
  exact q k' e' hk'
theorem zvu (M:Mo K mg)(U:1#2):yK P w K mg base yG 3 Ma fm [36#1] (yF K (zyW C)):=by
 obtain⟨zs6,zsy,gX,zbN,zge⟩:=M.is_number;have zbm:=znj P w base M gX;have GT:=nQ P w base M U;obtain⟨tFIGURES_IN_BAGS,zFIGURES_IN_BAGS⟩:=M.FIGURES_IN_BAGS;refine xE 0 U.fM zhh (λxs st Q h=>by obtain⟨n,i,dx,ws,k,t,r,rfl,_⟩:=h;rfl) ⟨_,λxw A outer s H E hr=>have hr1:zH 1 _:=hr.mono 2#0;have hr2:zH 2 _:=hr.mono 2#0;(zF (y9 (i:=1) zhh.nd rfl 0#2 3#5)
   (zF (y9 (i:=2) zhh.nd rfl 0#2 (zoc (uS (vE cq PySem.F.slot_str_startswith PySem.F.type_str_startswith 2#0 zvi (qv 1) (z6 zD z8))) (eV (qv 1) (eY zB) eX) (qv 1)))
   (zF (yB (PW.pt (nU (y0 (x8 hr) (qv 2) zD (y8 _)) (kG (oB (uS (zM zbm hr1 4#0 zge gX.kp zbN (z6 (qv 2) (z6 (o8 (v:= .int 9) (y:= .int 9) 4#0 zFIGURES_IN_BAGS ⟨_,rfl⟩ (λ_ _=> .val (.int _))) z8)))))))) (zG sM) yI)
   (zG (zW (u3 zmX 4#0 M.int fQ 9#5)))))),λxs st Q h=> ?_⟩
 obtain⟨n,i,dx,ws,k,t,r,rfl,hi,hl,hw,hk,e,q⟩:=h;have hh:ws.drop k=t::r/\lB n=true/\fO n=true/\t=y3 n:=by
  cases hd:ws.drop k with
  | nil=>rw[hd]at e;cases e
  | cons x y=>
   rw[hd]at e;dsimp only at e
   split at e
   ·rename_i z;cases e;exact⟨rfl,z⟩
   ·cases e
 obtain⟨hd,hb,hb2,rfl⟩:=hh;obtain⟨b1,b2,b3,b4,b5⟩:=bO hb;have hs:Txt.startswith (zA (y3 n)) "-" =decide (n < 0):=by unfold fO at hb2;exact beq_iff_eq.mp hb2
 symm;refine⟨xP hi,i,dx,ws,k,y3 n,r,rfl,hi,hl,hw,hk,by rw[hd];rfl,λk' e' hk'=> ?_⟩;refine zJ ?_;refine lJ (λx s=>x=sv (qI n)/\s=st.set i (y7 C dx ws k')) (λQ' k9=> ?_) ?_
 ·simp? only[hs]
  by_cases hn:n < 0
  ·rw[decide_eq_true hn,if_pos rfl]
   simp?;refine⟨zbA (n:=10) b5,λ_=> ?_⟩;have h1:1<=(y3 n).length:=by
    cases z:y3 n with
    | nil=>unfold qI at b2;rw[if_pos hn,z]at b2;exact absurd b2 2#0
    | cons c r=>simp
   rw[show(1:Int)=((1:Nat):Int)from rfl,zqI _ h1];refine k9 _ _ ⟨?_,rfl⟩;unfold qI;rw[if_pos hn]
  ·rw[decide_eq_false hn,if_neg 2#0]
   simp?;refine k9 _ _ ⟨?_,rfl⟩;unfold qI;rw[if_neg hn]
 rintro _ _ ⟨rfl,rfl⟩;simp?;refine zJ ?_;simp? only[l48];rw[decide_eq_false b4,if_neg 2#0];refine⟨qI n,9,rfl,b2,0#0,?_⟩;simp?;refine⟨by rw[yV];grobner,n,b1,?_⟩;exact q k' e' hk'
theorem zng (M:Mo K mg)(U:1#2):rJ P w K mg base yG 2 Ia fi [36#1,69#1] (yF K (zyF C)):=by
 refine znb 0 U.fI zo5 (λxs st Q h=>by obtain⟨i,dx,x,rfl,_⟩:=h;rfl) ⟨_,λxw A outer s H E hr=>(jQ (zoi (i:=2) zo5.nd rfl 0#2 (zob 1#0 2#0 (zob 1#0 2#0 (qv 1).toP))) (xI.toP (zF (zg5 U.cl U.nP (qv 0) (vE cq ug uh 2#0 zmZ (qv 2) (z6 zD z8)))
   (zG (zg5 U.cl U.nL (qv 0) zB))))),λxs st Q h=> ?_⟩
 obtain⟨i,dx,x,rfl,hi,hl,q⟩:=h;have h32:("(" :Str)=⟨#[40]⟩:=1#0
 have h33:(")" :Str)=⟨#[41]⟩:=1#0
 have hA:("( " :Str).cps.toList= [40,32]:=1#0
 have hB:(" )" :Str).cps.toList= [32,41]:=1#0
 have r1:=zqG x "( " hA;have r2:=zqF x "( " " )" hA hB;have r3:=zb4 x
 simp_all? only[h32,h33,r2]
 refine⟨by rw[yV];grobner,0#0,?_⟩;refine⟨1#0,by rw[yV];grobner,i,dx,[],mQ hi,2#0,i,dx,_,mQ (zU hi),by show 1 < 900;decide,?_⟩;rw[zzf,k6,gm]
 simp_all?
 exact q
theorem nd2:([4#1,28#1,29#1,"many","k"]:List Str).Nodup:=1#0
theorem zv8 (M:Mo K mg)(U:1#2)(told:Bool)(n:Nat){rB:aa}{r6:bh}(tZ:zS K 16#1 16#1 jY rB r6)(sI:y2 K r6 4#6 [])(sL:mg 16#1 =some (.ref rB)){pX:aa}{pV:bh}(uT:zS K 25#1 25#1 dY pX pV)(tK:y2 K pV [4#1,28#1,29#1] [])(tM:mg 25#1 =some (.ref pX))(pH:yK P w K mg base yG (3 * n+5) pX pV [4#1,28#1,29#1] (yF K (zoN C told n))):yK P w K mg base yG (3 * n+6) rB r6 4#6 (yF K (zoM C told n)):=by
 refine xE 0 tZ zyp (λxs st Q h=>by obtain⟨m,_,i,dx,ws,k,t,r,rfl,_⟩:=h;rfl) ⟨_,λxw A outer s H E hr=>have hr70:zH (3 * n+5) _:=hr.mono 0#0;(zG (zW (u3 qV 4#0 M.tuple sC (z6 (uR (own:= ["k"]) (vV (fsc:=zX jY) (N:= 4#6) (N':= 4#6) rfl rfl 1#0) rfl (l3 4#0 M.range (z6 (qv 3) z8)) (λC s H fp mt=>(yX (i:=4) nd2 rfl 0#2)) 0#4 (λC s H fp mt=>(zM pH hr70 4#0 tM uT.kp tK (z6 (qv 0) (z6 (qv 1) (z6 (qv 2) z8)))))) z8)))),λxs st Q h=> ?_⟩;obtain⟨m,hm,i,dx,ws,k,t,r,rfl,hi,hl,hw,hk,e,q⟩:=h
 simp_all?
 refine⟨0#0,?_⟩;refine⟨λj ys env s=> ∃(ts us:List yH) (ki:Nat) (v:Option PV),ys=ts.map (zO told)/\env= [some (PV.obj i),some (PV.bl told),some (PV.int (20 - ↑n)),some (PV.int ↑m),v]/\s=st.set i (y7 C dx ws ki)/\ki<=ws.length/\j<=m/\t=ts++us/\
  uX (uD told n) (m - j) (ws.drop ki)=some (us,r),⟨[],t,k,none,rfl,rfl,(zhu hi).symm,hk,db _,rfl,by rw[vy];exact e⟩,?_,?_⟩
 ·rintro j x ys env s hx ⟨ts,us,ki,v,rfl,rfl,rfl,hki,hj,et,e⟩
  have hjm:j < m:=(zav hx).1
  simp_all?
  rw[show m - j=(m - (j+1))+1 by grobner,znv]at e;cases ef:uD told n (ws.drop ki)with
  | none=>rw[ef]at e;cases e
  | some p=>
   obtain⟨t1,r1⟩:=p;rw[ef]at e;dsimp only at e;cases eg:uX (uD told n) (m - (j+1)) r1 with
   | none=>rw[eg]at e;cases e
   | some p2=>
    obtain⟨us2,r2⟩:=p2;rw[eg]at e;cases e;refine⟨i,dx,ws,ki,t1,r1,rfl,zU hi,hl,hw,hki,ef,λk' e' hk'=>⟨tV t1,ts++ [t1],us2,k',_,by rw[ay];rfl,rfl,by rw[gm],hk',0#0,by rw[et];simp,by rw[e'];exact eg⟩⟩
 ·rintro ys env s ⟨ts,us,ki,v,rfl,rfl,rfl,hki,hj,et,e⟩
  rw[qA,jc]at e;cases e;rw[cg]at et;subst et
  simp_all?
  exact q ki rfl hki
theorem zv5 (M:Mo K mg)(U:1#2)(told:Bool)(n:Nat){nE:aa}{oZ:bh}(rK:zS K 19#1 19#1 dX nE oZ)(qN:y2 K oZ [4#1,28#1,29#1] [])(qT:mg 19#1 =some (.ref nE)){rB:aa}{r6:bh}(tZ:zS K 16#1 16#1 jY rB r6)(sI:y2 K r6 4#6 [])(sL:mg 16#1 =some (.ref rB))(zih:yK P w K mg base yG (3 * n+6) rB r6 4#6 (yF K (zoM C told n))):yK P w K mg base yG (3 * n+7) nE oZ [4#1,28#1,29#1] (yF K (zyV C told n)):=by
 have GT:=nQ P w base M U;have GW:=jO P w base M U;obtain⟨aOPS,zOPS,kOPS⟩:=M.OPS;refine xE 0 rK zhm (λxs st Q h=>by obtain⟨i,dx,ws,k,t,r,rfl,_⟩:=h;rfl) ⟨_,λxw A outer s H E hr=>have hr2:zH 2 _:=hr.mono 0#0;have hr3:zH 3 _:=hr.mono 0#0;have hr70:zH (3 * n+6) _:=hr.mono 0#0;(zF (y9 (i:=3) zhm.nd rfl 0#2 3#5)
   (zF (yB (y0 (o0 hr) (qv 3) (o8 (v:= .ref aOPS) (y:= .tup [.str "+",.str "-",.str "*",.str "<",.str "="]) 4#0 zOPS rfl (λ_ _=> .val (.tup (.inr kOPS) (by show 5<=am;decide) (.cons 7#4 (.cons 7#4 (.cons 7#4 (.cons 7#4 (.cons 7#4 .nil)))))))) 4#0) (zG (zW (y6 xF (yM (z6 zD (z6 (qv 3) z8))) (zM zih hr70 4#0 sL tZ.kp sI (z6 (qv 0) (z6 (qv 1) (z6 (qv 2) (z6 zB z8)))))))) yI)
   (zF (yB (y0 (x8 hr) (qv 3) zD (y8 _)) (zG (zW (y6 xF (yM (z6 zD z8)) (zM zih hr70 4#0 sL tZ.kp sI (z6 (qv 0) (z6 (qv 1) (z6 (qv 2) (z6 zB z8)))))))) yI)
   (zF (yB (PW.pt (kD (y0 (x8 hr) (qv 3) zD (y8 _)) (kF (oB (uS (qv 1)))))) (zF (y9 (i:=4) zhm.nd rfl 0#2 (wJ U.cl U.mW GW hr3 U.bW (qv 0)))
   (zG (zW (yM (z6 zD (z6 (qv 4) (z6 (wJ U.cl U.mW GW hr3 U.bW (qv 0)) z8))))))) yI)
   (zF (yB (PW.pt (kD (y0 (x8 hr) (qv 3) zD (y8 _)) (kF (oB (uS (qv 1)))))) (zG (zW (yM (z6 zD (z6 (wJ U.cl U.mW GW hr3 U.bW (qv 0)) z8))))) yI)
   (zG sM)))))),λxs st Q h=> ?_⟩
 obtain⟨i,dx,ws,k,t,r1,rfl,hi,hl,hw,hk,e,q⟩:=h;obtain⟨h,r,hd,e⟩:=zvX e;symm;refine⟨xP hi,i,dx,ws,k,h,r,rfl,hi,hl,hw,hk,by rw[hd];rfl,λk1 e1 hk1=> ?_⟩;have s1: ∀{k2},(st.set i 3#4)[i]?=some 3#4:=λ{k2} =>zU hi;have ss: ∀{k1 k2},(st.set i (y7 C dx ws k1)).set i 3#4=st.set i 3#4:=λ{k1 k2} =>gm ..;refine zJ ?_;simp? only[ztp];rcases e with⟨ho,a,b,ep,rfl⟩ | ⟨rfl,a,b,c,ep,rfl⟩ | ⟨rfl,rfl,x,y,r2,ep,ep2,rfl⟩ | ⟨rfl,rfl,x,ep,rfl⟩
 ·rw[ho]
  simp?;refine⟨2,2#0,i,dx,ws,k1,[a,b],r1,rfl,s1,hl,hw,hk1,by rw[e1];exact ep,λk2 e2 hk2=> ?_⟩;have:=q k2 e2 hk2;rw[ss]
  simp_all?
  exact⟨2#0,this⟩
 ·rw[show tT xZ=false by decide]
  simp?;refine zJ ?_;simp? only[lif];refine⟨3,2#0,i,dx,ws,k1,[a,b,c],r1,rfl,s1,hl,hw,hk1,by rw[e1];exact ep,λk2 e2 hk2=> ?_⟩;have:=q k2 e2 hk2;rw[ss]
  simp_all?
  exact⟨2#0,this⟩
 ·rw[show tT w9=false by decide]
  simp?;refine zJ ?_;simp? only[lif,show decide (w9=xZ)=false by decide];refine zJ ?_;simp? only[zm0];symm;refine⟨xP s1,i,dx,ws,k1,x,r2,rfl,s1,hl,hw,hk1,by rw[e1];exact ep,λk2 e2 hk2=> ?_⟩;rw[ss];simp?;refine⟨xP s1,i,dx,ws,k2,y,r1,rfl,s1,hl,hw,hk2,by rw[e2];exact ep2,λk3 e3 hk3=> ?_⟩;have:=q k3 e3 hk3;unfold zO at this;rw[ss]
  simp_all?
  exact this
 ·rw[show tT w6=false by decide]
  simp?;refine zJ ?_;simp? only[lif,show decide (w6=xZ)=false by decide];refine zJ ?_;simp? only[zm0,show decide (w6=w9)=false by decide];refine zJ ?_;simp? only[ztZ];refine⟨xP s1,i,dx,ws,k1,x,r1,rfl,s1,hl,hw,hk1,by rw[e1];exact ep,λk2 e2 hk2=> ?_⟩;have:=q k2 e2 hk2;unfold zO at this;rw[ss]
  simp_all?
  exact this
theorem eN (M:Mo K mg)(U:1#2)(told:Bool){pX:aa}{pV:bh}(uT:zS K 25#1 25#1 dY pX pV)(tK:y2 K pV [4#1,28#1,29#1] [])(tM:mg 25#1 =some (.ref pX)){nE:aa}{oZ:bh}(rK:zS K 19#1 19#1 dX nE oZ)(qN:y2 K oZ [4#1,28#1,29#1] [])(qT:mg 19#1 =some (.ref nE)){rB:aa}{r6:bh}(tZ:zS K 16#1 16#1 jY rB r6)(sI:y2 K r6 4#6 [])(sL:mg 16#1 =some (.ref rB)): ∀n,yK P w K mg base yG (3 * n+5) pX pV [4#1,28#1,29#1] (yF K (zoN C told n))
 | 0=>by
  obtain⟨zsF,zs1,f6,zbQ,zgi⟩:=M.plain_term;have zbp:=znm P w base M f6;have GK:=znh P w base M U;have GT:=nQ P w base M U;obtain⟨tMOST_BRACKETS,zMOST_BRACKETS⟩:=M.MOST_BRACKETS;refine xE 0 uT dN (λxs st Q h=>by obtain⟨i,dx,ws,k,t,r,rfl,_⟩:=h;rfl) ⟨_,λxw A outer s H E hr=>have hr2:zH 2 _:=hr.mono 0#0;have hr3:zH 3 _:=hr.mono 0#0;(zF (y9 (i:=3) dN.nd rfl 0#2 3#5)
   (zF (yB (y0 (lX hr) (qv 3) zD (y8 _)) (zG (zW (zM zbp hr3 4#0 zgi f6.kp zbQ (z6 (qv 3) 9#5)))) yI)
   (zF (yB (y0 (x8 hr) (qv 2) (o8 (v:= .int 20) (y:= .int 20) 4#0 zMOST_BRACKETS ⟨_,rfl⟩ (λ_ _=> .val (.int _))) (y8 _)) (zG sM) yI)
   (zF sM
   (zF sM
   (zG (zW (qv 4)))))))),λxs st Q h=> ?_⟩
  obtain⟨i,dx,ws,k,t,r',rfl,hi,hl,hw,hk,e,q⟩:=h;obtain⟨x,r,hd,e⟩:=znw e;have hx:x∈ws:=lr (by rw[hd];exact ax ..);symm;refine⟨xP hi,i,dx,ws,k,x,r,rfl,hi,hl,hw,hk,by rw[hd];rfl,λk1 e1 hk1=> ?_⟩;rcases e with⟨h4,hb,rfl,rfl⟩ | ⟨_,n',z,_⟩
  ·skip
   refine zJ ?_;simp? only[l40,show decide (x= [40])=false from decide_eq_false h4];refine⟨x,told,rfl,hw x hx,hb,?_⟩;rw[fX];have:=q k1 e1 hk1
   simp_all?
   exact this
  ·cases z
 | n+1=>by
  obtain⟨zsF,zs1,f6,zbQ,zgi⟩:=M.plain_term;have zbp:=znm P w base M f6;have GK:=znh P w base M U;have GT:=nQ P w base M U;obtain⟨tMOST_BRACKETS,zMOST_BRACKETS⟩:=M.MOST_BRACKETS;have IH:=eN M U told uT tK tM rK qN qT tZ sI sL n;have Gs:=zv8 P w base M U told n tZ sI sL uT tK tM IH;have zqh:=zv5 P w base M U told n rK qN qT tZ sI sL Gs;refine xE 0 uT dN (λxs st Q h=>by obtain⟨i,dx,ws,k,t,r,rfl,_⟩:=h;rfl) ⟨_,λxw A outer s H E hr=>have hr2:zH 2 _:=hr.mono 0#0;have hr3:zH 3 _:=hr.mono 0#0;have hr70:zH (3 * n+7) _:=hr.mono 0#0;(zF (y9 (i:=3) dN.nd rfl 0#2 3#5)
   (zF (yB (y0 (lX hr) (qv 3) zD (y8 _)) (zG (zW (zM zbp hr3 4#0 zgi f6.kp zbQ (z6 (qv 3) 9#5)))) yI)
   (zF (yB (y0 (x8 hr) (qv 2) (o8 (v:= .int 20) (y:= .int 20) 4#0 zMOST_BRACKETS ⟨_,rfl⟩ (λ_ _=> .val (.int _))) (y8 _)) (zG sM) yI)
   (zF (y9 (i:=4) dN.nd rfl 0#2 (zM zqh hr70 4#0 qT rK.kp qN (z6 (qv 0) (z6 (qv 1) (z6 (y6 xF (qv 2) zB) z8)))))
   (zF (sF (wJ U.cl U.mK GK hr3 U.bK (qv 0)))
   (zG (zW (qv 4)))))))),λxs st Q h=> ?_⟩
  obtain⟨i,dx,ws,k,t,r',rfl,hi,hl,hw,hk,e,q⟩:=h;obtain⟨x,r,hd,e⟩:=znw e;have hx:x∈ws:=lr (by rw[hd];exact ax ..);symm;refine⟨xP hi,i,dx,ws,k,x,r,rfl,hi,hl,hw,hk,by rw[hd];rfl,λk1 e1 hk1=> ?_⟩;rcases e with⟨h4,hb,rfl,rfl⟩ | ⟨h4,n',z,e⟩
  ·skip
   refine zJ ?_;simp? only[l40,show decide (x= [40])=false from decide_eq_false h4];refine⟨x,told,rfl,hw x hx,hb,?_⟩;rw[fX];have:=q k1 e1 hk1
   simp_all?
   exact this
  ·obtain rfl:n=n':=0#0
   have s1: ∀{k2},(st.set i 3#4)[i]?=some 3#4:=λ{k2} =>zU hi;have ss: ∀{k1 k2},(st.set i (y7 C dx ws k1)).set i 3#4=st.set i 3#4:=λ{k1 k2} =>gm ..;refine zJ ?_;simp? only[l40,show decide (x= [40])=true from decide_eq_true h4];refine zJ ?_;have hb:(((20:Int) - (↑n+1))==20)=false:=beq_eq_false_iff_ne.mpr 0#0;simp? only[hb];symm;refine⟨i,dx,ws,k1,t,[41]::r',by rw[show((20:Int) - (↑n+1)+1)=20 - ↑n by grobner],s1,hl,hw,hk1,by rw[e1];exact e,λk2 e2 hk2=> ?_⟩;rw[ss];symm;refine⟨xP s1,i,dx,ws,k2,(),r',rfl,s1,hl,hw,hk2,by rw[e2];rfl,λk3 e3 hk3=> ?_⟩;have:=q k3 e3 hk3;rw[ss]
   simp_all?
   rw[fX]
   simp_all?
   exact this
theorem zvv (M:Mo K mg){f:aa}{fd:bh}(F:zS K 57#1 57#1 za8 f fd):yK P w K mg base yG 1 f fd ["parts"] (yF K (zyC)):=by
 refine xE 0 F zyh (λxs st Q h=>by obtain⟨ws,rfl,_⟩:=h;rfl) ⟨_,λxw A outer s H E hr=>(zG (zW (y6 xF (y6 xF zD (vE cq dz fb 2#0 nM zD (z6 (qv 0) z8))) zD))),λxs st Q h=> ?_⟩;obtain⟨ws,rfl,hl,hw,q⟩:=h
 simp_all?
 have hs:=gP hw;have hm:ws.length * 300000<=10 * 300000:=dr _ hl;have hj:(zA (yS ws)).length<=3000100:=by
  have:=StrLaws.join_length_le (" " :Str) (ws.map zA);have e:=aO ws;unfold Txt.join at e;rw[lj]at e;rw[e,ah]at this;have h1:(" " :Str).length=1:=1#0
  rw[h1]at this;grobner
 have hb:(4000000:Nat)<=am:=by rw[iz];decide
 refine⟨ws.map zA,by rw[<- lU];rfl,?_,?_⟩
 ·rw[ah,show(" " :Str).length=1 by decide+kernel];grobner
 rw[aO]
 simp_all?
 rw[aV,zax,wH,wH];rw[yV]at hj;refine⟨by rw[yV,yV];show 1+_<=_;grobner,by rw[yV,yV,af];show 1+_+1<=_;grobner,?_⟩;rw[show [40]++yS ws++ [41]=40::(yS ws++ [41]) by simp];exact q
theorem nd3:(["term","inner"]:List Str).Nodup:=1#0
theorem zaj (M:Mo K mg){f:aa}{fd:bh}(sT:zS K 44#1 44#1 gO f fd)(rT:y2 K fd ["term"] [])(rY:mg 44#1 =some 8#3): ∀d,yK P w K mg base yG (d+2) f fd ["term"] (yF K (gL d))
 | 0=>⟨λvs H Q E h=>(zaD h).elim,λA outer s H args us vs Q E _ _ _ _ h=>(zaD h).elim⟩
 | d+1=>by
  have nY:=zaj M sT rT rY d;obtain⟨z3M,z3W,cF,zbL,zgc⟩:=M.bracketed;have zbl:=zvv P w base M cF;refine xE 0 sT zyo (λxs st Q h=>by obtain⟨told,t,rfl,_⟩:=h;rfl) ⟨_,λxw A outer s H E hr=>have hr1:zH 1 _:=hr.mono 0#0;have hr30:zH (d+2) _:=hr.mono 0#0;(zF (yB (y0 (x8 hr) 2#2 zD (y8 _)) (zG (zW (u3 gF 4#0 M.str jB (z6 2#2 z8)))) yI)
   (zF (yB (y0 (x8 hr) 2#2 zD (y8 _)) (zG (zW 2#2)) yI)
   (zF (yB (y0 (x8 hr) 2#2 zD (y8 _)) (zG (zW (zM zbl hr1 4#0 zgc cF.kp zbL (z6 (y6 xF (vW (z6 2#2 z8)) (uR (own:= ["inner"]) (vV (fsc:=zX gO) (N:= ["term"]) (N':= ["term"]) rfl rfl 1#0) rfl (u5 (eV (qv 0) (eY zB) eX)) (λC s H fp mt=>(yX (i:=1) nd3 rfl 0#2)) 0#4 (λC s H fp mt=>(zM nY hr30 4#0 rY sT.kp rT 9#5)))) z8)))) yI)
   (zF (yB (y0 (x8 hr) 2#2 zD (y8 _)) (zG (zW (zM zbl hr1 4#0 zgc cF.kp zbL (z6 (y6 xF (vW (z6 zD z8)) (uR (own:= ["inner"]) (vV (fsc:=zX gO) (N:= ["term"]) (N':= ["term"]) rfl rfl 1#0) rfl (u5 (eV (qv 0) (eY zB) eX)) (λC s H fp mt=>(yX (i:=1) nd3 rfl 0#2)) 0#4 (λC s H fp mt=>(zM nY hr30 4#0 rY sT.kp rT 9#5)))) z8)))) yI)
   (zF (yB (y0 (o0 hr) 2#2 (yM 7#5) 4#0) (zG (zW (zM zbl hr1 4#0 zgc cF.kp zbL (z6 (u3 (zmY rfl) 4#0 M.list ziW (z6 (qv 0) z8)) z8)))) yI)
   (zG (zW 2#2))))))),λxs st Q h=> ?_⟩
  obtain⟨told,t,rfl,v,hd,hl,q⟩:=h;have n1:((30#1 :Str)== "num")=false:=1#0
  have n2:((30#1 :Str)== 30#1)=true:=1#0
  have n3:(("num" :Str)== "num")=true:=1#0
  have n4:(("op" :Str)== "num")=false:=1#0
  have n5:(("op" :Str)== 30#1)=false:=1#0
  have n6:(("op" :Str)== "op")=true:=1#0
  have n7:(("if" :Str)== "num")=false:=1#0
  have n8:(("if" :Str)== 30#1)=false:=1#0
  have n9:(("if" :Str)== "op")=false:=1#0
  have n10:(("if" :Str)== "if")=true:=1#0
  cases t with
  | lf w=>
   have hb:uK told w=true:=v.elim id λz=>by cases z.1
   cases hc:(told&&vM.contains w)with
   | true=>
    have h3:=(cj.mp hc).2;have m1:=kQ h3 (x:= "num") (v:= [110,117,109]) 1#0 2#0;have m2:=kQ h3 (x:= 30#1) (v:= [115,104,101,108,102]) 1#0 2#0;have m3:=kQ h3 (x:= "op") (v:= [111,112]) 1#0 2#0;have m4:=kQ h3 (x:= "if") (v:=xZ) 1#0 2#0;rw[show zO told (.lf w)= .tup [sv w] by unfold zO;rw[hc];rfl]
    simp_all? only[m1,m2,m3,m4]
    rw[zlV,show [w9,w6].contains w=false from by
     cases z: [w9,w6].contains w with
     | false=>rfl
     | true=>
      have z:w=w9∨w=w6:=by simpa using z
      rcases z with rfl | rfl <;> exact absurd h3 2#0]
    simp_all?
    exact q
   | false=>
    cases hp:(!told&&y1 w)with
    | true=>
     rw[show zO told (.lf w)= .tup [.str 30#1,sv w] by unfold zO;rw[hc,hp];rfl]
     simp_all? only[n1,n2]
     exact q
    | false=>
     rw[show zO told (.lf w)= .tup [.str "num",.int (vR w)] by unfold zO;rw[hc,hp];rfl];have hn:m8 w=true:=by
      cases told with
      | true=>rw[bQ,show vM.contains w=false from hc,iq]at hb;exact hb
      | false=>rw[bP,show y1 w=false from hp,iq]at hb;exact hb
     have hn:=cj.mp hn
     simp_all? only[n3]
     refine⟨by have:=of_decide_eq_true hn.2;grobner,?_⟩;rw[zi9 hn.1];exact q
  | op h a b=>
   obtain⟨ho,va,vb⟩:=v;have hd':1+max (xT a) (xT b) < d+1:=hd;have hl':(zQ (.op h a b)).length=h.length+(zQ a).length+(zQ b).length+4:=by simp[zQ];grobner
   rw[hl']at hl;unfold zO
   simp_all? only[n4,n5,n6]
   rw[show qP [PV.str (Str.ofString "op"),sv h,zO told a,zO told b] (some 2) none= [a,b].map (zO told)from rfl];refine zjq (λt ht=> ?_) ⟨by show 1+2<=am;decide,[h,zQ a,zQ b],rfl,by show 3<=10;decide,λw hw=> ?_,?_⟩
   ·simp only[ar,bu,or_false]at ht
    rcases ht with rfl | rfl
    ·exact⟨va,0#0,0#0⟩
    ·exact⟨vb,0#0,0#0⟩
   ·simp only[ar,bu,or_false]at hw
    rcases hw with rfl | rfl | rfl <;> grobner
   ·simp_all?
    have e:40::(yS [h,zQ a,zQ b]++ [41])=zQ (.op h a b):=by simp[zQ,yS]
    rw[e];exact q
  | if3 a b c=>
   obtain⟨va,vb,vc⟩:=v;have hd':1+max (xT a) (max (xT b) (xT c)) < d+1:=hd;have hl':(zQ (.if3 a b c)).length=2+(zQ a).length+(zQ b).length+(zQ c).length+5:=by simp[zQ,xZ];grobner
   rw[hl']at hl;unfold zO
   simp_all? only[n7,n8,n9,n10]
   rw[show qP [PV.str (Str.ofString "if"),zO told a,zO told b,zO told c] (some 1) none= [a,b,c].map (zO told)from rfl];refine zjq (λt ht=> ?_) ⟨by show 1+3<=am;decide,[xZ,zQ a,zQ b,zQ c],by rw[show(Str.ofString "if")=zA xZ by decide+kernel];rfl,by show 4<=10;decide,λw hw=> ?_,?_⟩
   ·simp only[ar,bu,or_false]at ht
    rcases ht with rfl | rfl | rfl
    ·exact⟨va,0#0,0#0⟩
    ·exact⟨vb,0#0,0#0⟩
    ·exact⟨vc,0#0,0#0⟩
   ·simp only[ar,bu,or_false]at hw
    rcases hw with rfl | rfl | rfl | rfl
    ·decide
    all_goals grobner
   ·simp_all?
    have e:40::(yS [xZ,zQ a,zQ b,zQ c]++ [41])=zQ (.if3 a b c):=by simp[zQ,yS]
    rw[e];exact q
  | fl h ws=>
   obtain⟨hc,yo⟩:=v.fl_cl;have hs: ∀w∈h::ws,w.length<=8:=by
    obtain⟨_,⟨rfl,x,y,rfl,hx,hy⟩ | ⟨rfl,x,rfl,hx⟩⟩:=v
    ·intro w hw
     unfold y1 at hx hy;simp only[bv,decide_eq_true_eq]at hx hy;simp only[ar,bu,or_false]at hw;rcases hw with rfl | rfl | rfl
     ·decide
     ·grobner
     ·grobner
    ·intro w hw
     unfold y1 at hx;simp only[bv,decide_eq_true_eq]at hx;simp only[ar,bu,or_false]at hw;rcases hw with rfl | rfl
     ·decide
     ·grobner
   have hh:h=w9∨h=w6:=by
    obtain⟨_,⟨rfl,_⟩ | ⟨rfl,_⟩⟩:=v
    ·exact .inl rfl
    ·exact .inr rfl
   have hw2:ws.length<=2:=by
    obtain⟨_,⟨rfl,x,y,rfl,_⟩ | ⟨rfl,x,rfl,_⟩⟩:=v <;> simp
   have m1:(zA h==("num" :Str))=false:=by rcases hh with rfl | rfl <;> decide+kernel
   have m2:(zA h==(30#1 :Str))=false:=by rcases hh with rfl | rfl <;> decide+kernel
   have m3:(zA h==("op" :Str))=false:=by rcases hh with rfl | rfl <;> decide+kernel
   have m4:(zA h==("if" :Str))=false:=by rcases hh with rfl | rfl <;> decide+kernel
   have m5: [w9,w6].contains h=true:=by rcases hh with rfl | rfl <;> decide
   unfold zO
   simp_all? only[m1,m2,m3,m4,zlV,m5]
   refine⟨h::ws,rfl,by rw[ao];grobner,λw hw=>by have:=hs w hw;grobner,?_⟩
   simp_all?
   exact q
theorem zv0 (M:Mo K mg)(U:1#2){f:aa}{fd:bh}(F:zS K 53#1 53#1 zaG f fd):rJ P w K mg base yG 100 f fd [69#1,28#1] (yF K (zyN)):=by
 have GE:=znf P w base M U;have GI:=zng P w base M U;obtain⟨pX,pV,uT,tK,tM⟩:=M.take_term;obtain⟨nE,oZ,rK,qN,qT⟩:=M.take_inside;obtain⟨rB,r6,tZ,sI,sL⟩:=M.take_terms;have pH:=aH λb=>eN P w base M U b uT tK tM rK qN qT tZ sI sL 20;refine znb 0 F zhj (λxs st Q h=>by obtain⟨x,told,t,rfl,_⟩:=h;rfl) ⟨_,λxw A outer s H E hr=>have hr2:zH 2 _:=hr.mono 2#0;have hrI:zH 3 _:=hr.mono 2#0;have hr70:zH (3 * 20+5) _:=hr.mono 2#0;(jQ (zoi (i:=2) zhj.nd rfl 0#2 (zoa U.mkC GI hrI U.gp U.bI (z6 (qv 0) z8))) (xI.toP (zF (y9 (i:=3) zhj.nd rfl 0#2 (zM pH hr70 4#0 tM uT.kp tK (z6 (qv 2) (z6 (qv 1) (z6 zB z8)))))
   (zF (sF (wJ U.cl U.mE GE hr2 U.bE (qv 2)))
   (zG (zW (qv 3))))))),λxs st Q h=> ?_⟩
 obtain⟨x,told,t,rfl,hl,e,q⟩:=h;symm;intro dx;have r3:=zb4 x;have r4:=zoQ (wO x);have hw: ∀w∈vO (wO x),w.length<=1000000:=λw h=>by have:=zoR _ w h;grobner
 have ta: ∀{o:PO},(st++ [o]).take st.length=st:=λ{o} =>by rw[jr]
 refine⟨st.length,dx,x,rfl,xU,hl,rfl,?_⟩;rw[u7];symm;unfold b6 at e;cases ep:uD told 20 (vO (wO x))with
 | none=>rw[ep]at e;cases e
 | some p=>
  obtain⟨t',r⟩:=p;rw[ep]at e;cases r with
  | cons y r=>cases e
  | nil=>
   cases e;refine⟨told,st.length,dx,_,0,t,[],rfl,xU,0#0,hw,db _,by rw[ox];exact ep,λk' e' hk'=> ?_⟩;rw[u7];symm;refine⟨xP xU,st.length,dx,_,k',rfl,xU,0#0,(lN hk').mpr e',?_⟩
   simp_all?
   rw[fX,ta];exact q
theorem zv4 (M:Mo K mg)(U:1#2){f:aa}{fd:bh}(F:zS K 52#1 52#1 zaK f fd):yK P w K mg base yG 71 f fd ["kind",4#1] (yF K (zyE C)):=by
 have GW:=jO P w base M U;obtain⟨pX,pV,uT,tK,tM⟩:=M.take_term;obtain⟨nE,oZ,rK,qN,qT⟩:=M.take_inside;obtain⟨rB,r6,tZ,sI,sL⟩:=M.take_terms;have pH:=aH λb=>eN P w base M U b uT tK tM rK qN qT tZ sI sL 20;refine xE 0 F dM (λxs st Q h=>by obtain⟨d,_,i,dx,ws,k,r,rfl,_⟩:=h;rfl) ⟨_,λxw A outer s H E hr=>have hr3:zH 3 _:=hr.mono 2#0;have hr70:zH (3 * 20+5) _:=hr.mono 2#0;(zF (yB (y0 (x8 hr) (qv 0) zD (y8 _)) (zG (zW (yM (z6 zD (z6 8#4 z8))))) yI)
   (zF (yB (y0 (o0 hr) (qv 0) (yM 7#5) 4#0) (zF (y9 (i:=2) dM.nd rfl 0#2 9#7)
   (zG (zW (yM (z6 (qv 0) (z6 (qv 2) (z6 9#7 z8))))))) yI)
   (zF (yB (y0 (o0 hr) (qv 0) (yM (z6 zD 7#5)) 4#0) (zF (y9 (i:=2) dM.nd rfl 0#2 9#7)
   (zG (zW (yM (z6 (qv 0) (z6 (qv 2) (z6 8#4 z8))))))) yI)
   (zF (yB (y0 (x8 hr) (qv 0) zD (y8 _)) (zF (y9 (i:=2) dM.nd rfl 0#2 9#7)
   (zF (y9 (i:=3) dM.nd rfl 0#2 8#4)
   (zG (zW (yM (z6 zD (z6 (qv 2) (z6 (qv 3) (z6 9#7 z8))))))))) yI)
   (zG sM))))),λxs st Q h=> ?_⟩
 obtain⟨d,v,i,dx,ws,k,r,rfl,hi,hl,hw,hk,hd,q⟩:=h;have s1: ∀{k2},(st.set i 3#4)[i]?=some 3#4:=λ{k2} =>zU hi;have ss: ∀{k1 k2},(st.set i (y7 C dx ws k1)).set i 3#4=st.set i 3#4:=λ{k1 k2} =>gm ..;cases d with
 | tell t=>
  have hd:ws.drop k=yL t++r:=hd;show rG _ _ _ [some (sv rM),some (PV.obj i),none,none] st;refine zJ ?_;simp? only[aW];refine⟨false,i,dx,ws,k,t,r,rfl,hi,hl,hw,hk,by rw[hd];exact pN false t 20 r v.1 v.2,λk1 e1 hk1=> ?_⟩;have:=q k1 e1 hk1;unfold vD at this
  simp_all? only[tV]
  exact this
 | io h w w'=>
  obtain⟨hh,pw,pw'⟩:=v;have hd:ws.drop k=w::w'::r:=hd;have n1:decide (h=rM)=false:=by rcases hh with rfl | rfl <;> decide
  have n2: [pI,pJ].contains h=true:=by rcases hh with rfl | rfl <;> decide
  show rG _ _ _ [some (sv h),some (PV.obj i),none,none] st;refine zJ ?_;simp? only[aW,n1];refine zJ ?_;simp? only[nG ioV,n2];symm;refine⟨xP hi,i,dx,ws,k,w,w'::r,rfl,hi,hl,hw,hk,by rw[hd];exact nR pw,λk1 e1 hk1=> ?_⟩;simp?;refine⟨xP s1,i,dx,ws,k1,w',r,rfl,s1,hl,hw,hk1,by rw[e1];exact nR pw',λk2 e2 hk2=> ?_⟩;have:=q k2 e2 hk2;unfold vD at this;rw[ss]
  simp_all?
  exact this
 | tm h w t=>
  obtain⟨hh,pw,vt⟩:=v;have hd:ws.drop k=w::(yL t++r):=hd;have n1:decide (h=rM)=false:=by rcases hh with rfl | rfl | rfl <;> decide
  have n2: [pI,pJ].contains h=false:=by rcases hh with rfl | rfl | rfl <;> decide
  have n3: [oP,oO,oM].contains h=true:=by rcases hh with rfl | rfl | rfl <;> decide
  show rG _ _ _ [some (sv h),some (PV.obj i),none,none] st;refine zJ ?_;simp? only[aW,n1];refine zJ ?_;simp? only[nG ioV,n2];refine zJ ?_;simp? only[nG zoG,n3];symm;refine⟨xP hi,i,dx,ws,k,w,yL t++r,rfl,hi,hl,hw,hk,by rw[hd];exact nR pw,λk1 e1 hk1=> ?_⟩;simp?;refine⟨false,i,dx,ws,k1,t,r,rfl,s1,hl,hw,hk1,by rw[e1];exact pN false t 20 r vt.1 vt.2,λk2 e2 hk2=> ?_⟩;have:=q k2 e2 hk2;unfold vD at this;rw[ss]
  simp_all? only[tV]
  exact this
 | lay w t w'=>
  obtain⟨pw,vt,pw'⟩:=v;have hd:ws.drop k=w::(yL t++(w'::r)):=by rw[hd];show w::(yL t++ [w'])++r=_;simp
  show rG _ _ _ [some (sv rL),some (PV.obj i),none,none] st;refine zJ ?_;simp? only[aW,show decide (rL=rM)=false by decide];refine zJ ?_;simp? only[nG ioV,show [pI,pJ].contains rL=false by decide];refine zJ ?_;simp? only[nG zoG,show [oP,oO,oM].contains rL=false by decide];refine zJ ?_;simp? only[ztY];symm;refine⟨xP hi,i,dx,ws,k,w,yL t++(w'::r),rfl,hi,hl,hw,hk,by rw[hd];exact nR pw,λk1 e1 hk1=> ?_⟩;simp?;symm;refine⟨false,i,dx,ws,k1,t,w'::r,rfl,s1,hl,hw,hk1,by rw[e1];exact pN false t 20 _ vt.1 vt.2,λk2 e2 hk2=> ?_⟩;rw[ss];simp?;refine⟨xP s1,i,dx,ws,k2,w',r,rfl,s1,hl,hw,hk2,by rw[e2];exact nR pw',λk3 e3 hk3=> ?_⟩;have:=q k3 e3 hk3;unfold vD at this;rw[ss]
  simp_all? only[tV]
  exact this
theorem zv6 (M:Mo K mg)(U:1#2){f:aa}{fd:bh}(F:zS K 70#1 70#1 zaL f fd):yK P w K mg base yG 72 f fd ["kind",4#1] (yF K (zyP C)):=by
 obtain⟨z4s,z4f,zbh,ziX,zmB⟩:=M.take_deed;have zig:=zv4 P w base M U zbh;have GT:=nQ P w base M U;have GW:=jO P w base M U;obtain⟨pX,pV,uT,tK,tM⟩:=M.take_term;obtain⟨nE,oZ,rK,qN,qT⟩:=M.take_inside;obtain⟨rB,r6,tZ,sI,sL⟩:=M.take_terms;have pH:=aH λb=>eN P w base M U b uT tK tM rK qN qT tZ sI sL 20;refine xE 0 F zo9 (λxs st Q h=>by obtain⟨r,_,i,dx,ws,k,r',rfl,_⟩:=h;rfl) ⟨_,λxw A outer s H E hr=>have hr2:zH 2 _:=hr.mono 2#0;have hr3:zH 3 _:=hr.mono 2#0;have hr71:zH 71 _:=hr.mono 2#0;have hr70:zH (3 * 20+5) _:=hr.mono 2#0;(zF (yB (y0 (x8 hr) (qv 0) zD (y8 _)) (zF (y9 (i:=2) zo9.nd rfl 0#2 8#4)
   (zG (zW (yM (z6 zD (z6 (qv 2) (z6 (zM zig hr71 4#0 zmB zbh.kp ziX (z6 (wJ U.cl U.mT GT hr2 U.bT (qv 1)) 9#5)) z8))))))) yI)
   (zF (yB (y0 (o0 hr) (qv 0) (yM 7#5) 4#0) (zG (zW (yM (z6 (qv 0) (z6 9#7 z8))))) yI)
   (zG (zW (zM zig hr71 4#0 zmB zbh.kp ziX (z6 (qv 0) 9#5)))))),λxs st Q h=> ?_⟩
 obtain⟨ro,v,i,dx,ws,k,r,rfl,hi,hl,hw,hk,hd,q⟩:=h;have s1: ∀{k2},(st.set i 3#4)[i]?=some 3#4:=λ{k2} =>zU hi;have ss: ∀{k1 k2},(st.set i (y7 C dx ws k1)).set i 3#4=st.set i 3#4:=λ{k1 k2} =>gm ..;cases ro with
 | wh gd d=>
  have hd:ws.drop k=yL gd++(hdD d::(kR d++r)):=by rw[hd];show(yL gd++(hdD d::kR d))++r=_;simp
  show rG _ _ _ [some (sv tB),some (PV.obj i),none] st;refine zJ ?_;simp? only[aX];symm;refine⟨false,i,dx,ws,k,gd,_,rfl,hi,hl,hw,hk,by rw[hd];exact pN false gd 20 _ v.1.1 v.1.2,λk1 e1 hk1=> ?_⟩;simp?;refine⟨xP s1,i,dx,ws,k1,hdD d,kR d++r,rfl,s1,hl,hw,hk1,by rw[e1];rfl,λk2 e2 hk2=> ?_⟩;rw[ss];simp?;refine⟨d,v.2,i,dx,ws,k2,r,rfl,s1,hl,hw,hk2,e2,λk3 e3 hk3=> ?_⟩;have:=q k3 e3 hk3;unfold w4 at this;rw[ss]
  simp_all? only[tV,zab]
  exact this
 | sj h w=>
  obtain⟨hh,pw⟩:=v;have hd:ws.drop k=w::r:=hd;have n1:decide (h=tB)=false:=by rcases hh with rfl | rfl <;> decide
  have n2: [m7,m6].contains h=true:=by rcases hh with rfl | rfl <;> decide
  show rG _ _ _ [some (sv h),some (PV.obj i),none] st;refine zJ ?_;simp? only[aX,n1];refine zJ ?_;simp? only[nG sjV,n2];refine⟨xP hi,i,dx,ws,k,w,r,rfl,hi,hl,hw,hk,by rw[hd];exact nR pw,λk1 e1 hk1=> ?_⟩;have:=q k1 e1 hk1;unfold w4 at this
  simp_all?
  exact this
 | de d=>
  obtain⟨n1,n2⟩:=zsY v;show rG _ _ _ [some (sv (hdD d)),some (PV.obj i),none] st;refine zJ ?_;simp? only[aX,n1];refine zJ ?_;simp? only[nG sjV,n2];refine⟨d,v,i,dx,ws,k,r,rfl,hi,hl,hw,hk,hd,λk1 e1 hk1=> ?_⟩;have:=q k1 e1 hk1;rw[zj9]
  simp_all?
  exact this
theorem zv_ (M:Mo K mg)(U:1#2){f:aa}{fd:bh}(F:zS K 33#1 33#1 zaO f fd):yK P w K mg base yG 4 f fd [4#1] (yF K (zzd C)):=by
 have GA:=zai P w base M U;have GW:=jO P w base M U;refine xE 0 F zo_ (λxs st Q h=>by obtain⟨i,dx,ws,k,rfl,_⟩:=h;rfl) ⟨_,λxw A outer s H E hr=>have hr1:zH 1 _:=hr.mono 2#0;have hr3:zH 3 _:=hr.mono 2#0;(zF (y9 (i:=1) zo_.nd rfl 0#2 (k8 z8))
   (zF (zg6 fv (oB (uS (wJ U.cl U.mA GA hr1 U.bA (qv 0)))) (zG (sF (vE ce cu cv 2#0 nK (qv 1) (z6 (wJ U.cl U.mW GW hr3 U.bW (qv 0)) z8)))))
   (zG (zW (u3 qV 4#0 M.tuple sC 9#5))))),λxs st Q h=> ?_⟩
 obtain⟨i,dx,ws,k,rfl,hi,hl,hw,hk,hp,hn,q⟩:=h;have il:i < st.length:=(ba.mp hi).1;symm;refine zJ ?_;refine⟨λm env s=> ∃(k1:Nat),env= [some (PV.obj i),some (PV.obj st.length)]/\s=st.set i (y7 C dx ws k1)++ [PO.lst (((ws.drop k).take (k1 - k)).map sv)]/\k<=k1/\k1<=ws.length/\m=ws.length - k1,⟨_,k,rfl,?_,aq _,hk,rfl⟩,?_⟩
 ·rw[jc,zhu hi];rfl
 rintro m env s ⟨k1,rfl,rfl,h1,h2,rfl⟩;simp?;refine⟨xP (oX il),i,dx,ws,k1,rfl,oX il,hl,?_⟩;by_cases hz:k1=ws.length
 ·rw[decide_eq_true hz]
  simp_all? only[lK]
  rw[zpj,hz,bq (by rw[ic];grobner)];exact q
 rw[decide_eq_false hz];simp?;refine⟨_,λ_ _ h=>h,?_⟩;obtain⟨w,w1,w2,w3⟩:=zlJ (ws:=ws) (k:=k1) 0#0;have hx:w∈ws.drop k:=by
  rw[show k1=k+(k1 - k) by grobner,<- we]at w1;exact bf w1
 refine⟨by rw[lK];rfl,xP (oX il),i,dx,ws,k1,w,ws.drop (k1+1),rfl,oX il,hl,hw,h2,by rw[w2];exact nR (hp w hx),λk2 e2 hk2=> ?_⟩;have ek:k2=k1+1:=by
  have:=congrArg List.length e2;rw[ic,ic]at this;grobner
 subst ek;rw[zht il]
 simp_all? only[lK]
 refine⟨by rw[ah,fj];have:=bR;grobner,ws.length - (k1+1),0#0,k1+1,?_,0#0,0#0,rfl⟩;rw[zoB,show k1+1 - k=(k1 - k)+1 by grobner,qC (x:=w) (by rw[we,show k+(k1 - k)=k1 by grobner];exact w1),ay]
 rfl
theorem zv9 (M:Mo K mg)(U:1#2){f:aa}{fd:bh}(F:zS K 51#1 51#1 zaN f fd):yK P w K mg base yG 71 f fd ["word",4#1] (yF K (zyZ C)):=by
 have GN:=zni P w base M U;obtain⟨pX,pV,uT,tK,tM⟩:=M.take_term;obtain⟨nE,oZ,rK,qN,qT⟩:=M.take_inside;obtain⟨rB,r6,tZ,sI,sL⟩:=M.take_terms;have pH:=aH λb=>eN P w base M U b uT tK tM rK qN qT tZ sI sL 20;refine xE 0 F zho (λxs st Q h=>by obtain⟨w,n,t,b,i,dx,ws,k,r,rfl,_⟩:=h;rfl) ⟨_,λxw A outer s H E hr=>have hr3:zH 3 _:=hr.mono 2#0;have hr70:zH (3 * 20+5) _:=hr.mono 2#0;(zF (y9 (i:=2) zho.nd rfl 0#2 (zg2 U.cl U.mN GN hr3 U.bN (qv 1) (z6 zB (z6 zB z8))))
   (zF (y9 (i:=3) zho.nd rfl 0#2 (zg2 U.cl U.mN GN hr3 U.bN (qv 1) (z6 zB (z6 (y6 qU (qv 2) zB) z8))))
   (zG (zW (yM (z6 (qv 0) (z6 (yM (z6 zD (z6 (qv 2) (z6 8#4 z8)))) (z6 (qv 3) z8)))))))),λxs st Q h=> ?_⟩
 obtain⟨w,n,t,b,i,dx,ws,k,r,rfl,hn2,hn5,hbn,vt,hi,hl,hw,hk,hd,q⟩:=h;have s1: ∀{k2},(st.set i 3#4)[i]?=some 3#4:=λ{k2} =>zU hi;have ss: ∀{k1 k2},(st.set i (y7 C dx ws k1)).set i 3#4=st.set i 3#4:=λ{k1 k2} =>gm ..;symm;refine⟨xP hi,2,5,i,dx,ws,k,y3 n,y3 b::(yL t++r),rfl,hi,hl,hw,hk,?_,λk1 e1 hk1=> ?_⟩
 ·rw[hd];exact if_pos ⟨sU 0#0,by rw[pK];grobner,by rw[pK];grobner⟩
 dsimp only;rw[pK];symm;refine⟨xP s1,0,(n:Int) - 1,i,dx,ws,k1,y3 b,yL t++r,rfl,s1,hl,hw,hk1,?_,λk2 e2 hk2=> ?_⟩
 ·rw[e1];exact if_pos ⟨sU 0#0,by rw[pK];grobner,by rw[pK];grobner⟩
 dsimp only;rw[pK,ss];simp?;refine⟨true,i,dx,ws,k2,t,r,rfl,s1,hl,hw,hk2,by rw[e2];exact pN true t 20 r vt.1 vt.2,λk3 e3 hk3=> ?_⟩;have:=q k3 e3 hk3;rw[ss]
 simp_all? only[tV]
 exact this
theorem zv3 (M:Mo K mg)(U:1#2){f:aa}{fd:bh}(F:zS K 71#1 71#1 zaJ f fd):yK P w K mg base yG 4 f fd [4#1] (yF K (zyA C)):=by
 have GA:=zai P w base M U;have GM:=zvu P w base M U;have GW:=jO P w base M U;refine xE 0 F zhl (λxs st Q h=>by obtain⟨l,i,dx,ws,k,rfl,_⟩:=h;rfl) ⟨_,λxw A outer s H E hr=>have hr1:zH 1 _:=hr.mono 2#0;have hr3:zH 3 _:=hr.mono 2#0;(zF (y9 (i:=1) zhl.nd rfl 0#2 (k8 z8))
   (zF (zg6 fv (oB (uS (wJ U.cl U.mA GA hr1 U.bA (qv 0)))) (zF (y9 (i:=2) zhl.nd rfl 0#2 (wJ U.cl U.mW GW hr3 U.bW (qv 0)))
   (zF (yB (PW.pt (kD (uS (qv 1)) (kF (y0 zvb (qv 2) (yE (yD hr) (yE (yD hr) (qv 1) (zg3 zgm zB) 1#4) zB 1#4) (y8 _))))) (zG sM) yI)
   (zG (sF (vE ce cu cv 2#0 nK (qv 1) (z6 (yM (z6 (qv 2) (z6 (wJ U.cl U.mM GM hr3 U.bM (qv 0)) z8))) z8)))))))
   (zG (zW (u3 qV 4#0 M.tuple sC 9#5))))),λxs st Q h=> ?_⟩
 obtain⟨l,i,dx,ws,k,rfl,ok,hn,hi,hl,hw,hk,hd,q⟩:=h;have il:i < st.length:=(ba.mp hi).1;symm;refine zJ ?_;refine⟨λm env s=> ∃(k1:Nat) (dn rs:List (W9×Int)) (v:Option PV),env= [some (PV.obj i),some (PV.obj st.length),v]/\s=st.set i (y7 C dx ws k1)++ [PO.lst (dn.map u0)]/\k1<=ws.length/\l=dn++rs/\ws.drop k1=pW rs/\m=rs.length,⟨_,k,[],l,none,rfl,?_,hk,rfl,hd,rfl⟩,?_⟩
 ·rw[zhu hi];rfl
 rintro m env s ⟨k1,dn,rs,v,rfl,rfl,hk1,el,ed,rfl⟩;simp?;refine⟨xP (oX il),i,dx,ws,k1,rfl,oX il,hl,?_⟩;cases rs with
 | nil=>
  have hz:=(lN hk1).mpr ed;rw[decide_eq_true hz]
  simp_all? only[lK]
  rw[zpj,hz];rw[cg]at el;rw[<- el];exact q
 | cons p rs=>
  have ed:ws.drop k1=p.1::y3 p.2::pW rs:=ed;have hz: ¬ k1=ws.length:=λz=>by rw[(lN hk1).mp z]at ed;cases ed
  obtain⟨p1',p2,p3,p4⟩:=ok.1 p (by rw[el];simp);rw[decide_eq_false hz];simp?;refine⟨_,λ_ _ h=>h,?_⟩;symm;refine⟨xP (oX il),i,dx,ws,k1,p.1,y3 p.2::pW rs,rfl,oX il,hl,hw,hk1,by rw[ed];exact nR p1',λk2 e2 hk2=> ?_⟩;rw[zht il];simp?;refine zJ ?_;refine zfF (b:=false) (λQ'=> ?_) ?_
  ·rcases dn.eq_nil_or_concat with rfl | ⟨d',z,e9⟩
   ·simp? only[lK]
   ·rw[ut]at e9
    subst e9;have ez:atI (List.map u0 (d'++ [z])) (-1)=some (u0 z):=by rw[ay];exact ztJ (List.map u0 d') (u0 z)
    have lt:z.1 < p.1:=by
     have:=ok.2;rw[el]at this;exact(ny.mp this).2.2 z 3#0 p 3#0
    have hd9:decide ((zA z.1).cps.toList < (zA p.1).cps.toList)=true:=by rw[tS,tS];exact decide_eq_true lt
    have h0:decide ((List.map u0 (d'++ [z])).length≠0)=true:=3#0
    have h1:(List.map u0 (d'++ [z])).isEmpty=false:=by rw[ay];simp
    simp? only[lK,ez,h1];show kJ (u0 z) _ _ _=_;unfold u0;simp? only[hd9]
  rw[if_neg 2#0];simp?;refine⟨by rw[lK];rfl,xP (oX il),p.2,i,dx,ws,k2,y3 p.2,pW rs,rfl,oX il,hl,hw,hk2,by rw[e2];exact if_pos ⟨iF p2 p3 p4,zrw p3 p4,rfl⟩,λk3 e3 hk3=>⟨rfl,?_⟩⟩;rw[zht il,lK];have hll:(dn.map u0).length < am:=by
   rw[ah];have:=congrArg List.length el;rw[af]at this;have:=bR;grobner
  refine⟨rfl,hll,rs.length,0#0,k3,dn++ [p],rs,_,rfl,?_,hk3,by rw[el];simp,e3,rfl⟩;rw[zoB,ay];rfl
theorem zv7 (M:Mo K mg)(U:1#2){f:aa}{fd:bh}(F:zS K 34#1 34#1 zaM f fd):yK P w K mg base yG 72 f fd [4#1] (yF K (zyS C)):=by
 obtain⟨z4v,z4i,zib,zrB,zu8⟩:=M.take_told;have zqk:=zv9 P w base M U zib;obtain⟨z4r,z4e,zhY,zr9,zu5⟩:=M.take_bag;have zqg:=zv3 P w base M U zhY;obtain⟨z4w,z4j,zic,zrC,zu9⟩:=M.take_words;have zql:=zv_ P w base M U zic;have GN:=zni P w base M U;have GT:=nQ P w base M U;have GW:=jO P w base M U;obtain⟨tWIDE,zWIDE⟩:=M.WIDE;refine xE 0 F zhn (λxs st Q h=>by obtain⟨s,i,dx,ws,k,rfl,_⟩:=h;rfl) ⟨_,λxw A outer s H E hr=>have hr2:zH 2 _:=hr.mono 2#0;have hr3:zH 3 _:=hr.mono 2#0;have hr4:zH 4 _:=hr.mono 2#0;have hr71:zH 71 _:=hr.mono 2#0;(zF (y9 (i:=1) zhn.nd rfl 0#2 (wJ U.cl U.mW GW hr3 U.bW (qv 0)))
   (zF (y9 (i:=2) zhn.nd rfl 0#2 3#5)
   (zF (yB (y0 (x8 hr) (qv 2) zD (y8 _)) (zG (zW (zM zqk hr71 4#0 zu8 zib.kp zrB (z6 (qv 1) (z6 (qv 0) z8))))) yI)
   (zF (yB (y0 (o0 hr) (qv 2) (yM 7#5) 4#0) (zG (zW (yM (z6 (qv 1) (z6 (yM (z6 (qv 2) z8)) (z6 (zg2 U.cl U.mN GN hr3 U.bN (qv 0) (z6 zB (z6 (y6 qU (o8 (v:= .int 4294967296) (y:= .int 4294967296) 4#0 zWIDE ⟨_,rfl⟩ (λ_ _=> .val (.int _))) zB) z8))) z8)))))) yI)
   (zF (yB (y0 (x8 hr) (qv 2) zD (y8 _)) (zG (zW (yM (z6 (qv 1) (z6 (yM (z6 (qv 2) z8)) (z6 (zM zqg hr4 4#0 zu5 zhY.kp zr9 (z6 (qv 0) z8)) z8)))))) yI)
   (zF (yB (y0 (x8 hr) (qv 2) zD (y8 _)) (zG (zW (yM (z6 (qv 1) (z6 (yM (z6 (qv 2) z8)) (z6 (zM zql hr4 4#0 zu9 zic.kp zrC (z6 (qv 0) z8)) z8)))))) yI)
   (zG sM))))))),λxs st Q h=> ?_⟩
 obtain⟨⟨w,m⟩,i,dx,ws,k,rfl,⟨pw,vm⟩,hn,hi,hl,hw,hk,hd,q⟩:=h;have s1: ∀{k2},(st.set i 3#4)[i]?=some 3#4:=λ{k2} =>zU hi;have ss: ∀{k1 k2},(st.set i (y7 C dx ws k1)).set i 3#4=st.set i 3#4:=λ{k1 k2} =>gm ..;symm;refine⟨xP hi,i,dx,ws,k,w,wG (wZ m),rfl,hi,hl,hw,hk,by rw[hd];exact nR pw,λk1 e1 hk1=> ?_⟩;symm;cases m with
 | told n t b=>
  rw[zpq]at e1;refine⟨xP s1,i,dx,ws,k1,tQ,_,rfl,s1,hl,hw,hk1,by rw[e1];rfl,λk2 e2 hk2=> ?_⟩;rw[ss];refine zJ ?_;simp? only[qS];refine⟨w,n,t,b,i,dx,ws,k2,[],rfl,vm.1,vm.2.1,vm.2.2.1,vm.2.2.2,s1,hl,hw,hk2,e2,λk3 e3 hk3=> ?_⟩;rw[ss,(lN hk3).mpr e3]
  simp_all?
  exact q
 | num h n=>
  obtain⟨hh,hn9⟩:=vm;have e1:ws.drop k1=h::y3 n:: []:=e1;have n1:decide (h=tQ)=false:=by rcases hh with rfl | rfl <;> decide
  have n2: [oN,oQ].contains h=true:=by rcases hh with rfl | rfl <;> decide
  refine⟨xP s1,i,dx,ws,k1,h,_,rfl,s1,hl,hw,hk1,by rw[e1];rfl,λk2 e2 hk2=> ?_⟩;rw[ss];refine zJ ?_;simp? only[qS,n1];refine zJ ?_;simp? only[nG lsV,n2];refine⟨xP s1,0,4294967295,i,dx,ws,k2,y3 n,[],rfl,s1,hl,hw,hk2,?_,λk3 e3 hk3=> ?_⟩
  ·rw[e2];exact if_pos ⟨sU 0#0,by rw[pK];grobner,by rw[pK];grobner⟩
  dsimp only;rw[pK,ss,(lN hk3).mpr e3]
  simp_all?
  exact q
 | bag l=>
  rw[zpo]at e1 hn;refine⟨xP s1,i,dx,ws,k1,wL,_,rfl,s1,hl,hw,hk1,by rw[e1];rfl,λk2 e2 hk2=> ?_⟩;rw[ss];refine zJ ?_;simp? only[qS,show decide (wL=tQ)=false by decide];refine zJ ?_;simp? only[nG lsV,show [oN,oQ].contains wL=false by decide];refine zJ ?_;simp? only[mV];refine⟨l,i,dx,ws,k2,rfl,vm,?_,s1,hl,hw,hk2,e2,?_⟩
  ·have:=zlC l
   rw[ao]at hn;grobner
  rw[ss]
  simp_all?
  exact q
 | row l=>
  rw[zpp]at e1 hn;refine⟨xP s1,i,dx,ws,k1,wY,_,rfl,s1,hl,hw,hk1,by rw[e1];rfl,λk2 e2 hk2=> ?_⟩;rw[ss];refine zJ ?_;simp? only[qS,show decide (wY=tQ)=false by decide];refine zJ ?_;simp? only[nG lsV,show [oN,oQ].contains wY=false by decide];refine zJ ?_;simp? only[mV,show decide (wY=wL)=false by decide];refine zJ ?_;simp? only[g8];rw[ao]at hn;refine⟨i,dx,ws,k2,rfl,s1,hl,hw,hk2,by rw[e2];exact vm,by rw[e2];grobner,?_⟩;rw[ss,e2]
  simp_all?
  exact q
theorem zvx (M:Mo K mg){f:aa}{fd:bh}(F:zS K 72#1 72#1 zaA f fd):yK P w K mg base yG 1 f fd [69#1] (yF K (zyH)):=by
 refine xE 0 F zyk (λxs st Q h=>by obtain⟨l,rfl,_⟩:=h;rfl) ⟨_,λxw A outer s H E hr=>(zF (yB (y0 (x8 hr) (qv 0) zD (y8 _)) (zG (zW (vW z8))) yI)
   (zG (zW (vE cq ug uh 2#0 zmZ (qv 0) (z6 zD z8))))),λxs st Q h=> ?_⟩
 obtain⟨l,rfl,hl,hz,q⟩:=h
 simp_all? only[zua]
 cases l with
 | nil=>
  rw[show decide (xY 10 []= [])=true from rfl,if_pos rfl];exact q
 | cons a r=>
  rw[decide_eq_false (zt6 hl 3#0),if_neg 2#0];refine⟨1#0,by rw[yV];grobner,?_⟩;rw[show("\n" :Str)=⟨#[10]⟩ by decide+kernel,zq1 3#0 λw hw=>(hl w hw).1,<- lU];exact q
theorem nd4:(["row","part"]:List Str).Nodup:=1#0
theorem znn (M:Mo K mg){f:aa}{fd:bh}(i8:zS K 65#1 65#1 dW f fd)(fR:y2 K fd ["row"] [])(eI:mg 65#1 =some 8#3): ∀d,yK P w K mg base yG (d+31) f fd ["row"] (yF K (zhw d))
 | 0=>⟨λvs H Q E h=>(zaC h).elim,λA outer s H args us vs Q E _ _ _ _ h=>(zaC h).elim⟩
 | d+1=>by
  have zbq:=znn M i8 fR eI d;obtain⟨zlI,zlA,sT,rT,rY⟩:=M.«show_term»;have nY:=zaj P w base M sT rT rY 28;refine xE 0 i8 zyn (λxs st Q h=>by obtain⟨r,rfl,_⟩:=h;rfl) ⟨_,λxw A outer s H E hr=>have hr30:zH 30 _:=hr.mono 0#0;have hr33:zH (d+31) _:=hr.mono 0#0;(zF (yB (y0 (x8 hr) 2#2 zD (y8 _)) (zG (zW (y6 xF (y6 xF (y6 xF zD (zM nY hr30 4#0 rY sT.kp rT (z6 2#2 z8))) zD) (zM zbq hr33 4#0 eI i8.kp fR (z6 2#2 z8))))) yI)
   (zG (zW (vE cq dz fb 2#0 nM zD (z6 (uR (own:= ["part"]) (vV (fsc:=zX dW) (N:= ["row"]) (N':= ["row"]) rfl rfl 1#0) rfl (u5 (qv 0)) (λC s H fp mt=>(yX (i:=1) nd4 rfl 0#2)) 0#4 (λC s H fp mt=>(zoc (uS (vJ lW 4#0 M.isinstance je (z6 (qv 1) (z6 (kB 4#0 M.str jB) z8)))) (qv 1) (zM nY hr30 4#0 rY sT.kp rT 9#5)))) z8))))),λxs st Q h=> ?_⟩
  obtain⟨r,rfl,⟨v,sz⟩,hd,q⟩:=h;have hb:=rV;cases hr0:oE r with
  | zero=>
   obtain⟨h,l,ep,hh⟩:=zny v hr0;rw[zg1 hr0];have ez:atI (List.map q5 (xN r)) 0=some (sv h):=by rw[ep];exact qM (j:=0) rfl
   have e0:yO (sv h) (PV.str (Str.ofString "when"))=false:=zpL hh
   simp_all? only[ez,e0]
   refine zrU sz ?_;refine aP 900 6 rfl (by rw[ah];exact cS r) (λw hw=>by obtain⟨p,hp,rfl⟩:=bt.mp hw;exact cU (sz p hp)) 2#0 ?_
   simp_all?
   exact q
  | succ n=>
   cases r with
   | sj h w=>cases hr0
   | de d=>cases hr0
   | wh gd d=>
    have hrk:oE (.wh gd d)=1:=rfl;have hs:=sz (.t false gd) (by simp[xN]);have hz:=zbz (r:= .de d) λp hp=>sz p (by simp[xN];exact .inr (.inr hp));have hz:(yU (wF d)).length<=6000:=hz;have hg:=hs.2.2;unfold w4
    simp_all?
    refine⟨false,gd,rfl,hs.1,by have:=hs.2.1;grobner,0#0,?_⟩;rw[z0p,iP]
    simp_all?
    rw[wH,wH];refine⟨by rw[yV,yV,af];show 4+1+_<=_;grobner,by rw[yV,yV,af,af];show 4+1+_+1<=_;grobner,.de d,rfl,⟨v.2,λp hp=>sz p (by simp[xN];exact .inr (.inr hp))⟩,?_,?_⟩
    ·show 0 < _;grobner
    simp_all?
    rw[wH];refine⟨by rw[yV,yV,af,af,af];show 4+1+_+1+(yU (wF d)).length<=_;grobner,?_⟩;rw[ziq]at q;rw[show tB++ [32]++zQ gd++ [32]++yU (xN (.de d))=tB++32::(zQ gd++32::yU (wF d)) by simp[xN]];exact q
theorem zv2 (M:Mo K mg){f:aa}{fd:bh}(F:zS K 35#1 35#1 zaI f fd):yK P w K mg base yG 31 f fd [30#1] (yF K (zyR)):=by
 obtain⟨zlI,zlA,sT,rT,rY⟩:=M.«show_term»;have nY:=zaj P w base M sT rT rY 28;refine xE 0 F gK (λxs st Q h=>by obtain⟨s,rfl,_⟩:=h;rfl) ⟨_,λxw A outer s H E hr=>have hr30:zH 30 _:=hr.mono 2#0;(zF (y9 (i:=1) gK.nd rfl 0#2 2#2)
   (zF (y9 (i:=2) gK.nd rfl 0#2 2#2)
   (zF (y9 (i:=3) gK.nd rfl 0#2 (k8 (z6 zD (z6 2#2 (z6 (yE (yD hr) (qv 1) zB 1#4) z8)))))
   (zF (yB (y0 (x8 hr) (yE (yD hr) (qv 1) zB 1#4) zD (y8 _)) (zG (sF (vE ce kj km 2#0 zaf (qv 3) (z6 (vW (z6 (u3 gF 4#0 M.str jB (z6 (yE (yD hr) (qv 1) zB 1#4) z8)) (z6 (u3 gF 4#0 M.str jB (z6 (qv 2) z8)) (z6 (zM nY hr30 4#0 rY sT.kp rT (z6 (yE (yD hr) (qv 1) zB 1#4) z8)) z8)))) z8)))) (zG (yB (y0 (x8 hr) (yE (yD hr) (qv 1) zB 1#4) zD (y8 _)) (zG (kC fv rfl (u5 (qv 2)) (o9 (n:=2) rfl (vX (yX (i:=4) gK.nd rfl 0#2) (vX (yX (i:=5) gK.nd rfl 0#2) oA))) (zG (sF (vE ce kj km 2#0 zaf (qv 3) (z6 (vW (z6 (qv 4) (z6 (u3 gF 4#0 M.str jB (z6 (qv 5) z8)) z8))) z8)))))) (zG (yB (y0 (x8 hr) (yE (yD hr) (qv 1) zB 1#4) zD (y8 _)) (zG (sF (vE ce kj km 2#0 zaf (qv 3) (z6 (u3 (zmY rfl) 4#0 M.list ziW (z6 (qv 2) z8)) z8)))) (zG (sF (vE ce cu cv 2#0 nK (qv 3) (z6 (u3 gF 4#0 M.str jB (z6 (qv 2) z8)) z8)))))))))
   (zG (zW (vE cq dz fb 2#0 nM zD (z6 (qv 3) z8)))))))),λxs st Q h=> ?_⟩
 obtain⟨⟨w,m⟩,rfl,⟨v,sz⟩,q⟩:=h;have hb:=rV;have vm:=v.2;cases m with
 | told n t b=>
  have hs:=sz.1 (.t true t) (by simp[xS,wZ]);unfold yT
  simp_all?
  refine⟨by have:=vm.2.1;grobner,by have:=vm.2.1;have:=vm.2.2.1;grobner,true,t,rfl,hs.1,by have:=hs.2.1;grobner,by have:=hs.2.2;grobner,rfl,?_⟩
  simp_all? only[xU,u7]
  refine⟨by show 3+3<=am;decide,zaH sz ?_ q⟩;rw[g9,g9,dP,zpr]
  rfl
 | num h n=>
  have n1:(zA h==(28#1 :Str))=false:=by rw[qS,decide_eq_false];rcases vm.1 with rfl | rfl <;> decide
  have n2:(zA h==("bag" :Str))=false:=by rw[mV,decide_eq_false];rcases vm.1 with rfl | rfl <;> decide
  have n3:(zA h==("row" :Str))=false:=by rw[g8,decide_eq_false];rcases vm.1 with rfl | rfl <;> decide
  unfold yT
  simp_all? only[n1,n2,n3]
  refine⟨by have:=vm.2;grobner,by show 3 < am;decide,zaH sz ?_ q⟩;rw[g9,dP]
  rfl
 | bag l=>
  have n1:(zA wL==(28#1 :Str))=false:=by rw[qS];decide
  have n2:(zA wL==("bag" :Str))=true:=by rw[mV];decide
  have hl:(xS (w,.bag l)).length=3+2 * l.length:=by
   have: ∀l:List (W9×Int),(l.flatMap λp=> [yR.w p.1,.w (y3 p.2)]).length=2 * l.length:=λl=>by
    induction l with
    | nil=>rfl
    | cons p l ih=>rw[dy,af,ih];show 2+2 * l.length=2 * (l.length+1);grobner
   show(l.flatMap λp=> [yR.w p.1,.w (y3 p.2)]).length+1+1+1=_;rw[this];grobner
  have h25:=sz.2;unfold yT
  simp_all? only[n1,n2]
  refine nB (λi env s=> ∃v1 v2:Option PV,env= [some (PV.tup [sv w,PV.tup [sv wL],PV.tup (List.map u0 l)]),some (PV.tup [sv wL]),some (PV.tup (List.map u0 l)),some (PV.obj (List.length st)),v1,v2]/\s=st++ [PO.lst (PV.str 30#1 ::sv w::sv wL::j9 (l.take i))]) ⟨none,none,rfl,rfl⟩ ?_ ?_
  ·rintro i x env s hx ⟨v1,v2,rfl,rfl⟩
   obtain⟨p,hp,rfl⟩:=tL hx;have hm:=vm.1 p (bf hp);have hi:i < l.length:=(ba.mp hp).1;have hbl:(j9 (l.take i)).length<=2 * i:=by
    unfold j9;have:=zbu (f:=λp:W9×Int=> [sv p.1,sv (y3 p.2)]) (l:=l.take i) (n:=2) λa _=>aq _;rw[fj]at this;grobner
   rw[show u0 p= .tup [sv p.1,.int p.2]from rfl]
   simp_all? only[xU,u7]
   refine⟨0#0,0#0,_,_,rfl,?_⟩;rw[g9,qC hp];unfold j9;rw[jm]
   rfl
  ·rintro env s ⟨v1,v2,rfl,rfl⟩
   rw[ah,bq (aq _)]
   simp_all?
   exact zaH sz (zru w l) q
 | row l=>
  have n1:(zA wY==(28#1 :Str))=false:=by rw[qS];decide
  have n2:(zA wY==("bag" :Str))=false:=by rw[mV];decide
  have n3:(zA wY==("row" :Str))=true:=by rw[g8];decide
  have hl:(xS (w,.row l)).length=3+l.length:=by
   show(l.map yR.w).length+1+1+1=_;rw[ah];grobner
  have h25:=sz.2;unfold yT
  simp_all? only[n1,n2,n3]
  refine⟨by rw[ah];grobner,zaH sz (zxS w l) q⟩
theorem nd5:(["program","lines","hand",30#1]:List Str).Nodup:=1#0
theorem nd6:(["program","lines","hand","row"]:List Str).Nodup:=1#0
theorem zv1 (M:Mo K mg){f:aa}{fd:bh}(F:zS K "show" "show" gM f fd):yK P w K mg base yG 34 f fd ["program"] (yF K (zyT)):=by
 obtain⟨z4q,z4d,zhX,zr8,zu0⟩:=M.show_shelf;have zqf:=zv2 P w base M zhX;obtain⟨z4p,z4c,i8,fR,eI⟩:=M.show_row;have zbq:=znn P w base M i8 fR eI 2;refine xE 0 F zhk (λxs st Q h=>by obtain⟨p,rfl,_⟩:=h;rfl) ⟨_,λxw A outer s H E hr=>have hr31:zH 31 _:=hr.mono 2#0;have hr33:zH 33 _:=hr.mono 2#0;(zF (zoj (i0:=1) (own:= [30#1]) (vV (fsc:=zX gM) (N:= ["program","lines","hand"]) (N':= ["program","lines","hand"]) rfl rfl 1#0) zhk.nd rfl 0#2 rfl (u5 2#2) (λC s H fp mt=>(yX (i:=3) nd5 rfl 0#2)) 0#4 (λC s H fp mt=>(zM zqf hr31 4#0 zu0 zhX.kp zr8 (z6 (qv 3) z8))))
   (zF (kC fv rfl (u5 2#2) (yX (i:=2) zhk.nd rfl 0#2) (zF (sF (vE ce cu cv 2#0 nK (qv 1) (z6 (y6 xF zD (yE (yD hr) (qv 2) zB 1#4)) z8)))
   (zG (sF (vE ce kj km 2#0 zaf (qv 1) (z6 (uR (own:= ["row"]) (vV (fsc:=zX gM) (N:= ["program","lines","hand"]) (N':= ["program","lines","hand"]) rfl rfl 1#0) rfl (u5 (yE (yD hr) (qv 2) zB 1#4)) (λC s H fp mt=>(yX (i:=3) nd6 rfl 0#2)) 0#4 (λC s H fp mt=>(zM zbq hr33 4#0 eI i8.kp fR (z6 (qv 3) z8)))) z8))))))
   (zG (zW (vE cq dz fb 2#0 nM zD 9#5))))),λxs st Q h=> ?_⟩
 obtain⟨p,rfl,ok,q⟩:=h;have hb:=rV;unfold uQ
 simp_all?
 refine a0 (g:=λs=>sv (yU (xS s))) rfl (λs hs Q' q'=>⟨s,rfl,ok.1 s hs,q'⟩) (λ_=>rfl) ?_;refine nB (λi env s=> ∃v:Option PV,env= [some 7#2,some (PV.obj (List.length st)),v]/\s=st++ [PO.lst ((sO p i).map sv)]) ⟨none,rfl,?_⟩ ?_ ?_
 ·unfold sO
  rw[xl,xb,cg,dm];rfl
 ·rintro i x env s hx ⟨v,rfl,rfl⟩
  obtain⟨h,hh,rfl⟩:=tL hx;have oh:=ok.2.1 h (bf hh);have hp:=s0 oh.1;have hl:=zgU (i:=i) ok;have hl2:=zgU (i:=i+1) ok;have er:=zgV hh;have el:=zo2 hh;unfold t6
  simp_all? only[xU,u7]
  rw[zlN,wH];refine⟨by rw[yV,yV,af];show 4+1+_<=_;grobner,by rw[ah];grobner,?_⟩;refine a0 (g:=λr=>sv (yU (xN r))) rfl (λr hr Q' q'=>⟨r,rfl,oh.2.1 r hr,rk2 r,q'⟩) (λ_=>rfl) ?_
  simp_all? only[xU,u7]
  refine⟨by rw[af,ah,ah,gf];grobner,_,rfl,?_⟩;rw[er,ay,ay,dm];show _=st++ [PO.lst (List.map sv (sO p i)++ [sv (uW++32::h.1)]++_)];rw[show uW++ [32]++h.1=uW++32::h.1 by simp]
  rfl
 ·rintro env s ⟨v,rfl,rfl⟩
  rw[ah];unfold sO;rw[bq (aq _)]
  simp_all?
  refine zmp (ws:=vA p) 25000 94 (by show(match(st++ [_])[st.length]? with | some (PO.lst xs)=>some xs | _=>none)=_;rw[xU];rfl) (cT ok) (zb0 ok) 2#0 ?_;show Q _ (List.take st.length (st++_));rw[jr];exact q
theorem zvo (M:Mo K mg){f:aa}{fd:bh}(F:zS K 61#1 61#1 za1 f fd):yK P w K mg base yG 1 f fd [8#1,41#1] (yF K (zyB)):=by
 refine xE 1 F dI (λxs st Q h=>by obtain⟨ns,k,rfl,_⟩:=h;rfl) ⟨_,λxw A outer s H E hr=>(zF (y9 (i:=2) dI.nd rfl 0#2 (y6 xF (y6 nO zB (qv 1)) zB))
   (zF (yB (y0 jM 9#4 zB (y8 _)) (zG (y9 (i:=2) dI.nd rfl 0#2 (y6 xF (y6 nO (y6 mX (yE (yD hr) (qv 0) (y6 mX (qv 1) 9#4) 1#4) zB) zB) (y6 nO zB (qv 1))))) yI)
   (zF (y9 (i:=3) dI.nd rfl 0#2 zB)
   (zF (yB (PW.pt (kD (y0 nN (qv 1) 9#4 (y8 _)) (kF (y0 zuX (vJ zmU 4#0 M.abs boot_abs (z6 (yE (yD hr) (qv 0) (qv 1) 1#4) z8)) (y6 zvg zB zB) (y8 _))))) (zG (y9 (i:=3) dI.nd rfl 0#2 (vJ zmU 4#0 M.abs boot_abs (z6 (yE (yD hr) (qv 0) (qv 1) 1#4) z8)))) yI)
   (zG (zW (k8 (z6 (qv 3) (z6 (y6 mX (qv 2) zB) z8))))))))),λxs st Q h=> ?_⟩
 obtain⟨ns,k,rfl,hl,hk,q⟩:=h
 simp_all? only[ah]
 have fin: ∀c n:Int,0<=c->xW c (n % 2147483647):=λc n h=>⟨h,0#0,0#0⟩;have ab: ∀z:Int,0<=(if z < 0 then -z else z):=λz=>by split <;> grobner
 refine uG (λh=> ?_) (λh=> ?_)
 ·have hp:(0:Int) < ns.length:=of_decide_eq_true h
  obtain⟨z,_,ez⟩:=ziJ PV.int (ns:=ns) (k:=k % ns.length) (tz _ 0#0) (qg _ hp)
  simp_all? only[ez]
  refine⟨hp,?_⟩;refine uG (λh2=> ?_) (λh2=>q _ _ (fin _ _ (wu 0)));obtain⟨y,_,ey⟩:=ziJ PV.int (ns:=ns) hk (of_decide_eq_true h2)
  simp_all? only[ey]
  refine⟨zrX,uG (λh3=> ?_) (λh3=>q _ _ (fin _ _ (wu 0)))⟩;exact q _ _ (fin _ _ (ab _))
 ·have hp: ¬ (0:Int) < ns.length:=λz=>h (decide_eq_true z)
  refine uG (λh2=>absurd (of_decide_eq_true h2) 0#0) (λh2=>q _ _ (fin _ _ (wu 0)))
theorem lY (M:Mo K mg){f:aa}{fd:bh}(F:zS K 60#1 60#1 za2 f fd):yK P w K mg base yG 1 f fd [0#1,27#1] (yF K (zyY)):=by
 refine xE 0 F dJ (λxs st Q h=>by obtain⟨i,many,a,b,rfl,_⟩:=h;rfl) ⟨_,λxw A outer s H E hr=>(zF (yB (y0 jM 2#2 zB (y8 _)) (zF (y9 (i:=2) dJ.nd rfl 0#2 (y6 mX 2#2 (qv 1)))
   (zF (zg4 (y6 zmW 2#2 (qv 1)) (zof hr (qv 0) zB))
   (zG (zW (qv 2))))) yI)
   (zF (y9 (i:=3) dJ.nd rfl 0#2 (y6 mX (y6 xF (y6 nO 2#2 zB) zB) zB))
   (zF (zg4 (y6 mX (y6 xF (y6 nO (qv 3) zB) zB) zB) (zof hr (qv 0) zB))
   (zF (y9 (i:=4) dJ.nd rfl 0#2 (y6 mX (y6 nO (qv 3) (qv 3)) zB))
   (zF (y9 (i:=5) dJ.nd rfl 0#2 (y6 mX (y6 nO 2#2 2#2) zB))
   (zG (zW (y6 mX (y6 xF (y6 nO (qv 4) zB) (qv 5)) (qv 1))))))))),λxs st Q h=> ?_⟩
 obtain⟨i,many,a,b,rfl,hi,⟨ha,hb,hb2⟩,hm,hm2,q⟩:=h
 simp_all? only[hi]
 refine uG (λh=> ?_) (λh=> ?_)
 ·exact⟨hm,⟨hm,hm2⟩,q _ _ _ (tz _ 0#0) (qg _ hm) ⟨Int.ediv_nonneg ha 0#0,hb,hb2⟩⟩
 ·exact⟨.inl ⟨0#0,0#0⟩,.inl ⟨0#0,0#0⟩,hm,q _ _ _ (tz _ 0#0) (qg _ hm) ⟨ha,0#0,0#0⟩⟩
theorem gG (M:Mo K mg){f:aa}{fd:bh}(F:zS K 74#1 74#1 za4 f fd):yK P w K mg base yG 2 f fd [0#1,21#1] (yF K (spO)):=by
 obtain⟨jG,jH,xB,xO,xQ⟩:=M._law_next;have xM:=lY P w base M xB;refine xE 0 F zyc (λxs st Q h=>by obtain⟨i,x,a,b,rfl,_⟩:=h;rfl) ⟨_,λxw A outer s H E hr=>have hr1:zH 1 _:=hr.mono 2#0;(zG (zW (yE (yD hr) (qv 1) (zM xM hr1 4#0 xQ xB.kp xO (z6 (qv 0) (z6 (vJ q0 4#0 M.len gi 9#5) z8))) 1#4))),λxs st Q h=> ?_⟩;obtain⟨i,x,a,b,rfl,hi,hb,h⟩:=h;rcases h with⟨ys,rfl,hn,hl,ho,q⟩ | ⟨z,rfl,hn,hl,q⟩
 ·simp_all?
  have hp:0 < ys.length:=oq.mpr hn;refine⟨i,_,a,b,rfl,hi,hb,0#0,0#0,λd a b h0 h1 hb=> ?_⟩;obtain⟨y,hy,ey⟩:=ziK h0 h1
  simp_all? only[ey]
  rw[zcb (dk.mp ho y hy)]
  simp_all?
  exact q y hy a b hb
 ·simp_all?
  refine⟨cb hl 2#0,i,_,a,b,rfl,hi,hb,0#0,0#0,λd a b h0 h1 hb=> ?_⟩;obtain⟨c,hc,ec⟩:=zro h0 h1
  simp_all? only[ec]
  exact⟨cb hl 2#0,q _ hc a b hb⟩
theorem nd7:([0#1,21#1,41#1]:List Str).Nodup:=1#0
theorem zne (M:Mo K mg){f:aa}{fd:bh}(F:zS K 58#1 58#1 dG f fd):yK P w K mg base yG 3 f fd [0#1] (yF K (zzc)):=by
 obtain⟨jG,jH,xB,xO,xQ⟩:=M._law_next;have xM:=lY P w base M xB;obtain⟨fY,fZ,vK,t0,t5⟩:=M._law_one;have uU:=gG P w base M vK;refine xE 0 F zhg (λxs st Q h=>by obtain⟨i,a,b,rfl,_⟩:=h;rfl) ⟨_,λxw A outer s H E hr=>have hr1:zH 1 _:=hr.mono 2#0;have hr2:zH 2 _:=hr.mono 2#0;(zF (yB (y0 (x8 hr) 4#2 zB (y8 _)) (zF (y9 (i:=1) zhg.nd rfl 0#2 (vW (z6 zD (z6 zD (z6 zD (z6 zD (z6 zD (z6 zD (z6 zD (z6 zD (z6 zD (z6 zD (z6 zD (z6 zD 7#5))))))))))))))
   (zF (y9 (i:=1) zhg.nd rfl 0#2 (y6 xF (qv 1) (vW (z6 zD (z6 zD (z6 zD (z6 zD (z6 zD (z6 zD (z6 zD (z6 zD (z6 zD (z6 zD 7#5)))))))))))))
   (zG (zW (zM uU hr2 4#0 t5 vK.kp t0 (z6 (qv 0) (z6 (y6 xF (qv 1) (vW (z6 zD (z6 zD (z6 zD 7#5))))) z8))))))) yI)
   (zG (zW (vE cq dz fb 2#0 nM zD (z6 (uR (own:= [41#1]) (vV (fsc:=zX dG) (N:= [0#1,21#1]) (N':= [0#1,21#1]) rfl rfl 1#0) rfl (l3 4#0 M.range (z6 (y6 xF zB 4#2) z8)) (λC s H fp mt=>(yX (i:=2) nd7 rfl 0#2)) 0#4 (λC s H fp mt=>(zM uU hr2 4#0 t5 vK.kp t0 (z6 (qv 0) (z6 zD z8))))) z8))))),λxs st Q h=> ?_⟩
 obtain⟨i,a,b,rfl,hi,hb,q⟩:=h
 simp_all?
 refine⟨i,_,a,b,rfl,hi,hb,2#0,2#0,λd a b h0 h1 hb=> ?_⟩
 simp_all?
 refine uG (λh=> ?_) (λh=> ?_)
 ·simp_all?
  refine⟨2#0,2#0,i,_,a,b,rfl,zU hi,hb,.inl ⟨_,rfl,3#0,2#0,2#0,λy hy a b hb=> ?_⟩⟩;obtain⟨w,rfl,hw⟩:=zwF (dk.mp (show List.all _ plS=true by decide+kernel) y hy)
  simp_all?
  exact q w hw a b hb
 ·simp_all?
  refine⟨i,_,a,b,rfl,zU hi,hb,2#0,2#0,λd a b h0 h1 hb=> ?_⟩
  simp_all?
  refine⟨0#0,?_⟩;refine⟨λj ys env s=> ∃(cs:W9) (v:Option PV) (a b:Int),ys=(cs.map λc=> [c]).map sv/\cs.length=j/\(∀c∈cs,m9 c=true)/\env= [some (PV.obj i),none,v]/\s=st.set i (xG a b)/\xW a b,⟨[],none,a,b,rfl,rfl,λz hz=>(by cases hz),rfl,rfl,hb⟩,?_,?_⟩
  ·rintro j x ys env s hx ⟨cs,v,a,b,rfl,hj,hz,rfl,rfl,hb⟩
   simp_all?
   refine⟨i,_,a,b,rfl,zU hi,hb,.inr ⟨_,rfl,2#0,2#0,λc hc a b hb=> ?_⟩⟩
   simp_all?
   refine⟨cs++ [c],_,a,b,by rw[ay,ay];rfl,by rw[af,hj];rfl,λz hz'=> ?_,rfl,rfl,hb⟩;rcases bi.mp hz' with hz' | hz'
   ·exact hz z hz'
   ·rw[au.mp hz'];exact ztQ hc
  ·rintro ys env s ⟨cs,v,a,b,rfl,hj,hz,rfl,rfl,hb⟩
   rw[qA]at hj;have h2:=gP (ws:=cs.map λc=> [c]) (n:=1) λw hw=>by obtain⟨c,_,rfl⟩:=bt.mp hw;exact aq _
   rw[ah]at h2;refine⟨(cs.map λc=> [c]).map zA,by rw[<- lU];rfl,by rw[show("" :Str).length=0 from rfl];grobner,?_⟩;rw[zmn,zs9]
   simp_all?
   refine q cs ?_ a b hb;unfold y1;rw[dk.mpr hz,decide_eq_true 0#0,decide_eq_true 0#0];rfl
theorem znc (M:Mo K mg){f:aa}{fd:bh}(F:zS K 26#1 26#1 za3 f fd):yK P w K mg base yG 2 f fd [0#1,"_law_most"] (yF K (zyI)):=by
 obtain⟨jG,jH,xB,xO,xQ⟩:=M._law_next;have xM:=lY P w base M xB;refine xE 0 F zo3 (λxs st Q h=>by obtain⟨i,a,b,rfl,_⟩:=h;rfl) ⟨_,λxw A outer s H E hr=>have hr1:zH 1 _:=hr.mono 2#0;(zF (y9 (i:=2) zo3.nd rfl 0#2 4#2)
   (zF (yB (y0 (x8 hr) (qv 2) zB (y8 _)) (zG (zW (vJ (zvc rfl) 4#0 M.max PyProof.Rows.boot_max (z6 zB (z6 (y6 qU (qv 1) 4#2) z8))))) yI)
   (zF (yB (y0 (x8 hr) (qv 2) zB (y8 _)) (zG (zW (zM xM hr1 4#0 xQ xB.kp xO (z6 (qv 0) (z6 (y6 xF (qv 1) zB) z8))))) yI)
   (zG (zW (vJ (zvd rfl) 4#0 M.min PyProof.Rows.boot_min (z6 (qv 1) (z6 4#2 z8)))))))),λxs st Q h=> ?_⟩
 obtain⟨i,a,b,rfl,hi,hb,q⟩:=h
 simp_all?
 refine⟨i,_,a,b,rfl,hi,hb,2#0,2#0,λd a b h0 h1 hb=> ?_⟩
 simp_all?
 refine uG (λh=> ?_) (λh=> ?_)
 ·refine⟨i,_,a,b,rfl,zU hi,hb,2#0,2#0,λd a b h0 h1 hb=> ?_⟩
  simp_all?
  have:=q (4294967295 - d).toNat 0#0 a b hb;rw[show(((4294967295 - d).toNat:Nat):Int)=4294967295 - d by grobner]at this;rw[show(if(4294967295 - d > 0)then 4294967295 - d else 0)=4294967295 - d by split <;> grobner];exact this
 refine uG (λh=> ?_) (λh=> ?_)
 ·refine⟨i,_,a,b,rfl,zU hi,hb,2#0,2#0,λd a b h0 h1 hb=> ?_⟩
  simp_all?
  have:=q d.toNat 0#0 a b hb;rw[show((d.toNat:Nat):Int)=d by grobner]at this;exact this
 ·refine⟨i,_,a,b,rfl,zU hi,hb,2#0,2#0,λd a b h0 h1 hb=> ?_⟩
  simp_all?
  have:=q d.toNat 0#0 a b hb;rw[show((d.toNat:Nat):Int)=d by grobner]at this;rw[show(if d < 4294967295 then d else 4294967295)=d by split <;> grobner];exact this
theorem nd8:([0#1,3#1,"_law_told","_law_room","_law_deep",17#1,"_law_third","_law_share",20#1,"_law_other",41#1]:List Str).Nodup:=1#0
theorem zah (M:Mo K mg){f:aa}{fd:bh}(sS:zS K 45#1 45#1 dF f fd)(rS:y2 K fd [0#1,3#1,"_law_told","_law_room","_law_deep"] [])(rX:mg 45#1 =some 8#3): ∀d,yK P w K mg base yG (d+13) f fd [0#1,3#1,"_law_told","_law_room","_law_deep"] (yF K (zoO d))
 | 0=>⟨λvs H Q E h=>(zoP h).elim,λA outer s H args us vs Q E _ _ _ _ h=>(zoP h).elim⟩
 | d+1=>by
  have nX:=zah M sS rS rX d;obtain⟨jG,jH,xB,xO,xQ⟩:=M._law_next;have xM:=lY P w base M xB;obtain⟨fY,fZ,vK,t0,t5⟩:=M._law_one;have uU:=gG P w base M vK;obtain⟨zsu,zsw,i6,bL,aY⟩:=M._law_number;have cI:=znc P w base M i6;refine xE 0 sS jW (λxs st Q h=>by obtain⟨i,ws,told,room,e,a,b,rfl,_⟩:=h;rfl) ⟨_,λxw A outer s H E hr=>have hr1:zH 1 _:=hr.mono 0#0;have hr2:zH 2 _:=hr.mono 0#0;have hr20:zH (d+13) _:=hr.mono 0#0;(zF (y9 (i:=5) jW.nd rfl 0#2 4#2)
   (zF (yB (PW.pt (nU (y0 (x8 hr) (qv 4) zB (y8 _)) (nU (y0 nN (qv 3) zB (y8 _)) (kG (y0 (x8 hr) (qv 5) zB (y8 _)))))) (zF (yB (uS (qv 2)) (zG (zW (zM uU hr2 4#0 t5 vK.kp t0 (z6 (qv 0) (z6 (vW (z6 (yM (z6 zD z8)) (z6 (yM (z6 zD z8)) (z6 (yM (z6 zD z8)) (z6 (yM (z6 zD (z6 (zM cI hr2 4#0 aY i6.kp bL (z6 (qv 0) (z6 zB z8))) z8))) z8))))) z8))))) yI)
   (zF (y9 (i:=5) jW.nd rfl 0#2 4#2)
   (zF (yB (y0 (x8 hr) (qv 5) zB (y8 _)) (zG (zW (yM (z6 zD (z6 (zM cI hr2 4#0 aY i6.kp bL (z6 (qv 0) (z6 zB z8))) z8))))) yI)
   (zF (yB (y0 (x8 hr) (qv 5) zB (y8 _)) (zG (zW (yM (z6 zD (z6 0#3 z8))))) yI)
   (zF (yB (y0 (x8 hr) (qv 5) zB (y8 _)) (zG (zW (yM (z6 zD (z6 0#3 (z6 0#3 z8)))))) yI)
   (zG (zW (yM (z6 zD (z6 0#3 z8)))))))))) yI)
   (zF (yB (PW.pt (kD (y0 (x8 hr) (qv 5) zB (y8 _)) (kF (y0 jM (qv 3) zB (y8 _))))) (zF (y9 (i:=6) jW.nd rfl (Or.inr rfl) (y6 zmW (y6 qU (qv 3) zB) zB))
   (zG (zW (y6 xF (yM (z6 zD z8)) (u3 qV 4#0 M.tuple sC (z6 (uR (own:= [41#1]) (vV (fsc:=zX dF) (N:= 8#5) (N':= 8#5) rfl rfl 1#0) rfl (l3 4#0 M.range (z6 zB z8)) (λC s H fp mt=>(yX (i:=10) nd8 rfl 0#2)) 0#4 (λC s H fp mt=>(zM nX hr20 4#0 rX sS.kp rS (z6 (qv 0) (z6 (qv 1) (z6 (qv 2) (z6 (qv 6) (z6 (y6 qU (qv 4) zB) z8)))))))) z8)))))) yI)
   (zF (y9 (i:=7) jW.nd rfl 0#2 (y6 xF zB (zM xM hr1 4#0 xQ xB.kp xO (z6 (qv 0) (z6 (y6 qU (qv 3) zB) z8)))))
   (zF (y9 (i:=8) jW.nd rfl 0#2 (zM nX hr20 4#0 rX sS.kp rS (z6 (qv 0) (z6 (qv 1) (z6 (qv 2) (z6 (qv 7) (z6 (y6 qU (qv 4) zB) z8)))))))
   (zF (y9 (i:=9) jW.nd rfl 0#2 (zM nX hr20 4#0 rX sS.kp rS (z6 (qv 0) (z6 (qv 1) (z6 (qv 2) (z6 (y6 qU (y6 qU (qv 3) zB) (qv 7)) (z6 (y6 qU (qv 4) zB) z8)))))))
   (zG (zW (yM (z6 zD (z6 (zM uU hr2 4#0 t5 vK.kp t0 (z6 (qv 0) (z6 zD z8))) (z6 (qv 8) (z6 (qv 9) z8))))))))))))),λxs st Q h=> ?_⟩
  obtain⟨i,ws,told,room,e,a,b,rfl,hi,hb,hw,hr1,hr2,he,q⟩:=h;symm;refine⟨i,_,a,b,rfl,hi,hb,2#0,2#0,λform a b f0 f1 hb=> ?_⟩;refine zJ ?_;refine zfF (b:=((e:Int)==0)||(decide ((room:Int) < 3)||(form==0))) (λQ=> ?_) ?_
  ·simp?
   cases decide ((room:Int) < 3) <;> cases((e:Int)==0) <;> cases(form==0) <;> rfl
  cases hL:(((e:Int)==0)||(decide ((room:Int) < 3)||(form==0)))with
  | true=>
   rw[if_pos rfl];cases told with
   | true=>
    simp_all?
    refine⟨i,a,b,rfl,zU hi,hb,λn hn a b hb=> ?_⟩
    simp_all?
    refine⟨i,_,a,b,rfl,zU hi,hb,.inl ⟨_,rfl,3#0,by show 4<=1000;decide,rfl,λy hy a b hb=> ?_⟩⟩;have hy: ∃t,vN true room e t/\y=zO true t:=by
     simp only[ar,bu,or_false]at hy;rcases hy with rfl | rfl | rfl | rfl
     ·obtain⟨h1,h2⟩:=zh4 (w:= [119,97,115]) (e:=e) 2#0 hr1
      exact⟨_,h1,by rw[h2];exact congrArg (λx=>PV.tup [.str x]) z0n⟩
     ·obtain⟨h1,h2⟩:=zh4 (w:= [109,105,110,101]) (e:=e) 2#0 hr1
      exact⟨_,h1,by rw[h2];exact congrArg (λx=>PV.tup [.str x]) zuo⟩
     ·obtain⟨h1,h2⟩:=zh4 (w:= [121,111,117,114,115]) (e:=e) 2#0 hr1
      exact⟨_,h1,by rw[h2];exact congrArg (λx=>PV.tup [.str x]) z0q⟩
     ·exact⟨_,zmR true hn hr1,(znV true hn).symm⟩
    obtain⟨t,ht,rfl⟩:=hy;rw[fX]
    simp_all?
    exact q t ht a b hb
   | false=>
    simp_all?
    refine⟨i,_,a,b,rfl,zU hi,hb,2#0,2#0,λg a b g0 g1 hb=> ?_⟩
    simp_all?
    refine uG (λh=> ?_) (λh=> ?_)
    ·refine⟨i,a,b,rfl,zU hi,hb,λn hn a b hb=> ?_⟩
     simp_all?
     have:=q _ (zmR false hn hr1) a b hb;rw[znV false hn]at this;exact this
    refine uG (λh=> ?_) (λh=> ?_)
    ·refine o3 hw (zU hi) hb λw hp a b hb=> ?_
     simp_all?
     have:=q _ (zy0 hp hr1) a b hb;rw[zxf hp]at this;exact this
    refine uG (λh=> ?_) (λh=> ?_)
    ·refine o3 hw (zU hi) hb λw hp a b hb=> ?_
     simp_all?
     refine o3 hw (zU hi) hb λw' hp' a b hb=> ?_;have:=q _ (zum hp hp' hr1) a b hb;unfold zO at this;rw[zm8]
     simp_all?
     exact this
    ·refine o3 hw (zU hi) hb λw hp a b hb=> ?_
     have:=q _ (zub hp hr1) a b hb;unfold zO at this;rw[zm1]
     simp_all?
     exact this
  | false=>
   rw[if_neg 2#0];have hL:=hL;simp only[Bool.or_eq_false_iff,decide_eq_false_iff_not,beq_eq_false_iff_ne]at hL;obtain⟨c,rfl⟩: ∃c,e=c+1:=⟨e - 1,0#0⟩;simp?;refine zJ ?_;refine zfF (b:=(form==1)&&decide ((3:Int) < room)) (λQ=> ?_) ?_
   ·simp?
    cases(form==1) <;> rfl
   cases hF:((form==1)&&decide ((3:Int) < room))with
   | true=>
    rw[if_pos rfl];have hF:=(cj.mp hF).2;have hF:=of_decide_eq_true hF;symm;have e3:((room:Int) - 1) / 3=(((room - 1) / 3:Nat):Int):=0#0
    rw[e3];have hr3:1<=(room - 1) / 3:=0#0
    generalize hg3:(room - 1) / 3=r3 at hr3;simp?;refine⟨λj ys env s=> ∃(ts:List yH) (v:Option PV) (a b:Int),ys=ts.map (zO told)/\ts.length=j/\(∀t∈ts,vN told r3 c t)/\env= [some (PV.obj i),some 7#7,some (PV.bl told),some (PV.int ↑room),some (PV.int (↑c+1)),some (PV.int form),some (PV.int ↑r3),none,none,none,v]/\s=st.set i (xG a b)/\xW a b,⟨[],none,a,b,rfl,rfl,λz hz=>(by cases hz),rfl,rfl,hb⟩,?_,?_⟩
    ·rintro j x ys env s hx ⟨ts,v,a,b,rfl,hj,hz,rfl,rfl,hb⟩
     simp_all?
     refine⟨i,ws,told,r3,c,a,b,?_,zU hi,hb,hw,hr3,0#0,0#0,λt ht a b hb=> ?_⟩
     ·rw[show((c:Int)+1 - 1)=c by grobner]
     refine⟨tV t,ts++ [t],_,a,b,by rw[ay];rfl,by rw[af,hj];rfl,λz hz'=> ?_,rfl,by rw[gm],hb⟩;rcases bi.mp hz' with hz' | hz'
     ·exact hz z hz'
     ·rw[au.mp hz'];exact ht
    ·rintro ys env s ⟨ts,v,a,b,rfl,hj,hz,rfl,rfl,hb⟩
     rw[qA]at hj;obtain⟨t1,t2,t3,rfl⟩:=zmt hj;have:=q (.if3 t1 t2 t3) (ztl (hz t1 3#0) (hz t2 3#0) (hz t3 3#0) 0#0) a b hb;unfold zO at this
     simp_all?
     exact⟨2#0,this⟩
   | false=>
    rw[if_neg 2#0];simp?;symm;refine⟨i,_,a,b,rfl,zU hi,hb,0#0,0#0,λg a b g0 g1 hb=> ?_⟩;simp?;obtain⟨g,rfl⟩:=fg g0;symm;refine⟨i,ws,told,1+g,c,a,b,?_,zU hi,hb,hw,0#0,0#0,0#0,λt1 ht1 a b hb=> ?_⟩
    ·rw[show((c:Int)+1 - 1)=c by grobner,show(((1+g:Nat)):Int)=1+(g:Int) by grobner]
    symm;refine⟨i,ws,told,room - 1 - (1+g),c,a,b,?_,zU hi,hb,hw,0#0,0#0,0#0,λt2 ht2 a b hb=> ?_⟩
    ·rw[show((c:Int)+1 - 1)=c by grobner,show(((room - 1 - (1+g):Nat)):Int)=(room:Int) - 1 - (1+(g:Int)) by grobner]
    simp?;refine⟨i,_,a,b,rfl,zU hi,hb,.inr ⟨_,rfl,2#0,2#0,λc' hc a b hb=> ?_⟩⟩;have:=q (.op [c'] t1 t2) (zvR (zvC hc) ht1 ht2 0#0) a b hb;unfold zO at this
    simp_all? only[tV]
    exact this
theorem zvn (M:Mo K mg){f:aa}{fd:bh}(F:zS K 62#1 62#1 za0 f fd):yK P w K mg base yG 21 f fd [0#1,3#1] (yF K (zyD)):=by
 obtain⟨jG,jH,xB,xO,xQ⟩:=M._law_next;have xM:=lY P w base M xB;obtain⟨fY,fZ,vK,t0,t5⟩:=M._law_one;have uU:=gG P w base M vK;obtain⟨zl8,zl_,sS,rS,rX⟩:=M._law_term;have nX:=zah P w base M sS rS rX 7;refine xE 0 F za9 (λxs st Q h=>by obtain⟨i,ws,a,b,rfl,_⟩:=h;rfl) ⟨_,λxw A outer s H E hr=>have hr1:zH 1 _:=hr.mono 2#0;have hr2:zH 2 _:=hr.mono 2#0;have hr20:zH 20 _:=hr.mono 2#0;(zF (y9 (i:=2) za9.nd rfl 0#2 4#2)
   (zF (y9 (i:=3) za9.nd rfl 0#2 0#3)
   (zF (y9 (i:=4) za9.nd rfl 0#2 (zM nX hr20 4#0 rX sS.kp rS (z6 (qv 0) (z6 (qv 1) (z6 t8 (z6 (yE (yD hr) (vW (z6 zB (z6 zB (z6 zB z8)))) 4#2 1#4) (z6 4#2 z8)))))))
   (zF (yB (y0 nN (qv 2) zB (y8 _)) (zG (zW (yM (z6 (yE (yD hr) (vW (z6 zD 7#5)) (qv 2) 1#4) (z6 (qv 3) (z6 (qv 4) z8)))))) yI)
   (zF (yB (y0 nN (qv 2) zB (y8 _)) (zG (zW (yM (z6 (yE (yD hr) (vW 7#5) (y6 qU (qv 2) zB) 1#4) (z6 (qv 3) (z6 0#3 z8)))))) yI)
   (zF (yB (y0 (x8 hr) (qv 2) zB (y8 _)) (zG (zW (yM (z6 zD (z6 (qv 3) (z6 (qv 4) (z6 0#3 z8))))))) yI)
   (zG (zW (yM (z6 zD (z6 (qv 4) z8))))))))))),λxs st Q h=> ?_⟩
 obtain⟨i,ws,a,b,rfl,hi,hb,hw,q⟩:=h;symm;refine⟨i,_,a,b,rfl,hi,hb,2#0,2#0,λform a b f0 f1 hb=> ?_⟩;symm;refine o3 hw (zU hi) hb λw hp a b hb=> ?_;refine zJ ?_;refine lJ (TmP false i st) (λQ k=> ?_) ?_
 ·simp?
  refine⟨i,_,a,b,rfl,(by first | exact zU hi | exact zU (zU hi)),hb,2#0,2#0,λg a b g0 g1 hb=> ?_⟩;have hg: ∃r:Nat,1<=r/\r<=30/\atI [PV.int 1,PV.int 6,PV.int 30] g=some (.int r):=by
   have:g=0∨g=1∨g=2:=0#0
   rcases this with rfl | rfl | rfl
   ·exact⟨1,2#0,2#0,rfl⟩
   ·exact⟨6,2#0,2#0,rfl⟩
   ·exact⟨30,2#0,2#0,rfl⟩
  obtain⟨r,hr1,hr2,eg⟩:=hg;simp? only[eg];refine⟨i,_,a,b,rfl,(by first | exact zU hi | exact zU (zU hi)),hb,2#0,2#0,λe a b e0 e1 hb=> ?_⟩;obtain⟨e,rfl⟩:=fg e0;refine⟨i,ws,false,r,e,a,b,rfl,(by first | exact zU hi | exact zU (zU hi)),hb,hw,hr1,hr2,0#0,λt ht a b hb=> ?_⟩;exact k _ _ ⟨t,a,b,rfl,ht.up hr2 0#0,hb,by simp only[gm]⟩
 rintro _ _ ⟨t,a,b,rfl,ht,hb,rfl⟩;symm;refine uG (λh=> ?_) (λh=> ?_)
 ·have h:=of_decide_eq_true h
  obtain⟨hd,hh,eh⟩:=bJ (l:= [oP,oO,oM]) (ys:= [PV.str "set",.str "more",.str "drop"]) (d:=form) (by rw[zoA,zmA,zj1];rfl) f0 h;have hh:hd=oP∨hd=oO∨hd=oM:=by simpa using hh
  have:=q _ (zsi hh hp ht) a b hb;unfold vD at this
  simp_all? only[eh,tV]
  exact this
 refine zJ ?_;have h3: ¬ form < 3:=λz=>h (decide_eq_true z);simp?;refine uG (λh=> ?_) (λh=> ?_)
 ·have h:=of_decide_eq_true h
  obtain⟨hd,hh,eh⟩:=bJ (l:= [pI,pJ]) (ys:= [PV.str "in",.str "out"]) (d:=form - 3) (by rw[inS,znt];rfl) 0#0 (by show form - 3 < 2;grobner);have hh:hd=pI∨hd=pJ:=by simpa using hh
  simp_all? only[eh]
  refine o3 hw (zU hi) hb λw' hp' a b hb=> ?_;have:=q _ (zse hh hp hp') a b hb;unfold vD at this
  simp_all?
  exact this
 simp?;symm;refine uG (λh=> ?_) (λh=> ?_)
 ·refine o3 hw (zU hi) hb λw' hp' a b hb=> ?_
  have:=q _ (zsf hp ht hp') a b hb;unfold vD at this
  simp_all? only[tV]
  exact this
 ·have:=q _ (zsh ht) a b hb
  unfold vD at this
  simp_all? only[tV]
  exact this
theorem zvq (M:Mo K mg){f:aa}{fd:bh}(F:zS K 73#1 73#1 za5 f fd):yK P w K mg base yG 22 f fd [0#1,3#1] (yF K (zyQ)):=by
 obtain⟨jG,jH,xB,xO,xQ⟩:=M._law_next;have xM:=lY P w base M xB;obtain⟨fY,fZ,vK,t0,t5⟩:=M._law_one;have uU:=gG P w base M vK;obtain⟨zl8,zl_,sS,rS,rX⟩:=M._law_term;have nX:=zah P w base M sS rS rX 7;obtain⟨z3E,z3O,zbe,ziM,zm6⟩:=M._law_deed;have zie:=zvn P w base M zbe;refine xE 0 F zhe (λxs st Q h=>by obtain⟨i,ws,a,b,rfl,_⟩:=h;rfl) ⟨_,λxw A outer s H E hr=>have hr1:zH 1 _:=hr.mono 2#0;have hr2:zH 2 _:=hr.mono 2#0;have hr20:zH 20 _:=hr.mono 2#0;have hr21:zH 21 _:=hr.mono 2#0;(zF (y9 (i:=2) zhe.nd rfl 0#2 4#2)
   (zF (yB (y0 nN (qv 2) zB (y8 _)) (zG (zW (yM (z6 (yE (yD hr) (vW 7#5) (qv 2) 1#4) (z6 0#3 z8))))) yI)
   (zF (yB (y0 (x8 hr) (qv 2) zB (y8 _)) (zF (y9 (i:=3) zhe.nd rfl 0#2 (zM nX hr20 4#0 rX sS.kp rS (z6 (qv 0) (z6 (qv 1) (z6 t8 (z6 (y6 xF zB 4#2) (z6 (y6 xF zB 4#2) z8)))))))
   (zG (zW (yM (z6 zD (z6 (qv 3) (z6 (zM zie hr21 4#0 zm6 zbe.kp ziM (z6 (qv 0) 9#5)) z8))))))) yI)
   (zG (zW (zM zie hr21 4#0 zm6 zbe.kp ziM (z6 (qv 0) 9#5))))))),λxs st Q h=> ?_⟩
 obtain⟨i,ws,a,b,rfl,hi,hb,hw,q⟩:=h;symm;refine⟨i,_,a,b,rfl,hi,hb,2#0,2#0,λform a b f0 f1 hb=> ?_⟩;symm;refine uG (λh=> ?_) (λh=> ?_)
 ·have h:=of_decide_eq_true h
  obtain⟨hd,hh,eh⟩:=bJ (l:= [m7,m6]) (ys:= [PV.str "split",.str "join"]) (d:=form) (by rw[zze,zt8];rfl) f0 h;have hh:hd=m7∨hd=m6:=by simpa using hh
  simp_all? only[eh]
  refine o3 hw (zU hi) hb λw hp a b hb=> ?_;have:=q _ (zsg hh hp) a b hb;unfold w4 at this
  simp_all?
  exact this
 symm;refine uG (λh=> ?_) (λh=> ?_)
 ·refine zJ ?_
  refine lJ (TmP false i st) (λQ k=> ?_) ?_
  ·simp?
   refine⟨i,_,a,b,rfl,(by first | exact zU hi | exact zU (zU hi)),hb,2#0,2#0,λg a b g0 g1 hb=> ?_⟩;simp?;obtain⟨g,rfl⟩:=fg g0;refine⟨i,_,a,b,rfl,(by first | exact zU hi | exact zU (zU hi)),hb,2#0,2#0,λe a b e0 e1 hb=> ?_⟩;simp?;obtain⟨e,rfl⟩:=fg e0;refine⟨i,ws,false,1+g,1+e,a,b,?_,(by first | exact zU hi | exact zU (zU hi)),hb,hw,0#0,0#0,0#0,λt ht a b hb=> ?_⟩
   ·rw[show(((1+g:Nat)):Int)=1+(g:Int) by grobner,show(((1+e:Nat)):Int)=1+(e:Int) by grobner]
   exact k _ _ ⟨t,a,b,rfl,ht.up 0#0 0#0,hb,by simp only[gm]⟩
  rintro _ _ ⟨t,a,b,rfl,ht,hb,rfl⟩;simp?;refine⟨i,ws,a,b,rfl,(by first | exact zU hi | exact zU (zU hi)),hb,hw,λd hd a b hb=> ?_⟩;have:=q _ (zsj ht hd) a b hb;unfold w4 at this
  simp_all? only[tV,zab]
  exact this
 ·refine⟨i,ws,a,b,rfl,(by first | exact zU hi | exact zU (zU hi)),hb,hw,λd hd a b hb=> ?_⟩
  have:=q (.de d) hd a b hb;rw[zj9]
  simp_all?
  exact this
theorem nd9:([0#1,3#1,10#1,17#1,21#1,32#1,48#1,6#1,41#1]:List Str).Nodup:=1#0
theorem zuD:([0#1,3#1,10#1,17#1,21#1,32#1,48#1,6#1,20#1]:List Str).Nodup:=1#0
theorem zmC:([0#1,3#1,10#1,17#1,21#1,32#1,48#1,6#1,41#1,20#1]:List Str).Nodup:=1#0
theorem zvs (M:Mo K mg){f:aa}{fd:bh}(F:zS K 40#1 40#1 kL f fd):yK P w K mg base yG 21 f fd [0#1,3#1] (yF K (zyU)):=by
 obtain⟨jG,jH,xB,xO,xQ⟩:=M._law_next;have xM:=lY P w base M xB;obtain⟨fY,fZ,vK,t0,t5⟩:=M._law_one;have uU:=gG P w base M vK;obtain⟨zsv,zsx,gW,zbK,zgb⟩:=M._law_word;have zbk:=zne P w base M gW;obtain⟨zsu,zsw,i6,bL,aY⟩:=M._law_number;have cI:=znc P w base M i6;obtain⟨zl8,zl_,sS,rS,rX⟩:=M._law_term;have nX:=zah P w base M sS rS rX 7;refine xE 0 F jV (λxs st Q h=>by obtain⟨i,ws,a,b,rfl,_⟩:=h;rfl) ⟨_,λxw A outer s H E hr=>have hr1:zH 1 _:=hr.mono 2#0;have hr2:zH 2 _:=hr.mono 2#0;have hr3:zH 3 _:=hr.mono 2#0;have hr20:zH 20 _:=hr.mono 2#0;(zF (y9 (i:=2) jV.nd rfl 0#2 0#3)
   (zF (y9 (i:=3) jV.nd rfl 0#2 4#2)
   (zF (yB (y0 nN (qv 3) zB (y8 _)) (zG (zW (yM (z6 (qv 2) (z6 (yM (z6 (yE (yD hr) (vW 7#5) (qv 3) 1#4) z8)) (z6 (zM cI hr2 4#0 aY i6.kp bL (z6 (qv 0) (z6 zB z8))) z8)))))) yI)
   (zF (yB (y0 (x8 hr) (qv 3) zB (y8 _)) (zF (y9 (i:=4) jV.nd rfl 0#2 (zxq rfl 4#0 M.sorted 4#0 M.set (uR (own:= [41#1]) 7#3 rfl (l3 4#0 M.range (z6 4#2 z8)) (λC s H fp mt=>(yX (i:=8) nd9 rfl 0#2)) 0#4 (λC s H fp mt=>(zM zbk hr3 4#0 zgb gW.kp zbK (z6 (qv 0) z8))))))
   (zF (y9 (i:=5) jV.nd rfl (Or.inr rfl) (uR (own:= [20#1]) 7#3 rfl (u5 (qv 4)) (λC s H fp mt=>(yX (i:=8) zuD rfl 0#2)) 0#4 (λC s H fp mt=>(y6 nO (yE (yD hr) (vW (z6 zB (z6 (zg3 zgm zB) z8))) 4#2 1#4) (y6 xF zB 4#2)))))
   (zG (zW (yM (z6 (qv 2) (z6 (yM (z6 zD z8)) (z6 (u3 qV 4#0 M.tuple sC (z6 (uR (own:= [41#1,20#1]) 7#3 rfl (zxu 4#0 M.enumerate (z6 (qv 4) z8)) (λC s H fp mt=>(o9 (n:=2) rfl (vX (yX (i:=8) zmC rfl 0#2) (vX (yX (i:=9) zmC rfl 0#2) oA)))) 0#4 (λC s H fp mt=>(yM (z6 (qv 9) (z6 (yE (yD hr) (qv 5) (qv 8) 1#4) z8))))) z8)) z8)))))))) yI)
   (zF (yB (y0 (x8 hr) (qv 3) zB (y8 _)) (zG (zW (yM (z6 (qv 2) (z6 (yM (z6 zD z8)) (z6 (u3 qV 4#0 M.tuple sC (z6 (uR (own:= [41#1]) 7#3 rfl (l3 4#0 M.range (z6 4#2 z8)) (λC s H fp mt=>(yX (i:=8) nd9 rfl 0#2)) 0#4 (λC s H fp mt=>0#3)) z8)) z8)))))) yI)
   (zF (y9 (i:=6) jV.nd rfl 0#2 (y6 xF zB 4#2))
   (zF (y9 (i:=7) jV.nd rfl 0#2 (zM nX hr20 4#0 rX sS.kp rS (z6 (qv 0) (z6 (qv 1) (z6 t8 (z6 (yE (yD hr) (vW (z6 zB (z6 zB (z6 zB z8)))) 4#2 1#4) (z6 4#2 z8)))))))
   (zG (zW (yM (z6 (qv 2) (z6 (yM (z6 zD (z6 (qv 6) (z6 (qv 7) z8)))) (z6 (zM xM hr1 4#0 xQ xB.kp xO (z6 (qv 0) (z6 (qv 6) z8))) z8))))))))))))),λxs st Q h=> ?_⟩
 obtain⟨i,ws,a,b,rfl,hi,hb,hw,q⟩:=h;symm;refine o3 hw hi hb λw hp a b hb=> ?_;symm;refine⟨i,_,a,b,rfl,(by first | exact zU hi | exact zU (zU hi)),hb,2#0,2#0,λform a b f0 f1 hb=> ?_⟩;simp?;symm;refine uG (λh=> ?_) (λh=> ?_)
 ·have h:=of_decide_eq_true h
  obtain⟨hd,hh,eh⟩:=bJ (l:= [oN,oQ]) (ys:= [PV.str "last",.str "sum"]) (d:=form) (by rw[ztI,zzi];rfl) f0 h;have hh:hd=oN∨hd=oQ:=by simpa using hh
  simp_all? only[eh]
  refine⟨i,a,b,rfl,(by first | exact zU hi | exact zU (zU hi)),hb,λn hn a b hb=> ?_⟩;have:=q _ (zyx hp hh hn) a b hb;unfold yT at this
  simp_all?
  exact this
 simp?;symm;refine uG (λh=> ?_) (λh=> ?_)
 ·refine zJ ?_
  refine lJ (WrP 10 i st) (λQ k=> ?_) ?_
  ·simp?
   refine⟨i,_,a,b,rfl,(by first | exact zU hi | exact zU (zU hi)),hb,2#0,2#0,λn a b n0 n1 hb=> ?_⟩;simp?;refine⟨0#0,?_⟩;refine⟨λj ys env s=> ∃(zs:List W9) (v:Option PV) (a b:Int),ys=zs.map sv/\zs.length=j/\(∀z∈zs,y1 z=true)/\env= [some (PV.obj i),some 7#7,some (sv w),some (PV.int form),none,none,none,none,v]/\s=st.set i (xG a b)/\xW a b,⟨[],none,a,b,rfl,rfl,λz hz=>(by cases hz),rfl,rfl,hb⟩,?_,?_⟩
   ·rintro j x ys env s hx ⟨zs,v,a,b,rfl,hj,hz,rfl,rfl,hb⟩
    simp_all?
    refine⟨i,a,b,rfl,(by first | exact zU hi | exact zU (zU hi)),hb,λw' hp' a b hb=> ?_⟩
    simp_all?
    refine⟨zs++ [w'],_,a,b,by rw[ay];rfl,by rw[af,hj];rfl,λz hz'=> ?_,rfl,rfl,hb⟩;rcases bi.mp hz' with hz' | hz'
    ·exact hz z hz'
    ·rw[au.mp hz'];exact hp'
   ·rintro ys env s ⟨zs,v,a,b,rfl,hj,hz,rfl,rfl,hb⟩
    rw[qA]at hj;refine⟨zs.map zA,by rw[<- lU];rfl,by rw[ah];grobner,λks hks hsub xx=>k _ _ ⟨ks.map λz=>z.cps.toList,a,b,?_,λz hz'=> ?_,rg.mpr hks,by rw[ah]at xx⊢;grobner,hb,rfl⟩⟩
    ·rw[dm]
     exact congrArg PV.lst (on λz _=>zzj z)
    ·obtain⟨y,hy,rfl⟩:=bt.mp hz'
     obtain⟨x,hx,rfl⟩:=bt.mp (hsub y hy);rw[tS];exact hz x hx
  rintro _ _ ⟨l,a,b,rfl,hl,hpw,h10,hb,rfl⟩;simp?;refine zJ ?_;refine lJ (BnP l.length i st) (λQ k=> ?_) ?_
  ·simp?
   refine⟨λj ys env s=> ∃(ns:List Int) (v:Option PV) (a b:Int),ys=ns.map PV.int/\ns.length=j/\(∀z∈ns,z≠0/\ -100 < z/\z < 100)/\env= [some (PV.obj i),some 7#7,some (sv w),some (PV.int form),some (PV.lst (List.map sv l)),none,none,none,v]/\s=st.set i (xG a b)/\xW a b,⟨[],none,a,b,rfl,rfl,λz hz=>(by cases hz),rfl,rfl,hb⟩,?_,?_⟩
   ·rintro j x ys env s hx ⟨ns,v,a,b,rfl,hj,hz,rfl,rfl,hb⟩
    simp_all?
    refine⟨i,_,a,b,rfl,(by first | exact zU hi | exact zU (zU hi)),hb,2#0,2#0,λg a b g0 g1 hb=> ?_⟩;have hg: ∃r:Int,(r=1∨r= -1)/\atI [PV.int 1,PV.int (-1)] g=some (.int r):=by
     have:g=0∨g=1:=0#0
     rcases this with rfl | rfl
     ·exact⟨1,.inl rfl,rfl⟩
     ·exact⟨-1,.inr rfl,rfl⟩
    obtain⟨r,hr,eg⟩:=hg
    simp_all? only[eg]
    refine⟨i,_,a,b,rfl,(by first | exact zU hi | exact zU (zU hi)),hb,2#0,2#0,λe a b e0 e1 hb=> ?_⟩
    simp_all?
    refine⟨.inl ⟨0#0,0#0⟩,ns++ [r * (1+e)],_,a,b,by rw[ay];rfl,by rw[af,hj];rfl,λz hz'=> ?_,rfl,by simp only[gm],hb⟩;rcases bi.mp hz' with hz' | hz'
    ·exact hz z hz'
    ·rw[au.mp hz'];rcases hr with rfl | rfl <;> grobner
   ·rintro ys env s ⟨ns,v,a,b,rfl,hj,hz,rfl,rfl,hb⟩
    rw[ah]at hj;exact k _ _ ⟨ns,a,b,rfl,hj,hz,hb,rfl⟩
  rintro _ _ ⟨ns,a,b,rfl,hln,hns,hb,rfl⟩;simp? only[zlP];refine⟨_,rfl,.inl ⟨_,rfl,?_⟩⟩;have hzl:(l.zip ns).length=l.length:=by rw[me];grobner
  refine⟨λj ys env s=> ∃(v1 v2:Option PV),ys=((l.zip ns).take j).map u0/\env= [some (PV.obj i),some 7#7,some (sv w),some (PV.int form),some (PV.lst (List.map sv l)),some 4#7,none,none,v1,v2]/\s=st.set i (xG a b),⟨none,none,rfl,rfl,rfl⟩,?_,?_⟩
  ·rintro j x ys env s hx ⟨v1,v2,rfl,rfl,rfl⟩
   obtain⟨y,hy,rfl⟩:=aB hx;obtain⟨w',hw',rfl⟩:=tL hy;have hj:j < ns.length:=by rw[hln];exact(ba.mp hw').1
   have en:atI (List.map PV.int ns) (j:Int)=some (.int ns[j]):=qM (j:=j) (by rw[dv,bn hj];rfl);have ez:(l.zip ns)[j]?=some (w',ns[j]):=rj.mpr ⟨hw',bn hj⟩
   simp_all? only[en]
   refine⟨_,_,?_,rfl⟩;rw[qC ez,ay];rfl
  ·rintro ys env s ⟨v1,v2,rfl,rfl,rfl⟩
   rw[jF,ah,bq 0#0];have ok:okB (l.zip ns):=by
    refine⟨λp hp=> ?_,?_⟩
    ·obtain⟨h1,h2⟩:=kt (a:=p.1) (b:=p.2) hp
     exact⟨hl _ h1,hns _ h2⟩
    ·have:((l.zip ns).map Prod.fst).Pairwise λa b=>a < b:=by rw[List.map_fst_zip 0#0];exact hpw
     exact rg.mp this
   have:=q _ (zyw hp ok 0#0) a b hb;unfold yT at this;rw[zrx]
   simp_all?
   exact this
 simp?;symm;refine uG (λh=> ?_) (λh=> ?_)
 ·simp_all?
  refine⟨i,_,a,b,rfl,(by first | exact zU hi | exact zU (zU hi)),hb,2#0,2#0,λn a b n0 n1 hb=> ?_⟩
  simp_all?
  refine⟨0#0,?_⟩;refine⟨λj ys env s=> ∃(zs:List W9) (v:Option PV) (a b:Int),ys=zs.map sv/\zs.length=j/\(∀z∈zs,y1 z=true)/\env= [some (PV.obj i),some 7#7,some (sv w),some (PV.int form),none,none,none,none,v]/\s=st.set i (xG a b)/\xW a b,⟨[],none,a,b,rfl,rfl,λz hz=>(by cases hz),rfl,rfl,hb⟩,?_,?_⟩
  ·rintro j x ys env s hx ⟨zs,v,a,b,rfl,hj,hz,rfl,rfl,hb⟩
   simp_all?
   refine o3 hw (by first | exact zU hi | exact zU (zU hi)) hb λw' hp' a b hb=> ?_
   simp_all?
   refine⟨zs++ [w'],_,a,b,by rw[ay];rfl,by rw[af,hj];rfl,λz hz'=> ?_,rfl,by simp only[gm],hb⟩;rcases bi.mp hz' with hz' | hz'
   ·exact hz z hz'
   ·rw[au.mp hz'];exact hp'
  ·rintro ys env s ⟨zs,v,a,b,rfl,hj,hz,rfl,rfl,hb⟩
   rw[qA]at hj;have:=q _ (zyy hp hz 0#0) a b hb;unfold yT at this;rw[zxR]
   simp_all?
   exact this
 simp?;symm;refine⟨i,_,a,b,rfl,(by first | exact zU hi | exact zU (zU hi)),hb,2#0,2#0,λg a b g0 g1 hb=> ?_⟩;simp?;obtain⟨g,rfl⟩:=fg g0;refine zJ ?_;refine lJ (TmP true i st) (λQ k=> ?_) ?_
 ·simp?
  refine⟨i,_,a,b,rfl,(by first | exact zU hi | exact zU (zU hi)),hb,2#0,2#0,λg' a b g0 g1 hb=> ?_⟩;have hg: ∃r:Nat,1<=r/\r<=30/\atI [PV.int 1,PV.int 6,PV.int 15] g'=some (.int r):=by
   have:g'=0∨g'=1∨g'=2:=0#0
   rcases this with rfl | rfl | rfl
   ·exact⟨1,2#0,2#0,rfl⟩
   ·exact⟨6,2#0,2#0,rfl⟩
   ·exact⟨15,2#0,2#0,rfl⟩
  obtain⟨r,hr1,hr2,eg⟩:=hg;simp? only[eg];refine⟨i,_,a,b,rfl,(by first | exact zU hi | exact zU (zU hi)),hb,2#0,2#0,λe a b e0 e1 hb=> ?_⟩;obtain⟨e,rfl⟩:=fg e0;refine⟨i,ws,true,r,e,a,b,rfl,(by first | exact zU hi | exact zU (zU hi)),hb,hw,hr1,hr2,0#0,λt ht a b hb=> ?_⟩;exact k _ _ ⟨t,a,b,rfl,ht.up hr2 0#0,hb,by simp only[gm]⟩
 rintro _ _ ⟨t,a,b,rfl,ht,hb,rfl⟩;simp?;refine⟨tV t,i,_,a,b,rfl,(by first | exact zU hi | exact zU (zU hi)),hb,0#0,0#0,λz a b z0 z1 hb=> ?_⟩;obtain⟨z,rfl⟩:=fg z0;have:Q (PV.tup [sv w,PV.tup [.str 28#1,.int ((2+g:Nat):Int),zO true t],.int z]) 3#7:=q _ (zyz (n:=2+g) (b:=z) hp 0#0 0#0 0#0 ht) a b hb;rw[show(((2+g:Nat)):Int)=2+(g:Int) by grobner]at this
 simp_all?
 exact this
theorem zmD:([8#1,"_law_at",0#1,"?3",3#1,27#1,64#1,"_law_hands","_law_own",5#1,41#1]:List Str).Nodup:=1#0
theorem zuE:([8#1,"_law_at",0#1,41#1,3#1,27#1,64#1,"_law_hands","_law_own",5#1,"_law_j"]:List Str).Nodup:=1#0
theorem zvp (M:Mo K mg){f:aa}{fd:bh}(F:zS K 24#1 24#1 jT f fd):yK P w K mg base yG 23 f fd [8#1,"_law_at"] (yF K (zyK)):=by
 obtain⟨z3F,z3P,cC,zbJ,zga⟩:=M._law_feed;have zbi:=zvo P w base M cC;obtain⟨jG,jH,xB,xO,xQ⟩:=M._law_next;have xM:=lY P w base M xB;obtain⟨fY,fZ,vK,t0,t5⟩:=M._law_one;have uU:=gG P w base M vK;obtain⟨zsv,zsx,gW,zbK,zgb⟩:=M._law_word;have zbk:=zne P w base M gW;obtain⟨z3H,z3R,zhN,zrq,zuf⟩:=M._law_row;have zpW:=zvq P w base M zhN;obtain⟨z3J,z3T,zhP,zrs,zuh⟩:=M._law_shelf;have zpY:=zvs P w base M zhP;refine xE 0 F l5 (λxs st Q h=>by obtain⟨ns,k,rfl,_⟩:=h;rfl) ⟨_,λxw A outer s H E hr=>have hr1:zH 1 _:=hr.mono 2#0;have hr2:zH 2 _:=hr.mono 2#0;have hr3:zH 3 _:=hr.mono 2#0;have hr21:zH 21 _:=hr.mono 2#0;have hr22:zH 22 _:=hr.mono 2#0;(zF (y9 (i:=2) l5.nd rfl (Or.inr rfl) (zM zbi hr1 4#0 zga cC.kp zbJ (z6 (qv 0) 9#5)))
   (zF (y9 (i:=4) l5.nd rfl (Or.inr rfl) (uR (own:= [41#1]) (vV (fsc:=zX jT) (N:= 5#4) (N':= [8#1,"_law_at",0#1,"?3",3#1,27#1,64#1,"_law_hands","_law_own",5#1]) rfl rfl 1#0) rfl (l3 4#0 M.range (z6 zB z8)) (λC s H fp mt=>(yX (i:=10) zmD rfl 0#2)) 0#4 (λC s H fp mt=>(zM zbk hr3 4#0 zgb gW.kp zbK (z6 (qv 2) z8)))))
   (zF (y9 (i:=5) l5.nd rfl 0#2 (zM xM hr1 4#0 xQ xB.kp xO (z6 (qv 2) (z6 zB z8))))
   (zF (y9 (i:=6) l5.nd rfl 0#2 (u3 qV 4#0 M.tuple sC (z6 (uR (own:= [41#1]) (vV (fsc:=zX jT) (N:= 5#4) (N':= [8#1,"_law_at",0#1,"?3",3#1,27#1,64#1,"_law_hands","_law_own",5#1]) rfl rfl 1#0) rfl (l3 4#0 M.range (z6 (qv 5) z8)) (λC s H fp mt=>(yX (i:=10) zmD rfl 0#2)) 0#4 (λC s H fp mt=>(zM zpY hr21 4#0 zuh zhP.kp zrs (z6 (zM zbi hr1 4#0 zga cC.kp zbJ (z6 (qv 0) (z6 (y6 xF (y6 xF (qv 1) zB) (qv 10)) z8))) (z6 (qv 4) z8))))) z8)))
   (zF (y9 (i:=7) l5.nd rfl 0#2 (k8 z8))
   (zF (kC fv rfl (l3 4#0 M.range (z6 (zM xM hr1 4#0 xQ xB.kp xO (z6 (qv 2) (z6 (yE (yD hr) (vW (z6 zB (z6 zB z8))) (zM xM hr1 4#0 xQ xB.kp xO (z6 (qv 2) (z6 zB z8))) 1#4) z8))) z8)) (yX (i:=3) l5.nd rfl 0#2) (zF (y9 (i:=8) l5.nd rfl (Or.inr rfl) (zM zbi hr1 4#0 zga cC.kp zbJ (z6 (qv 0) (z6 (y6 xF (y6 xF (qv 1) zB) (qv 3)) z8))))
   (zF (zxx (i0:=9) (own:= ["_law_j"]) (vV (fsc:=zX jT) (N:= 5#4) (N':= 5#4) rfl rfl 1#0) l5.nd rfl 0#2 rfl (l3 4#0 M.range (z6 (zM xM hr1 4#0 xQ xB.kp xO (z6 (qv 8) (z6 (yE (yD hr) (vW (z6 zB (z6 zB z8))) (zM xM hr1 4#0 xQ xB.kp xO (z6 (qv 8) (z6 zB z8))) 1#4) z8))) z8)) (λC s H fp mt=>(yX (i:=10) zuE rfl 0#2)) 0#4 (λC s H fp mt=>(zM zpW hr22 4#0 zuf zhN.kp zrq (z6 (qv 8) (z6 (qv 4) z8)))))
   (zG (sF (vE ce cu cv 2#0 nK (qv 7) (z6 (yM (z6 (zM uU hr2 4#0 t5 vK.kp t0 (z6 (qv 2) (z6 (qv 4) z8))) (z6 (u3 qV 4#0 M.tuple sC (z6 (qv 9) z8)) z8))) z8)))))))
   (zG (zW (yM (z6 (qv 6) (z6 (u3 qV 4#0 M.tuple sC (z6 (qv 7) z8)) z8))))))))))),λxs st Q h=> ?_⟩
 obtain⟨ns,k,rfl,hl,hk,q⟩:=h;symm;refine⟨ns,k,rfl,hl,0#0,λa b hb=> ?_⟩;symm;refine⟨λj ys env s=> ∃(zs:List W9) (v:Option PV) (a b:Int),ys=zs.map sv/\zs.length=j/\(∀z∈zs,y1 z=true)/\env= [some 4#7,some (PV.int ↑k),some (PV.obj st.length),none,none,none,none,none,none,none,v]/\s=st++ [xG a b]/\xW a b,⟨[],none,a,b,rfl,rfl,λz hz=>(by cases hz),rfl,rfl,hb⟩,?_,?_⟩
 ·rintro j x ys env s hx ⟨zs,v,a,b,rfl,hj,hz,rfl,rfl,hb⟩
  simp_all?
  refine⟨st.length,a,b,rfl,xU,hb,λw' hp' a b hb=> ?_⟩;rw[u7];refine⟨rfl,zs++ [w'],_,a,b,by rw[ay];rfl,by rw[af,hj];rfl,λz hz'=> ?_,rfl,rfl,hb⟩;rcases bi.mp hz' with hz' | hz'
  ·exact hz z hz'
  ·rw[au.mp hz'];exact hp'
 rintro ys env s ⟨ws,v,a,b,rfl,hj,hz,rfl,rfl,hb⟩;rw[qA]at hj;have hw:iO ws:=⟨hj,hz⟩;clear hz hj;simp?;symm;refine⟨st.length,_,a,b,rfl,xU,hb,2#0,2#0,λn a b n0 n1 hb=> ?_⟩;rw[u7];obtain⟨n,rfl⟩:=fg n0;simp?;refine zJ ?_;refine lJ (λx s=> ∃S:List xX,x= .tup (S.map yT)/\(∀s∈S,rO s)/\S.length<=6/\PG st s) (λQ k9=> ?_) ?_
 ·simp?
  refine⟨0#0,?_⟩;refine⟨λj ys env s=> ∃(S:List xX) (v:Option PV),ys=S.map yT/\S.length=j/\(∀s∈S,rO s)/\env= [some 4#7,some (PV.int ↑k),some (PV.obj st.length),none,some 7#7,some (PV.int ↑n),none,none,none,none,v]/\PG st s,⟨[],none,rfl,rfl,λz hz=>(by cases hz),rfl,zw6 hb⟩,?_,?_⟩
  ·rintro j x ys env s hx ⟨S,v,rfl,hj,hz,rfl,pg⟩
   obtain⟨_,rfl⟩:=zav hx
   simp_all?
   refine⟨ns,_,rfl,hl,0#0,λa b hb=> ?_⟩;refine⟨s.length,ws,a,b,rfl,xU,hb,hw,λsh hsh a b hb=> ?_⟩;rw[u7];refine⟨zmO sh,S++ [sh],_,by rw[ay];rfl,by rw[af,hj];rfl,λz hz'=> ?_,rfl,pg.new _⟩;rcases bi.mp hz' with hz' | hz'
   ·exact hz z hz'
   ·rw[au.mp hz'];exact hsh
  ·rintro ys env s ⟨S,v,rfl,hj,hz,rfl,pg⟩
   rw[qA]at hj;simp?;exact k9 _ _ ⟨S,rfl,hz,0#0,pg⟩
 rintro _ s ⟨S,rfl,hS,hS6,pg⟩;simp?;symm;symm;have yf:=pg.lt;obtain⟨a,b,eb,hb⟩:=(pg.new (PO.lst [])).bx;refine⟨st.length,_,a,b,rfl,eb,hb,2#0,2#0,λg a b g0 g1 hb=> ?_⟩;have pg1:=(pg.new (PO.lst [])).put hb;have el1:((s++ [PO.lst []]).set st.length (xG a b))[s.length]?=some (PO.lst ([]:List PV)):=by rw[ge 0#0];exact xU
 generalize (s++ [PO.lst []]).set st.length (xG a b)=s1 at pg1 el1;have hg: ∃r:Int,(r=3∨r=9)/\atI [PV.int 3,PV.int 9] g=some (.int r):=by
  have:g=0∨g=1:=0#0
  rcases this with rfl | rfl
  ·exact⟨3,.inl rfl,rfl⟩
  ·exact⟨9,.inr rfl,rfl⟩
 obtain⟨r,hr,eg⟩:=hg;simp? only[eg];obtain⟨a,b,eb,hb⟩:=pg1.bx;refine⟨st.length,_,a,b,rfl,eb,hb,0#0,0#0,λm a b m0 m1 hb=> ?_⟩;have pg2:=pg1.put hb;have el2:(s1.set st.length (xG a b))[s.length]?=some (PO.lst ([]:List PV)):=by rw[ge 0#0];exact el1
 generalize s1.set st.length (xG a b)=s2 at pg2 el2;simp?;refine⟨0#0,?_⟩;refine nB (λj env s'=> ∃(hs:List vG) (v3 v8 v9:Option PV),env= [some 4#7,some (PV.int ↑k),some (PV.obj st.length),v3,some 7#7,some (PV.int ↑n),some (PV.tup (S.map yT)),some (PV.obj s.length),v8,v9]/\hs.length=j/\(∀h∈hs,ziu h)/\PG st s'/\s'[s.length]?=some (PO.lst (hs.map t6))) ⟨[],none,none,none,rfl,rfl,λz hz=>(by cases hz),pg2,el2⟩ ?_ ?_
 ·rintro j x env s' hx ⟨hs,v3,v8,v9,rfl,hj,hh,pg,el⟩
  obtain⟨hjm,rfl⟩:=zav hx;have hls:s.length < s'.length:=(ba.mp el).1;simp?;symm;refine⟨ns,_,rfl,hl,0#0,λa b hb=> ?_⟩;refine zJ ?_;refine lJ (λx t=> ∃rs:List wR,x= .lst (rs.map w4)/\(∀r∈rs,tG r)/\rs.length<=10/\∃o,t=s'++ [o]) (λQ k9=> ?_) ?_
  ·simp?
   refine⟨s'.length,_,a,b,rfl,xU,hb,2#0,2#0,λg a b g0 g1 hb=> ?_⟩;rw[u7];have hg: ∃r:Int,(r=4∨r=11)/\atI [PV.int 4,PV.int 11] g=some (.int r):=by
    have:g=0∨g=1:=0#0
    rcases this with rfl | rfl
    ·exact⟨4,.inl rfl,rfl⟩
    ·exact⟨11,.inr rfl,rfl⟩
   obtain⟨r,hr,eg⟩:=hg;simp? only[eg];refine⟨s'.length,_,a,b,rfl,xU,hb,0#0,0#0,λc a b c0 c1 hb=> ?_⟩;rw[u7];simp?;refine⟨0#0,?_⟩;refine⟨λi ys env t=> ∃(rs:List wR) (v:Option PV) (a b:Int),ys=rs.map w4/\rs.length=i/\(∀r∈rs,tG r)/\env= [some 4#7,some (PV.int ↑k),some (PV.obj st.length),some (PV.int (0+ ↑j)),some 7#7,some (PV.int ↑n),some (PV.tup (S.map yT)),some (PV.obj s.length),some (PV.obj s'.length),v9,v]/\t=s'++ [xG a b]/\xW a b,⟨[],none,a,b,rfl,rfl,λz hz=>(by cases hz),rfl,rfl,hb⟩,?_,?_⟩
   ·rintro i x ys env t hx ⟨rs,v,a,b,rfl,hi,hz,rfl,rfl,hb⟩
    simp_all?
    refine⟨s'.length,ws,a,b,rfl,xU,hb,hw,λro hro a b hb=> ?_⟩;rw[u7];refine⟨zmN ro,rs++ [ro],_,a,b,by rw[ay];rfl,by rw[af,hi];rfl,λz hz'=> ?_,rfl,rfl,hb⟩;rcases bi.mp hz' with hz' | hz'
    ·exact hz z hz'
    ·rw[au.mp hz'];exact hro
   ·rintro ys env t ⟨rs,v,a,b,rfl,hi,hz,rfl,rfl,hb⟩
    rw[qA]at hi;exact k9 _ _ ⟨rs,rfl,hz,0#0,_,rfl⟩
  rintro _ _ ⟨rs,rfl,hrs,h10,o,rfl⟩;simp?;have pg3:=pg.new o;have el3:(s'++ [o])[s.length]?=some (PO.lst (hs.map t6)):=by rw[cn hls];exact el
  generalize s'++ [o]=s3 at pg3 el3;obtain⟨a,b,eb,hb⟩:=pg3.bx;simp? only[el3];refine o3 hw eb hb λw hp a b hb=>⟨rfl,?_⟩;have pg4:=pg3.put hb;have el4:(s3.set st.length (xG a b))[s.length]?=some (PO.lst (hs.map t6)):=by rw[ge 0#0];exact el3
  generalize s3.set st.length (xG a b)=s4 at pg4 el4;rw[el4];simp?;refine⟨by rw[ah];have:=bR;grobner,hs++ [(w,rs)],_,_,_,rfl,by rw[af,hj];rfl,λz hz'=> ?_,pg4.oth yf _,?_⟩
  ·rcases bi.mp hz' with hz' | hz'
   ·exact hh z hz'
   ·rw[au.mp hz'];exact⟨hp,hrs,h10⟩
  ·rw[df (ba.mp el4).1,ay];rfl
 ·rintro env s' ⟨hs,v3,v8,v9,rfl,hj,hh,pg,el⟩
  rw[qA]at hj
  simp_all? only[el]
  have:=q (S,hs) ⟨hS,hh,hS6,by show hs.length<=8;grobner⟩;unfold uQ at this;rw[pg.tk];exact this
theorem zuF:([6#1,"_law_kind","_law_part"]:List Str).Nodup:=1#0
theorem zag (M:Mo K mg){f:aa}{fd:bh}(sR:zS K 12#1 12#1 dE f fd)(rR:y2 K fd [6#1] [])(rW:mg 12#1 =some 8#3): ∀d,yK P w K mg base yG (d+12) f fd [6#1] (yF K (gL d))
 | 0=>⟨λvs H Q E h=>(zaD h).elim,λA outer s H args us vs Q E _ _ _ _ h=>(zaD h).elim⟩
 | d+1=>by
  have nW:=zag M sR rR rW d;refine xE 0 sR zo4 (λxs st Q h=>by obtain⟨told,t,rfl,_⟩:=h;rfl) ⟨_,λxw A outer s H E hr=>have hr20:zH (d+12) _:=hr.mono 0#0;(zF (y9 (i:=1) zo4.nd rfl 0#2 2#2)
   (zF (yB (PW.pt (nU (y0 (x8 hr) (qv 1) zD (y8 _)) (kG (y0 (x8 hr) (qv 1) zD (y8 _))))) (zG (zW (u3 zvj 4#0 M.str jB (z6 2#2 z8)))) yI)
   (zF (yB (y0 (o0 hr) (qv 1) (vW 7#5) 4#0) (zG (zW (y6 xF (y6 xF zD (vE cq dz fb 2#0 zuZ zD (z6 (qv 0) z8))) zD))) yI)
   (zF (yB (y0 (x8 hr) (qv 1) zD (y8 _)) (zG (zW (eU (u6 zD (u6 (o7 2#2) (u6 zD (u6 (o7 (zM nW hr20 4#0 rW sR.kp rR (z6 2#2 z8))) (u6 zD (u6 (o7 (zM nW hr20 4#0 rW sR.kp rR (z6 2#2 z8))) (u6 zD eW)))))))))) yI)
   (zF (yB (y0 (x8 hr) (qv 1) zD (y8 _)) (zG (zW (y6 xF (y6 xF zD (vE cq dz fb 2#0 nM zD (z6 (y6 xF (vW (z6 zD z8)) (uR (own:= ["_law_part"]) (vV (fsc:=zX dE) (N:= [6#1,"_law_kind"]) (N':= [6#1,"_law_kind"]) rfl rfl 1#0) rfl (u5 (eV (qv 0) (eY zB) eX)) (λC s H fp mt=>(yX (i:=2) zuF rfl 0#2)) 0#4 (λC s H fp mt=>(zM nW hr20 4#0 rW sR.kp rR (z6 (qv 2) z8))))) z8))) zD))) yI)
   (zG (zW (qv 1)))))))),λxs st Q h=> ?_⟩
  obtain⟨told,t,rfl,v,hd,hl,q⟩:=h;have hb9:=rV;have n1:((30#1 :Str)== "num")=false:=1#0
  have n2:((30#1 :Str)== 30#1)=true:=1#0
  have n3:(("num" :Str)== "num")=true:=1#0
  have n4:(("op" :Str)== "num")=false:=1#0
  have n5:(("op" :Str)== 30#1)=false:=1#0
  have n6:(("op" :Str)== "op")=true:=1#0
  have n7:(("if" :Str)== "num")=false:=1#0
  have n8:(("if" :Str)== 30#1)=false:=1#0
  have n9:(("if" :Str)== "op")=false:=1#0
  have n10:(("if" :Str)== "if")=true:=1#0
  cases t with
  | lf w=>
   have hb:uK told w=true:=v.elim id λz=>by cases z.1
   cases hc:(told&&vM.contains w)with
   | true=>
    have h3:=(cj.mp hc).2;have m1:=kQ h3 (x:= "num") (v:= [110,117,109]) 1#0 2#0;have m2:=kQ h3 (x:= 30#1) (v:= [115,104,101,108,102]) 1#0 2#0;have m3:=kQ h3 (x:= "op") (v:= [111,112]) 1#0 2#0;have m4:=kQ h3 (x:= "if") (v:=xZ) 1#0 2#0;rw[show zO told (.lf w)= .tup [sv w] by unfold zO;rw[hc];rfl]
    simp_all? only[m1,m2,m3,m4]
    rw[eB mlV,show [w9,w6].contains w=false from by
     cases z: [w9,w6].contains w with
     | false=>rfl
     | true=>
      have z:w=w9∨w=w6:=by simpa using z
      rcases z with rfl | rfl <;> exact absurd h3 2#0]
    simp_all? only[m3,m4]
    exact q
   | false=>
    cases hp:(!told&&y1 w)with
    | true=>
     rw[show zO told (.lf w)= .tup [.str 30#1,sv w] by unfold zO;rw[hc,hp];rfl]
     simp_all? only[n1,n2]
     exact q
    | false=>
     rw[show zO told (.lf w)= .tup [.str "num",.int (vR w)] by unfold zO;rw[hc,hp];rfl];have hn:m8 w=true:=by
      cases told with
      | true=>rw[bQ,show vM.contains w=false from hc,iq]at hb;exact hb
      | false=>rw[bP,show y1 w=false from hp,iq]at hb;exact hb
     have hn:=cj.mp hn
     simp_all? only[n3]
     refine⟨by have:=of_decide_eq_true hn.2;grobner,?_⟩;rw[zi9 hn.1];exact q
  | op h a b=>
   obtain⟨ho,va,vb⟩:=v;have hd':1+max (xT a) (xT b) < d+1:=hd;have hl':(zQ (.op h a b)).length=h.length+(zQ a).length+(zQ b).length+4:=by simp[zQ];grobner
   rw[hl']at hl;unfold zO
   simp_all? only[n4,n5,n6]
   rw[zuu]
   simp_all? only[n6]
   rw[aV,iP,zax,lP];simp only[wH,yV,dq,af,ao,cz];refine⟨0#0,0#0,0#0,0#0,told,a,rfl,va,0#0,0#0,?_⟩;simp only[wH,yV,af,ao,cz];refine⟨0#0,0#0,0#0,told,b,rfl,vb,0#0,0#0,?_⟩;simp only[wH,yV,af,ao,cz];refine⟨0#0,0#0,0#0,0#0,?_⟩
   simp_all?
   have e:40::(h++ [32]++zQ a++ [32]++zQ b++ [41])=zQ (.op h a b):=by simp[zQ]
   rw[e];exact q
  | if3 a b c=>
   obtain⟨va,vb,vc⟩:=v;have hd':1+max (xT a) (max (xT b) (xT c)) < d+1:=hd;have hl':(zQ (.if3 a b c)).length=2+(zQ a).length+(zQ b).length+(zQ c).length+5:=by simp[zQ,xZ];grobner
   rw[hl']at hl;unfold zO
   simp_all? only[n7,n8,n9,n10]
   rw[zut]
   simp_all? only[n9,n10]
   rw[show qP [PV.str (Str.ofString "if"),zO told a,zO told b,zO told c] (some 1) none= [a,b,c].map (zO told)from rfl];refine zrV rfl (λt ht=> ?_) ⟨by show 1+3<=am;decide,?_⟩
   ·simp only[ar,bu,or_false]at ht
    rcases ht with rfl | rfl | rfl
    ·exact⟨va,0#0,0#0⟩
    ·exact⟨vb,0#0,0#0⟩
    ·exact⟨vc,0#0,0#0⟩
   rw[ifS];refine aP (ws:= [xZ,zQ a,zQ b,zQ c]) 300000 4 rfl (aq _) (λw hw=> ?_) 2#0 ?_
   ·simp only[ar,bu,or_false]at hw
    rcases hw with rfl | rfl | rfl | rfl
    ·decide
    all_goals grobner
   have e:40::(yS [xZ,zQ a,zQ b,zQ c]++ [41])=zQ (.if3 a b c):=by simp[zQ,yS]
   refine zr2 ?_ (by rw[e];exact q);have:=congrArg List.length e;rw[hl',ao,af]at this;grobner
  | fl h ws=>
   have hh:h=w9∨h=w6:=by
    obtain⟨_,⟨rfl,_⟩ | ⟨rfl,_⟩⟩:=v
    ·exact .inl rfl
    ·exact .inr rfl
   have m1:(zA h==("num" :Str))=false:=by rcases hh with rfl | rfl <;> decide+kernel
   have m2:(zA h==(30#1 :Str))=false:=by rcases hh with rfl | rfl <;> decide+kernel
   have m5: [w9,w6].contains h=true:=by rcases hh with rfl | rfl <;> decide
   have e:40::(yS (h::ws)++ [41])=zQ (.fl h ws):=rfl;have hs: ∀w∈h::ws,w.length<=8:=by
    obtain⟨_,⟨rfl,x,y,rfl,hx,hy⟩ | ⟨rfl,x,rfl,hx⟩⟩:=v
    ·exact zL 2#0 (zL (s0 hx).2 (yN (s0 hy).2))
    ·exact zL 2#0 (yN (s0 hx).2)
   have hw2:ws.length<=2:=by
    obtain⟨_,⟨rfl,x,y,rfl,_⟩ | ⟨rfl,x,rfl,_⟩⟩:=v <;> simp
   unfold zO
   simp_all? only[m1,m2]
   rw[eB mlV,m5]
   simp_all?
   have h1:=gP hs;rw[ao]at h1;refine⟨(h::ws).map zA,by rw[<- lU];rfl,by rw[ah,ao,show(" " :Str).length=1 by decide+kernel];grobner,?_⟩;rw[aO];refine zr3 (Q:=Q) ?_ (by rw[e];exact q);have:=congrArg List.length e;rw[ao,af]at this;grobner
theorem znd (M:Mo K mg){f:aa}{fd:bh}(i7:zS K 15#1 15#1 za6 f fd)(fL:y2 K fd [7#1] [])(eG:mg 15#1 =some 8#3): ∀d,yK P w K mg base yG (d+21) f fd [7#1] (yF K (zhw d))
 | 0=>⟨λvs H Q E h=>(zaC h).elim,λA outer s H args us vs Q E _ _ _ _ h=>(zaC h).elim⟩
 | d+1=>by
  have zbj:=znd M i7 fL eG d;obtain⟨zl7,zl9,sR,rR,rW⟩:=M._law_shown_term;have nW:=zag P w base M sR rR rW 8;refine xE 0 i7 zhf (λxs st Q h=>by obtain⟨r,rfl,_⟩:=h;rfl) ⟨_,λxw A outer s H E hr=>have hr20:zH 20 _:=hr.mono 0#0;have hr23:zH (d+21) _:=hr.mono 0#0;(zF (y9 (i:=1) zhf.nd rfl 0#2 (k8 z8))
   (zF (kC fv rfl (u5 (qv 0)) (yX (i:=2) zhf.nd rfl 0#2) (zG (yB (oB (uS (vJ lW 4#0 M.isinstance je (z6 (qv 2) (z6 (kB 4#0 M.tuple sC) z8))))) (zG (sF (vE ce cu cv 2#0 nK (qv 1) (z6 (qv 2) z8)))) (zG (yB (y0 (o0 hr) (yE (yD hr) (qv 2) zB 1#4) (vW (z6 zD (z6 zD (z6 zD (z6 zD (z6 zD 7#5)))))) 4#0) (zG (sF (vE ce cu cv 2#0 nK (qv 1) (z6 (zM zbj hr23 4#0 eG i7.kp fL (z6 (qv 2) z8)) z8)))) (zG (sF (vE ce cu cv 2#0 nK (qv 1) (z6 (zM nW hr20 4#0 rW sR.kp rR (z6 (qv 2) z8)) z8)))))))))
   (zG (zW (vE cq dz fb 2#0 nM zD 9#5))))),λxs st Q h=> ?_⟩
  obtain⟨r,rfl,ok,hd,q⟩:=h;have hb:=rV;obtain⟨l,e,hl,h6,ej⟩:=zxT ok hd;rw[e];symm;symm;refine nB (λi env s=> ∃v:Option PV,env= [some (PV.tup (l.map (·.1))),some (PV.obj st.length),v]/\s=st++ [PO.lst (((l.take i).map (·.2)).map sv)]) ⟨none,rfl,rfl⟩ ?_ ?_
  ·rintro i x env s hx ⟨v,rfl,rfl⟩
   obtain⟨p9,hp,rfl⟩:=tL hx;obtain⟨y,w⟩:=p9;obtain⟨hk,hw⟩:=hl _ (bf hp);have up:((l.take (i+1)).map (·.2)).map sv=((l.take i).map (·.2)).map sv++ [sv w]:=by rw[qC hp,ay,ay];rfl
   have hle:(((l.take i).map (·.2)).map sv).length < am:=by rw[ah,ah,fj];grobner
   dsimp only;rcases hk with hk | ⟨told,t,hk,hz⟩ | ⟨de,hk,hz,h0⟩
   ·have hk:y=sv w:=hk
    subst hk
    simp_all? only[xU,u7]
    exact⟨hle,_,rfl,by rw[up]⟩
   ·cases hk
    obtain⟨h,ys,e9,hk⟩:=zxb told t hz.1;rw[e9]
    simp_all? only[xU,u7]
    rw[eB k7V,hk]
    simp_all? only[xU,u7]
    refine⟨told,t,by rw[e9],hz.1,by have:=hz.2.1;grobner,by have:=hz.2.2;grobner,?_⟩
    simp_all? only[xU,u7]
    exact⟨hle,_,rfl,by rw[up]⟩
   ·cases hk
    obtain⟨h,ys,e9,hk⟩:=zxc de hz.1;rw[e9]
    simp_all? only[xU,u7]
    rw[eB k7V,hk]
    simp_all? only[xU,u7]
    refine⟨.de de,by rw[<- e9];rfl,hz,h0,?_⟩
    simp_all? only[xU,u7]
    exact⟨hle,_,rfl,by rw[up];rfl⟩
  ·rintro env s ⟨v,rfl,rfl⟩
   rw[ah,bq (aq _)]
   simp_all?
   refine aP (ws:=l.map (·.2)) 6000 6 (by show(match(st++ [_])[st.length]? with | some (PO.lst xs)=>some xs | _=>none)=_;rw[xU]) (by rw[ah];exact h6) (λw hw=>by obtain⟨p,hp,rfl⟩:=bt.mp hw;exact(hl p hp).2) 2#0 ?_;show Q _ (List.take st.length (st++_));rw[jr,ej];exact q
theorem zmE:([2#1,5#1,10#1,31#1,47#1,7#1,75#1,"_law_word_here",27#1]:List Str).Nodup:=1#0
theorem zuG:([2#1,5#1,10#1,31#1,47#1,7#1,75#1,"_law_word_here"]:List Str).Nodup:=1#0
theorem zuH:([2#1,5#1,10#1,31#1,47#1,"?5",75#1,7#1]:List Str).Nodup:=1#0
theorem zvr (M:Mo K mg){f:aa}{fd:bh}(F:zS K 59#1 59#1 jU f fd):yK P w K mg base yG 24 f fd [2#1] (yF K (zyG)):=by
 obtain⟨zl7,zl9,sR,rR,rW⟩:=M._law_shown_term;have nW:=zag P w base M sR rR rW 8;obtain⟨z3K,z3U,i7,fL,eG⟩:=M._law_shown_row;have zbj:=znd P w base M i7 fL eG 2;refine xE 0 F qB (λxs st Q h=>by obtain⟨p,rfl,_⟩:=h;rfl) ⟨_,λxw A outer s H E hr=>have hr20:zH 20 _:=hr.mono 2#0;have hr23:zH 23 _:=hr.mono 2#0;(zF (y9 (i:=1) qB.nd rfl 0#2 (k8 z8))
   (zF (kC fv rfl (u5 2#2) (o9 (n:=3) rfl (vX (yX (i:=2) qB.nd rfl 0#2) (vX (yX (i:=3) qB.nd rfl 0#2) (vX (yX (i:=4) qB.nd rfl 0#2) oA)))) (zF (y9 (i:=5) qB.nd rfl 0#2 (eU (u6 zD (u6 (o7 (qv 2)) (u6 zD (u6 (o7 (yE (yD hr) (qv 3) zB 1#4)) eW))))))
   (zF (yB (y0 (x8 hr) (yE (yD hr) (qv 3) zB 1#4) zD (y8 _)) (zG (y9 (i:=5) qB.nd rfl 0#2 (y6 xF (qv 5) (vE cq dz fb 2#0 nM zD (z6 (uR (own:= ["_law_word_here",27#1]) (vV (fsc:=zX jU) (N:= 8#7) (N':= 8#7) rfl rfl 1#0) rfl (u5 (qv 4)) (λC s H fp mt=>(o9 (n:=2) rfl (vX (yX (i:=7) zmE rfl 0#2) (vX (yX (i:=8) zmE rfl 0#2) oA)))) 0#4 (λC s H fp mt=>(eU (u6 zD (u6 (o7 (qv 7)) (u6 zD (u6 (o7 (qv 8)) eW))))))) z8))))) (zG (yB (y0 (x8 hr) (yE (yD hr) (qv 3) zB 1#4) zD (y8 _)) (zG (y9 (i:=5) qB.nd rfl 0#2 (y6 xF (qv 5) (vE cq dz fb 2#0 nM zD (z6 (uR (own:= ["_law_word_here"]) (vV (fsc:=zX jU) (N:= 8#7) (N':= 8#7) rfl rfl 1#0) rfl (u5 (qv 4)) (λC s H fp mt=>(yX (i:=7) zuG rfl 0#2)) 0#4 (λC s H fp mt=>(y6 xF zD (qv 7)))) z8))))) (zG (yB (y0 (x8 hr) (yE (yD hr) (qv 3) zB 1#4) zD (y8 _)) (zG (y9 (i:=5) qB.nd rfl 0#2 (y6 xF (qv 5) (eU (u6 zD (u6 (o7 (yE (yD hr) (qv 3) zB 1#4)) (u6 zD (u6 (o7 (qv 4)) (u6 zD (u6 (o7 (zM nW hr20 4#0 rW sR.kp rR (z6 (yE (yD hr) (qv 3) zB 1#4) z8))) eW)))))))))) (zG (y9 (i:=5) qB.nd rfl 0#2 (y6 xF (qv 5) (eU (u6 zD (u6 (o7 (qv 4)) eW)))))))))))
   (zG (sF (vE ce cu cv 2#0 nK (qv 1) (z6 (qv 5) z8)))))))
   (zF (kC fv rfl (u5 2#2) (o9 (n:=2) rfl (vX (yX (i:=2) qB.nd rfl 0#2) (vX (yX (i:=6) qB.nd rfl 0#2) oA))) (zG (y9 (i:=1) qB.nd rfl 0#2 (y6 zad (y6 zad (qv 1) (vW (z6 (y6 xF zD (qv 2)) z8))) (uR (own:= [7#1]) (vV (fsc:=zX jU) (N:= 8#7) (N':= [2#1,5#1,10#1,31#1,47#1,"?5",75#1]) rfl rfl 1#0) rfl (u5 (qv 6)) (λC s H fp mt=>(yX (i:=7) zuH rfl 0#2)) 0#4 (λC s H fp mt=>(zM zbj hr23 4#0 eG i7.kp fL (z6 (qv 7) z8))))))))
   (zG (zW (qv 1)))))),λxs st Q h=> ?_⟩
 obtain⟨p,rfl,ok,q⟩:=h;have hb:=rV;unfold uQ;symm;symm;refine nB (λi env s=> ∃v2 v3 v4 v5:Option PV,env= [some 7#2,some (PV.obj (List.length st)),v2,v3,v4,v5,none]/\s=st++ [PO.lst (((p.1.take i).map λs=>yU (xS s)).map sv)]) ⟨none,none,none,none,rfl,rfl⟩ ?_ ?_
 ·rintro i x env s hx ⟨v2,v3,v4,v5,rfl,rfl⟩
  obtain⟨sh,hs,rfl⟩:=tL hx;have osh:=ok.1 sh (bf hs);have h6:=ok.2.2.1;have up:((p.1.take (i+1)).map λs=>yU (xS s)).map sv=((p.1.take i).map λs=>yU (xS s)).map sv++ [sv (yU (xS sh))]:=by rw[qC hs,ay,ay];rfl
  have hle:(((p.1.take i).map λs=>yU (xS s)).map sv).length < am:=by rw[ah,ah,fj];grobner
  generalize ((p.1.take i).map λs=>yU (xS s)).map sv=done at up hle;obtain⟨w,m⟩:=sh;have hw:=s0 osh.1.1;have vm:=osh.1.2;have yy:=ziz osh.2;rw[zmy,af,ao,af,ao]at yy;rw[zmy]at up;have h5:uA.length=5:=rfl;cases m with
  | num h n=>
   have n1:(zA h==("bag" :Str))=false:=by rw[mV,decide_eq_false];rcases vm.1 with rfl | rfl <;> decide
   have n2:(zA h==("row" :Str))=false:=by rw[g8,decide_eq_false];rcases vm.1 with rfl | rfl <;> decide
   have n3:(zA h==(28#1 :Str))=false:=by rw[qS,decide_eq_false];rcases vm.1 with rfl | rfl <;> decide
   have el:yU (wZ (.num h n))=h++32::y3 n:=by show yS [h,y3 n]=_;rw[uL h 3#0];rfl
   rw[el]at yy up;rw[af,ao]at yy;rw[show yT (w,.num h n)= .tup [sv w,.tup [sv h],.int n]from rfl];simp?;symm;rw[za_,iP,lP];simp only[wH,yV,dq,af,ao,cz];refine⟨0#0,0#0,0#0,0#0,0#0,0#0,0#0,?_⟩;refine zJ ?_;simp? only[n1,n2,n3,g9,cQ];rw[lP];simp only[wH,yV,dq,af,ao,cz];have:=vm.2;refine⟨0#0,0#0,0#0,0#0,0#0,hle,_,_,_,_,rfl,?_⟩;rw[up];exact congrArg (λx=>st++ [PO.lst (done++ [sv x])]) 3#0
  | told n t b=>
   have hs:=osh.2.1 (.t true t) (by simp[xS,wZ]);have el:yU (wZ (.told n t b))=tQ++32::(y3 n++32::(y3 b++32::zQ t)):=by show yS [tQ,y3 n,y3 b,zQ t]=_;rw[uL _ 3#0,uL _ 3#0,uL _ 3#0];rfl
   rw[el]at yy up;rw[af,ao,af,ao,af,ao]at yy;have n1:(zA tQ==("bag" :Str))=false:=by rw[mV];decide
   have n2:(zA tQ==("row" :Str))=false:=by rw[g8];decide
   have n3:(zA tQ==(28#1 :Str))=true:=by rw[qS];decide
   rw[show yT (w,.told n t b)= .tup [sv w,.tup [sv tQ,.int n,zO true t],.int b]from congrArg (λx=>PV.tup [sv w,.tup [.str x,.int n,zO true t],.int b]) zpr];simp?;symm;rw[za_,iP,lP];simp only[wH,yV,dq,af,ao,cz];refine⟨0#0,0#0,0#0,0#0,0#0,0#0,0#0,?_⟩;refine zJ ?_;simp? only[n1,n2,n3,g9,cQ];rw[lP];simp only[wH,yV,dq,af,ao,cz];have v1:=vm.2.1;have v2:=vm.2.2.1;have hz:=hs.2.2;refine⟨0#0,0#0,0#0,0#0,0#0,0#0,0#0,true,t,rfl,hs.1,by have:=hs.2.1;grobner,0#0,?_⟩;simp only[wH,yV,dq,af,ao,cz];rw[xU];simp? only[u7];refine⟨0#0,0#0,0#0,0#0,hle,_,_,_,_,rfl,?_⟩;rw[up];exact congrArg (λx=>st++ [PO.lst (done++ [sv x])]) 3#0
  | bag l=>
   rw[ztR]at yy up;rw[af]at yy;have n1:(zA wL==("bag" :Str))=true:=by rw[mV];decide
   rw[show yT (w,.bag l)= .tup [sv w,.tup [sv wL],.tup (l.map u0)]from rfl];simp?;symm;rw[za_,iP,lP];simp only[wH,yV,dq,af,ao,cz];refine⟨0#0,0#0,0#0,0#0,0#0,0#0,0#0,?_⟩;refine zJ ?_;simp? only[n1];have hl10:l.length<=11:=by
    have h25:=osh.2.2;have:(xS (w,.bag l)).length=(l.flatMap λp=> [yR.w p.1,.w (y3 p.2)]).length+1+1+1:=rfl;have e2: ∀l:List (W9×Int),(l.flatMap λp=> [yR.w p.1,.w (y3 p.2)]).length=2 * l.length:=λl=>by
     induction l with
     | nil=>rfl
     | cons p l ih=>rw[dy,af,ih];show 2+2 * l.length=2 * (l.length+1);grobner
    rw[this,e2]at h25;grobner
   have hwl: ∀x∈l.map λp=>32::(p.1++32::y3 p.2),x.length<=20:=λx hx=>by
    obtain⟨p,hp,rfl⟩:=bt.mp hx;obtain⟨h1,h2,h3,h4⟩:=vm.1 p hp;have a1:=s0 h1;have a2:=(bO (iF h2 h3 h4)).2.2.2.2;rw[ao,af,ao];grobner
   refine⟨λj ys env s=> ∃v1 v2:Option PV,ys=((l.take j).map λp=>32::(p.1++32::y3 p.2)).map sv/\env= [some 7#2,some (PV.obj (List.length st)),some (sv w),some (PV.tup [sv wL]),some (PV.tup (List.map u0 l)),some (PV.str (zA (uA++ [32]++w++ [32]++wL))),none,v1,v2]/\s=st++ [PO.lst done],⟨none,none,rfl,rfl,rfl⟩,?_,?_⟩
   ·rintro j x ys env s hx ⟨v1,v2,rfl,rfl,rfl⟩
    obtain⟨q9,hq,rfl⟩:=tL hx;obtain⟨h1,h2,h3,h4⟩:=vm.1 q9 (bf hq);have a1:=s0 h1;have a2:=(bO (iF h2 h3 h4)).2.2.2.2;rw[show u0 q9= .tup [sv q9.1,.int q9.2]from rfl]
    simp_all? only[cQ]
    rw[lP];simp only[wH,yV,dq,af,ao,cz];refine⟨0#0,0#0,0#0,0#0,0#0,0#0,0#0,_,_,?_,rfl⟩;rw[qC hq,ay,ay];exact congrArg (λx=>_++ [sv x]) 3#0
   rintro ys env s ⟨v1,v2,rfl,rfl,rfl⟩;rw[ah,bq (aq _)];simp?;refine zmo 20 11 rfl (by rw[ah];exact hl10) hwl 2#0 ?_;simp? only[xU,u7];simp only[wH,yV,dq,af,ao,cz];have hfl:=zs8 hwl;rw[ah]at hfl;have hBl:wL.length=3:=rfl;refine⟨0#0,hle,_,_,_,_,rfl,?_⟩;rw[up];exact congrArg (λx=>st++ [PO.lst (done++ [sv x])]) 3#0
  | row l=>
   rw[ztS]at yy up;rw[af]at yy;have n1:(zA wY==("bag" :Str))=false:=by rw[mV];decide
   have n2:(zA wY==("row" :Str))=true:=by rw[g8];decide
   rw[show yT (w,.row l)= .tup [sv w,.tup [sv wY],.tup (l.map sv)]from rfl];simp?;symm;rw[za_,iP,lP];simp only[wH,yV,dq,af,ao,cz];refine⟨0#0,0#0,0#0,0#0,0#0,0#0,0#0,?_⟩;refine zJ ?_;simp? only[n1,n2];have hl20:l.length<=22:=by
    have h25:=osh.2.2;have:(xS (w,.row l)).length=(l.map yR.w).length+1+1+1:=rfl;rw[this,ah]at h25;grobner
   have hwl: ∀x∈l.map (32:: ·),x.length<=20:=λx hx=>by
    obtain⟨z,hz,rfl⟩:=bt.mp hx;have a1:=s0 (vm z hz);rw[ao];grobner
   refine⟨λj ys env s=> ∃v1:Option PV,ys=((l.take j).map (32:: ·)).map sv/\env= [some 7#2,some (PV.obj (List.length st)),some (sv w),some (PV.tup [sv wY]),some (PV.tup (List.map sv l)),some (PV.str (zA (uA++ [32]++w++ [32]++wY))),none,v1]/\s=st++ [PO.lst done],⟨none,rfl,rfl,rfl⟩,?_,?_⟩
   ·rintro j x ys env s hx ⟨v1,rfl,rfl,rfl⟩
    obtain⟨z,hz,rfl⟩:=tL hx;have a1:=s0 (vm z (bf hz))
    simp_all?
    simp only[wH,yV,dq,af,ao,cz];refine⟨0#0,_,?_,rfl⟩;rw[qC hz,ay,ay]
    rfl
   rintro ys env s ⟨v1,rfl,rfl,rfl⟩;rw[ah,bq (aq _)];simp?;refine zmo 20 22 rfl (by rw[ah];exact hl20) hwl 2#0 ?_;simp? only[xU,u7];simp only[wH,yV,dq,af,ao,cz];refine⟨0#0,hle,_,_,_,_,rfl,?_⟩;rw[up];exact congrArg (λx=>st++ [PO.lst (done++ [sv x])]) 3#0
 ·rintro env s ⟨v2,v3,v4,v5,rfl,rfl⟩
  rw[ah,bq (aq _)];simp?;symm;refine nB (λi env s=> ∃(j:Nat) (v2 v3 v4 v5 v6:Option PV),env= [some 7#2,some (PV.obj j),v2,v3,v4,v5,v6]/\s[j]?=some (PO.lst ((sO p i).map sv))/\s.take st.length=st/\st.length<=j) ⟨st.length,_,_,_,_,_,rfl,?_,jr,aq _⟩ ?_ ?_
  ·rw[xU];unfold sO;rw[xl,xb,cg]
  ·rintro i x env s hx ⟨j,v2,v3,v4,v5,v6,rfl,ej,tk,hj⟩
   obtain⟨h,hh,rfl⟩:=tL hx;have oh:=ok.2.1 h (bf hh);rw[show t6 h= .tup [sv h.1,.tup (h.2.map w4)]from rfl];simp? only[ej];have hl2:=zgU (i:=i+1) ok;have el:=zo2 hh;have hp:=s0 oh.1;rw[zlN];simp only[wH,yV,dq,af,ao,cz];refine⟨by show 4+(0+1)+_<=_;grobner,_,_,eF ej,rfl,by rw[ah,gf];grobner,?_⟩;refine a0 (g:=λr=>sv (yU (xN r))) rfl (λr hr Q' q'=>⟨r,rfl,oh.2.1 r hr,rk2 r,q'⟩) (λ_=>rfl) ?_;refine⟨_,_,eF xU,rfl,by rw[af,ah,ah,gf];grobner,_,_,_,_,_,_,rfl,?_,?_,?_⟩
   ·rw[xU,zgV hh,ay,ay,dm]
    show _=some (PO.lst (List.map sv (sO p i)++ [sv (uW++32::h.1)]++_));rw[show uW++ [32]++h.1=uW++32::h.1 by simp]
    rfl
   ·have hjl:j < s.length:=(ba.mp ej).1
    rw[gq (by rw[af];grobner),gq 0#0];exact tk
   ·have hjl:j < s.length:=(ba.mp ej).1
    rw[af];grobner
  ·rintro env s ⟨j,v2,v3,v4,v5,v6,rfl,ej,tk,hj⟩
   rw[ah]at ej;unfold sO at ej;rw[bq (aq _)]at ej
   simp_all?
   show(if j < st.length then _ else _);rw[if_neg 0#0,ej,tk];exact q
theorem zgk:([2#1,"?1",49#1,5#1,7#1,10#1,31#1,47#1]:List Str).Nodup:=1#0
theorem zuI:([2#1,10#1,49#1,5#1,7#1,"_law_part"]:List Str).Nodup:=1#0
theorem zvt (M:Mo K mg){f:aa}{fd:bh}(F:zS K 39#1 39#1 gJ f fd):yK P w K mg base yG 1 f fd [2#1] (yF K (zza)):=by
 refine xE 0 F jX (λxs st Q h=>by obtain⟨p,rfl,_⟩:=h;rfl) ⟨_,λxw A outer s H E hr=>(zF (zoj (i0:=2) (own:= [10#1,31#1,47#1]) (vV (fsc:=zX gJ) (N:= [2#1,10#1,49#1,5#1,7#1]) (N':= [2#1,"?1",49#1,5#1,7#1]) rfl rfl 1#0) jX.nd rfl 0#2 rfl (u5 2#2) (λC s H fp mt=>(o9 (n:=3) rfl (vX (yX (i:=5) zgk rfl 0#2) (vX (yX (i:=6) zgk rfl 0#2) (vX (yX (i:=7) zgk rfl 0#2) oA))))) (λC s H fp mt=>zoe (y0 (x8 hr) (yE (yD hr) (qv 6) zB 1#4) zD (y8 _))) (λC s H fp mt=>(yM (z6 (yE (yD hr) (qv 6) zB 1#4) (z6 t8 z8)))))
   (zF (kC fv rfl (u5 2#2) (o9 (n:=2) rfl (vX (yX (i:=1) jX.nd rfl 0#2) (vX (yX (i:=3) jX.nd rfl 0#2) oA))) (zG (kC fv rfl (u5 (qv 3)) (yX (i:=4) jX.nd rfl 0#2) (zF (yB (y0 (x8 hr) (yE (yD hr) (qv 4) zB 1#4) zD (y8 _)) (zF (sF (vE ce cu cv 2#0 nK (qv 2) (z6 (yM (z6 (yE (yD hr) (qv 4) zB 1#4) (z6 t8 z8))) z8)))
   (zG (y9 (i:=4) jX.nd rfl 0#2 (yE (yD hr) (qv 4) zB 1#4)))) yI)
   (zG (y9 (i:=2) jX.nd rfl 0#2 (y6 zad (qv 2) (uR (own:= ["_law_part"]) (vV (fsc:=zX gJ) (N:= [2#1,10#1,49#1,5#1,7#1]) (N':= [2#1,10#1,49#1,5#1,7#1]) rfl rfl 1#0) rfl (u5 (qv 4)) (λC s H fp mt=>(yX (i:=5) zuI rfl 0#2)) (λC s H fp mt=>zoe (uS (vJ lW 4#0 M.isinstance je (z6 (qv 5) (z6 (kB 4#0 M.tuple sC) z8))))) (λC s H fp mt=>(yM (z6 (qv 5) (z6 t8 z8))))))))))))
   (zG (zW (qv 2))))),λxs st Q h=> ?_⟩
 obtain⟨p,rfl,ok,q⟩:=h;have hb:=rV;unfold uQ;symm;refine⟨λi ys env s=> ∃(v5 v6 v7:Option PV) (ts:List (yH×Bool)),ys=ts.map k7/\ts.length<=i/\(∀p∈ts,jN p)/\env= [some 7#2,none,none,none,none,v5,v6,v7]/\s=st,⟨none,none,none,[],rfl,aq _,λp hp=>(by cases hp),rfl,rfl⟩,?_,?_⟩
 ·rintro i x ys env s hx ⟨v5,v6,v7,ts,rfl,hl,ht,rfl,rfl⟩
  obtain⟨sh,hs,rfl⟩:=tL hx;have osh:=ok.1 sh (bf hs);obtain⟨w,m⟩:=sh;have vm:=osh.1.2;cases m with
  | num h n=>
   have n1:(zA h==(28#1 :Str))=false:=by rw[qS,decide_eq_false];rcases vm.1 with rfl | rfl <;> decide
   rw[show yT (w,.num h n)= .tup [sv w,.tup [sv h],.int n]from rfl]
   simp_all? only[n1]
   exact⟨_,_,_,ts,rfl,0#0,ht,rfl⟩
  | bag l=>
   have n1:(zA wL==(28#1 :Str))=false:=by rw[qS];decide
   rw[show yT (w,.bag l)= .tup [sv w,.tup [sv wL],.tup (l.map u0)]from rfl]
   simp_all? only[n1]
   exact⟨_,_,_,ts,rfl,0#0,ht,rfl⟩
  | row l=>
   have n1:(zA wY==(28#1 :Str))=false:=by rw[qS];decide
   rw[show yT (w,.row l)= .tup [sv w,.tup [sv wY],.tup (l.map sv)]from rfl]
   simp_all? only[n1]
   exact⟨_,_,_,ts,rfl,0#0,ht,rfl⟩
  | told n t b=>
   have hz:=osh.2.1 (.t true t) (by simp[xS,wZ]);have n1:((28#1 :Str)==(28#1 :Str))=true:=beq_self_eq_true _;rw[show yT (w,.told n t b)= .tup [sv w,.tup [.str 28#1,.int n,zO true t],.int b]from rfl]
   simp_all? only[n1,tV]
   refine⟨_,_,_,ts++ [(t,true)],by rw[ay];rfl,by rw[af];show _+1<=_;grobner,λp hp=> ?_,rfl⟩;rcases bi.mp hp with hp | hp
   ·exact ht p hp
   ·rw[au.mp hp];exact hz
 rintro ys env s ⟨v5,v6,v7,ts,rfl,hl,ht,rfl,rfl⟩;rw[ah]at hl;have h6:=ok.2.2.1;simp?;symm;refine nB (λi env s'=> ∃(j:Nat) (v1 v3 v4:Option PV) (ts:List (yH×Bool)),env= [some 7#2,v1,some (PV.obj j),v3,v4]/\s'[j]?=some (PO.lst (ts.map k7))/\s'.take s.length=s/\s.length<=j/\ts.length<=6+100 * i/\∀p∈ts,jN p) ⟨s.length,_,_,_,ts,rfl,xU,jr,aq _,0#0,ht⟩ ?_ ?_
 ·rintro i x env s' hx ⟨j,v1,v3,v4,ts,rfl,ej,tk,hj,hl,ht⟩
  obtain⟨h,hh,rfl⟩:=tL hx;have oh:=ok.2.1 h (bf hh);have hi:i < p.2.length:=(ba.mp hh).1;have h8:=ok.2.2.2;rw[show t6 h= .tup [sv h.1,.tup (h.2.map w4)]from rfl];simp?;refine nB (λk env s'=> ∃(j:Nat) (v4:Option PV) (ts:List (yH×Bool)),env= [some 7#2,some (sv h.1),some (PV.obj j),some (.tup (h.2.map w4)),v4]/\s'[j]?=some (PO.lst (ts.map k7))/\s'.take s.length=s/\s.length<=j/\ts.length<=6+100 * i+7 * k/\∀p∈ts,jN p) ⟨j,_,ts,rfl,ej,tk,hj,0#0,ht⟩ ?_ ?_
  ·rintro k x env s' hx ⟨j,v4,ts,rfl,ej,tk,hj,hl,ht⟩
   obtain⟨r,hr,rfl⟩:=tL hx;have orr:=oh.2.1 r (bf hr);have hk:k < h.2.length:=(ba.mp hr).1;have h10:=oh.2.2;simp?;refine zyq (λenv s'=> ∃(ts:List (yH×Bool)) (l:List yR),env= [some 7#2,some (sv h.1),some (PV.obj j),some (.tup (h.2.map w4)),some (.tup (l.map q5))]/\s'[j]?=some (PO.lst (ts.map k7))/\s'.take s.length=s/\ts.length<=6+100 * i+7 * k+1/\(∀p∈ts,jN p)/\(∀p∈l,szF p)/\l.length<=6) ?_ ?_
   ·intro N hN
    cases hr0:oE r with
    | zero=>
     obtain⟨h9,l9,ep,yo⟩:=zny orr.1 hr0;rw[zg1 hr0];have ez:atI (List.map q5 (xN r)) 0=some (sv h9):=by rw[ep];exact qM (j:=0) rfl
     have e0:yO (sv h9) (PV.str (Str.ofString "when"))=false:=zpL yo;simp? only[ez,e0];exact hN _ _ ⟨ts,xN r,rfl,ej,tk,0#0,ht,zvZ hr0 orr.2,cS r⟩
    | succ n=>
     cases r with
     | sj h w=>cases hr0
     | de d=>cases hr0
     | wh gd d=>
      have hs:=orr.2 (.t false gd) (by simp[xN]);have e0:(("when" :Str)==("when" :Str))=true:=beq_self_eq_true _;rw[show w4 (.wh gd d)= .tup [.str "when",zO false gd,vD d]from rfl]
      simp_all? only[e0,ej,tV]
      refine⟨by rw[ah];grobner,hN _ _ ⟨ts++ [(gd,false)],wF d,by rw[zg0],?_,?_,by rw[af];show _+1<=_;grobner,λp hp=> ?_,znx λp hp=>orr.2 p (by simp[xN];exact .inr (.inr hp)),by have:=cR d;grobner⟩⟩
      ·rw[df (ba.mp ej).1,ay];rfl
      ·rw[lw 0#0];exact tk
      ·rcases bi.mp hp with hp | hp
       ·exact ht p hp
       ·rw[au.mp hp];exact hs
   ·rintro env s' ⟨ts,l,rfl,ej,tk,hl,ht,hF,h6l⟩
    simp?;refine zrW hF λts2 ht2 hl2=>⟨_,_,eF ej,rfl,by rw[ah,ah];grobner,_,_,ts++ts2,rfl,?_,?_,?_,by rw[af];grobner,λp hp=> ?_⟩
    ·rw[xU,ay]
    ·have:=(ba.mp ej).1
     rw[gq 0#0];exact tk
    ·have:=(ba.mp ej).1
     grobner
    ·rcases bi.mp hp with hp | hp
     ·exact ht p hp
     ·exact ht2 p hp
  ·rintro env s' ⟨j,v4,ts,rfl,ej,tk,hj,hl,ht⟩
   rw[ah]at hl;have h10:=oh.2.2;exact⟨j,_,_,_,ts,rfl,ej,tk,hj,0#0,ht⟩
 ·rintro env s' ⟨j,v1,v3,v4,ts,rfl,ej,tk,hj,hl,ht⟩
  rw[ah]at hl;have h8:=ok.2.2.2
  simp_all?
  show(if j < s.length then _ else _);rw[if_neg 0#0,ej,tk];exact q ts ht 0#0
theorem zvm (M:Mo K mg){f:aa}{fd:bh}(F:zS K 42#1 42#1 zaz f fd):yK P w K mg base yG 1 f fd [49#1,"_law_due"] (yF K (zy_)):=by
 refine xE 0 F dH (λxs st Q h=>by obtain⟨x,rfl,_⟩:=h;rfl) ⟨_,λxw A outer s H E hr=>(zF (y9 (i:=2) dH.nd rfl 0#2 (k8 (z6 (yM (z6 (qv 0) 9#5)) z8)))
   (zF (zg6 fv (y0 (zve hr) (qv 2) (vW z8) (y8 _)) (zF (zg4 (zxo ce PySem.F.slot_list_pop PySem.F.type_list_pop 2#0 zvf (qv 2)) (o9 (n:=2) rfl (vX (yX (i:=3) dH.nd rfl 0#2) (vX (yX (i:=4) dH.nd rfl 0#2) oA))))
   (zG (yB (uS (vJ lW 4#0 M.isinstance je (z6 (qv 4) (z6 (kB 4#0 M.tuple sC) z8)))) (zF (yB (PW.pt (nU (oB (uS (vJ lW 4#0 M.isinstance je (z6 (qv 3) (z6 (kB 4#0 M.tuple sC) z8))))) (kG (y0 (lX hr) (vJ q0 4#0 M.len gi (z6 (qv 3) z8)) (vJ q0 4#0 M.len gi (z6 (qv 4) z8)) (y8 _))))) (zG (zW t8)) yI)
   (zG (y9 (i:=2) dH.nd rfl 0#2 (y6 zad (qv 2) (zxp rfl 4#0 M.list 4#0 M.zip (z6 (qv 3) (z6 (qv 4) z8))))))) (zG (yB (PW.pt (nU (uS (vJ lW 4#0 M.isinstance je (z6 (qv 3) (z6 (kB 4#0 M.bool zr1) z8)))) (nU (y0 (lX hr) (vJ lW 4#0 M.isinstance je (z6 (qv 3) (z6 (kB 4#0 M.int fQ) z8))) (vJ lW 4#0 M.isinstance je (z6 (qv 4) (z6 (kB 4#0 M.int fQ) z8))) (y8 _)) (kG (y0 (lX hr) (qv 3) (qv 4) (y8 _)))))) (zG (zW t8)) yI))))))
   (zG (zW t8)))),λxs st Q h=> ?_⟩
 obtain⟨x,rfl,hx,hn,ho,q⟩:=h;have hb:=rV;refine zJ ?_;simp? only[ho];refine zJ ?_;refine⟨λm env s=> ∃(j:Nat) (v3 v4:Option PV) (l:List PV),env= [some x,some x,some (PV.obj j),v3,v4]/\s[j]?=some (PO.lst (l.map qE))/\s.take st.length=st/\st.length<=j/\(∀y∈l,AT y)/\m=nds l/\nds l<=2000000,⟨_,st.length,none,none,[x],rfl,xU,jr,aq _,λy hy=>by rw[au.mp hy];exact hx,rfl,by rw[yP,vH];grobner⟩,?_⟩;rintro m env s ⟨j,v3,v4,l,rfl,ej,tk,hj,hl,rfl,hm⟩;simp?;refine⟨_,eF ej,rfl,?_⟩;rcases l.eq_nil_or_concat with rfl | ⟨l,y,e9⟩
 ·simp_all?
  rw[tk];exact q
 rw[ut]at e9;subst e9;have hy:AT y:=hl y 3#0;have hl': ∀z∈l,AT z:=λz hz=>hl z (by simp[hz]);rw[eJ,yP,vH]at hm;have yo:(List.map qE (l++ [y])).isEmpty=false:=by rw[ay];simp
 have hgl:(List.map qE (l++ [y])).getLast?=some (qE y):=by rw[ay];simp
 have hdl:(List.map qE (l++ [y])).dropLast=List.map qE l:=by rw[ay];simp
 rw[yo];simp?;refine⟨_,λ_ _ h=>h,?_⟩;refine zJ ?_;simp? only[ej,hgl,hdl];have hjl:j < s.length:=(ba.mp ej).1;have e2:(s.set j (PO.lst (List.map qE l)))[j]?=some (PO.lst (List.map qE l)):=df hjl;have tk2:(s.set j (PO.lst (List.map qE l))).take st.length=st:=by rw[lw hj];exact tk
 have l2:(s.set j (PO.lst (List.map qE l))).length=s.length:=fq ..;generalize s.set j (PO.lst (List.map qE l))=s2 at e2 tk2 l2;have mlt:nds l < nds (l++ [y]):=by rw[eJ,yP,vH];have:=zmI hy;grobner
 rw[show qE y= .tup [y,y]from rfl];cases hy with
 | int i=>
  simp_all?
  have ne:(i==i)=true:=beq_self_eq_true _
  simp_all? only[ne]
  exact⟨_,mlt,j,_,_,l,rfl,e2,tk2,hj,hl',rfl,0#0⟩
 | str z=>
  simp_all?
  have ne:(z==z)=true:=beq_self_eq_true _
  simp_all? only[ne]
  exact⟨_,mlt,j,_,_,l,rfl,e2,tk2,hj,hl',rfl,0#0⟩
 | @tup ys hys=>
  have xx:=zmJ hys;have hll:=zmJ hl';rw[wV]at hm
  simp_all?
  have ne:((ys.length:Int)==ys.length)=true:=beq_self_eq_true _
  simp_all? only[ne]
  refine⟨_,_,eF e2,rfl,by rw[ah,zpN,ah];grobner,_,?_,s2.length,_,_,l++ys,rfl,?_,?_,?_,λz hz=> ?_,rfl,by rw[eJ];grobner⟩
  ·rw[eJ,eJ,yP,vH,wV];grobner
  ·rw[xU,zpN,ay]
  ·rw[gq 0#0];exact tk2
  ·grobner
  ·rcases bi.mp hz with hz | hz
   ·exact hl' z hz
   ·exact hys z hz
theorem zvz (M:Mo K mg)(U:1#2){f:aa}{fd:bh}(F:zS K 54#1 54#1 zaF f fd):rJ P w K mg base yG 73 f fd ["line","shelves","hands"] (zyM K):=by
 obtain⟨z4u,z4h,zia,zrA,zu7⟩:=M.take_shelf;have zqj:=zv7 P w base M U zia;obtain⟨z4t,z4g,zhZ,zr_,zu6⟩:=M.take_row;have zqi:=zv6 P w base M U zhZ;have GE:=znf P w base M U;have GT:=nQ P w base M U;have GW:=jO P w base M U;have GI:=zng P w base M U;refine zna F zhi (λvs H Q E h=>by obtain⟨x,sh,hd,ls,S,S',Hs,Hs',rfl,_⟩:=h;rfl) λxw A outer s H vs Q E hr h=> ?_;have hr2:zH 2 _:=hr.mono 2#0;have hr3:zH 3 _:=hr.mono 2#0;have hr72:zH 72 _:=hr.mono 2#0;have hrI:zH 3 _:=hr.mono 2#0;refine⟨_,(eR (znM (i:=3) zhi.nd rfl 0#2 (zoa U.mkC GI hrI U.gp U.bI (z6 (qv 0) z8))) (xI.toP (eS (zao (i:=4) zhi.nd rfl 0#2 (wJ U.cl U.mT GT hr2 U.bT (qv 3))) (eS (eQ (y0 (x8 hr) (qv 4) zD (y8 _)) (eS (eQ (zgy (mY (i:=2) rfl 0#2) (λ_=>rfl)) znO zgw) (jP (eP (zam ce cu cv zaa (mY (i:=1) rfl 0#2) (qW (zM zqj hr72 4#0 zu7 zia.kp zrA (z6 (qv 3) z8)) qX))))) (jP (eQ (y0 (x8 hr) (qv 4) zD (y8 _)) (jP (eP (zam ce cu cv zaa (mY (i:=2) rfl 0#2) (qW (znA (qW (wJ U.cl U.mW GW hr3 U.bW (qv 3)) (qW (eO qX) qX))) qX)))) (eS (eQ (znQ (zgy (mY (i:=2) rfl 0#2) (λ_=>rfl))) znO zgw) (jP (eP (zam ce cu cv zaa (zgs zmh (zgs zmh (mY (i:=2) rfl 0#2) (zg3 zgm zB) 1#4) zn9 1#4) (qW (zM zqi hr72 4#0 zu6 zhZ.kp zr_ (z6 (qv 4) (z6 (qv 3) z8))) qX)))))))) (jP (eP (wJ U.cl U.mE GE hr2 U.bE (qv 3)))))))),?_⟩;obtain⟨x,sh,hd,ls,S,S',Hs,Hs',rfl,hx,hs,stp,hS,hH,hH2,q⟩:=h;obtain⟨kd,l,et,hc⟩:=zoU stp;have r3:=zb4 x;have r4:=zoQ (wO x);have hw: ∀w∈vO (wO x),w.length<=1000000:=λw h=>by have:=zoR _ w h;grobner
 have hb:=rV;refine⟨[],[some (sv x),none,none,none,none],[],λv xp=> ∃dx,v= .obj 0/\xp= [y7 C dx (vO (wO x)) 0],pB zxV (q4 (.val 7#4)) x9 x9 x9 x9,?_,λA1 H1 xm r v g1 s1 e1 h1=> ?_⟩
 ·simp_all?
  intro dx;refine⟨0,dx,x,rfl,rfl,hx,?_⟩
  first | exact⟨rfl,dx,rfl,rfl⟩ | exact⟨rfl,dx,rfl⟩ | exact⟨dx,rfl,rfl⟩ | exact⟨dx,rfl⟩
 obtain⟨dx,rfl,rfl⟩:=h1;obtain⟨p,rfl,hp0⟩:=zuT g1 s1;cases e1 with
 | val e=>cases e
 | obj e=>
 cases e;have L1:LS K C dx (vO (wO x)) H p sh hd ls (S.map yT) (Hs.map mZ) H1 0:=⟨s1,zsU g1,hs.keep (B:= []) (λb o e _=>g1.keep b o e 3#0) (λb hb=>by cases hb)⟩;generalize hws:vO (wO x)=ws at et r4 hw L1;have hl:ws.length<=1000000:=0#0
 show gR _ _ _ [some (.str (zA x)),some (.ref sh),some (.ref hd),some (.ref p),none] H1;refine⟨[p],[none,none,none,some (.obj 0),none],[y7 C dx ws 0],λv xp=> ∃k1,v=sv kd/\xp= [y7 C dx ws k1]/\ws.drop k1=l/\k1<=ws.length,pB L1.rs x9 x9 x9 (q4 (.obj rfl)) x9,?_,λA2 H2 xr r v g2 s2 e2 h2=> ?_⟩
 ·simp_all?
  refine⟨xP (st:= [y7 C dx ws 0]) rfl,0,dx,ws,0,kd,l,rfl,rfl,hl,hw,db _,by rw[ox,et];rfl,λk' e' hk'=>⟨k',rfl,rfl,e',hk'⟩⟩
 obtain⟨k1,rfl,rfl,ek1,hk1⟩:=h2;obtain⟨rfl,L2⟩:=L1.step hp0 g2 s2;cases u8 e2;show gR _ _ _ [some (.str (zA x)),some (.ref sh),some (.ref hd),some (.ref p),some (.str (zA kd))] H2;have hws0:ws≠ []:=by rw[et];simp
 have fin: ∀(H':Hp) (ls':List (aa×aa)),RS K [p] H' [y7 C dx ws ws.length]->zZ (sh::hd::ls.map (·.2)) H (sh::hd::ls'.map (·.2)) H'->HS K H' sh hd ls' (S'.map yT) (Hs'.map mZ)->H p=none->(∀b∈ [p],b∉sh::hd::ls'.map (·.2))->
   zhz (zV K (zhD C "take_end" (zoL C) (tP 3))) {nx:=λ_ H'=>Q .non H',rt:=Q} [some (.str (zA x)),some (.ref sh),some (.ref hd),some (.ref p),some (.str (zA kd))] H':=λH' ls' rs' gr' hs' _ hp'=>by
  refine⟨[p],[none,none,none,some (.obj 0),none],[y7 C dx ws ws.length],λv xp=>xp= [y7 C dx ws ws.length],pB rs' x9 x9 x9 (q4 (.obj rfl)) x9,?_,λA5 H5 st5 r v g5 s5 e5 h5=> ?_⟩
  ·simp_all?
   exact⟨xP (st:= [y7 C dx ws ws.length]) rfl,0,dx,ws,ws.length,rfl,rfl,hl,rfl,rfl⟩
  subst h5;have e5':=zno g5 s5;subst e5';refine q H5 ls' ⟨gr'.ext,λb o e n=> ?_,λb hb=>g5.live b (gr'.live b hb)⟩ (hs'.keep (λb o e n=>g5.keep b o e n) (zo0 rs'));exact g5.keep b o (gr'.keep b o e n) (λm=>by rw[au.mp m,hp0]at e;cases e)
 have pl:p∉sh::hd::ls.map (·.2):=λm=>by
  have hlv:H p≠none:=by
   obtain⟨svs,e1,_⟩:=hs.s;rcases ar.mp m with rfl | m
   ·rw[e1];exact cw _
   rcases ar.mp m with rfl | m
   ·rw[hs.h];exact cw _
   ·obtain⟨q9,hq9,rfl⟩:=bt.mp m
    exact hs.live q9 hq9
  exact hlv hp0
 refine⟨[p],[none,none,none,none,some (sv kd)],[y7 C dx ws k1],λb xp=>b=decide (kd=uA)/\xp= [y7 C dx ws k1],pB L2.rs x9 x9 x9 x9 (q4 (.val 7#4)),?_,λA3 H3 yd b g3 s3 h3=> ?_⟩
 ·simp_all? only[zud]
 obtain⟨rfl,rfl⟩:=h3;obtain⟨rfl,L3⟩:=L2.step hp0 g3 s3;rcases hc with⟨sf,rfl,rfl,ok,rfl,rfl,rfl⟩ | ⟨w',rfl,rfl,hw',rfl,rfl⟩ | ⟨r,Hs0,w',rs,rfl,rfl,okr,n1,n2,rfl,rfl,rfl⟩
 ·rw[decide_eq_true rfl,if_pos rfl]
  have hls:ls= []:=ji.mp L3.hs.len;refine⟨.ref hd,rfl,false,.inl ⟨_,.inl (.inl L3.hs.h),by rw[hls];rfl⟩,?_⟩;show(if false=true then _ else _);rw[if_neg 2#0];obtain⟨svs,e1,r1⟩:=L3.hs.s;refine⟨.ref sh,rfl,.inl ⟨rfl,svs,.inl (.inl e1)⟩,?_⟩;refine⟨[p],[none,none,none,some (.obj 0),none],[y7 C dx ws k1],λv xp=>v=yT sf/\xp= [y7 C dx ws ws.length],pB L3.rs x9 x9 x9 (q4 (.obj rfl)) x9,?_,λA4 H4 st4 r v g4 s4 e4 h4=> ?_⟩
  ·simp_all?
   exact⟨sf,0,dx,ws,k1,rfl,ok.1,zz3 ok,rfl,hl,hw,hk1,ek1,rfl,rfl⟩
  obtain⟨rfl,rfl⟩:=h4;obtain⟨rfl,L4⟩:=L3.step hp0 g4 s4;obtain⟨svs4,e4s,r4s⟩:=L4.hs.s;have rv:=(e4.rv (zmO sf)).tk (A':= []) (λ_ _ r=>r) rZ (zbI sf).to;have xx:=r4s.len;rw[ah]at xx;refine⟨sh,svs4,v,rfl,rfl,e4s,0#0,?_⟩;refine fin _ ls (dC L4.rs (λz=>pl (by rw[z];simp)) hws0 (.inr ⟨svs4,e4s,zou zxe r4s⟩)) (L4.gr.trans (.put 3#0)) ?_ hp0 (λb hb=>by rw[au.mp hb];exact pl);have:=L4.hs.shelf e4s rv (zbI sf).to;rw[ay];exact this
 ·rw[show decide (uW=uA)=false by decide,if_neg 2#0]
  refine⟨[p],[none,none,none,none,some (sv uW)],[y7 C dx ws k1],λb xp=>b=true/\xp= [y7 C dx ws k1],pB L3.rs x9 x9 x9 x9 (q4 (.val 7#4)),?_,λA4 H4 st4 b g4 s4 h4=> ?_⟩
  ·simp_all? only[zmx]
  obtain⟨rfl,rfl⟩:=h4;obtain⟨rfl,L4⟩:=L3.step hp0 g4 s4;rw[if_pos rfl];refine⟨.ref hd,rfl,.inl ⟨rfl,_,.inl (.inl L4.hs.h)⟩,?_⟩;refine⟨[p],[none,none,none,some (.obj 0),none],[y7 C dx ws k1],λv xp=> ∃k2,v=sv w'/\xp= [y7 C dx ws k2]/\ws.drop k2= []/\k2<=ws.length,pB L4.rs x9 x9 x9 (q4 (.obj rfl)) x9,?_,λA5 H5 st5 r v g5 s5 e5 h5=> ?_⟩
  ·simp_all?
   exact⟨xP (st:= [y7 C dx ws k1]) rfl,0,dx,ws,k1,w',[],rfl,rfl,hl,hw,hk1,by rw[ek1];exact nR hw',λk' e' hk'=>⟨k',rfl,rfl,e',hk'⟩⟩
  obtain⟨k2,rfl,rfl,ek2,hk2⟩:=h5;have ek2:=(lN hk2).mpr ek2;subst ek2;obtain⟨rfl,L5⟩:=L4.step hp0 g5 s5;cases u8 e5;refine⟨db _,λla hla=>⟨by show 2<=am;decide,λta hta=> ?_⟩⟩;have h9:=L5.hs.hand (w:=zA w') hla hta;have xx:=L5.hs.len;rw[ah]at xx;have hdl:hd≠la:=λz=>by have:=L5.hs.h;rw[z,hla]at this;cases this
  have htl:ta≠la:=λz=>by rw[z,xR]at hta;cases hta
  have hta0:H5 ta=none:=by rw[yJ htl]at hta;exact hta
  have hdt:hd≠ta:=λz=>by have:=L5.hs.h;rw[z,hta0]at this;cases this
  have hpv:H5 p≠none:=L5.rs.live 3#0;have r1:=dC (o:= .lst []) L5.rs (λz=>hpv (by rw[<- z];exact hla)) hws0 (.inl hla);have r2:=dC (o:= .tup [.str (zA w'),.ref la]) r1 (λz=>hpv (by rw[<- z];exact hta0)) hws0 (.inl hta);have ehd:zN (zN H5 la (.lst [])) ta (.tup [.str (zA w'),.ref la]) hd=some (.lst (ls.map λp=> .ref p.1)):=by rw[yJ hdt,yJ hdl];exact L5.hs.h
  refine⟨hd,_,.ref ta,rfl,rfl,ehd,by rw[ah];grobner,?_⟩;refine fin _ (ls++ [(ta,la)]) (dC r2 (λz=>pl (by rw[z];simp)) hws0 (.inr ⟨_,ehd,λy hy=>by obtain⟨q9,_,rfl⟩:=bt.mp hy;exact⟨_,rfl⟩⟩)) ?_ ?_ hp0 ?_
  ·rw[ay]
   exact L5.gr.trans (zZ.trans (.newObj hla) (zZ.trans (.new hta) (.put 3#0)))
  ·rw[ay]
   exact h9
  ·intro b hb
   rw[au.mp hb,ay];intro m;rcases bi.mp (show p∈(sh::hd::ls.map (·.2))++ [la]from m)with m | m
   ·exact pl m
   ·exact hpv (by rw[au.mp m];exact hla)
 ·rw[decide_eq_false n1,if_neg 2#0]
  refine⟨[p],[none,none,none,none,some (sv (iY r))],[y7 C dx ws k1],λb xp=>b=false/\xp= [y7 C dx ws k1],pB L3.rs x9 x9 x9 x9 (q4 (.val 7#4)),?_,λA4 H4 st4 b g4 s4 h4=> ?_⟩
  ·simp_all? only[zmx,show decide (iY r=uW)=false from decide_eq_false n2]
  obtain⟨rfl,rfl⟩:=h4;obtain⟨rfl,L4⟩:=L3.step hp0 g4 s4;rw[if_neg 2#0];have em:(Hs0++ [(w',rs)]).map mZ=Hs0.map mZ++ [(zA w',rs.map w4)]:=by rw[ay];rfl
  rw[em]at L4;have xx:=L4.hs.len;rw[af,ah,gf]at xx;refine⟨.ref hd,rfl,true,.inl ⟨_,.inl (.inl L4.hs.h),?_⟩,?_⟩
  ·cases ls with
   | nil=>cases xx
   | cons a b=>rfl
  show(if(!true)=true then _ else _);rw[if_neg 2#0];refine⟨.ref hd,rfl,[p],[none,none,none,none,none],[y7 C dx ws k1],λv xp=>v= .int (-1)/\xp= [y7 C dx ws k1],pB L4.rs x9 x9 x9 x9 x9,?_,λA5 H5 st5 rr v g5 s5 e5 h5=> ?_⟩
  ·simp_all?
  obtain⟨rfl,rfl⟩:=h5;obtain⟨rfl,L5⟩:=L4.step hp0 g5 s5;cases wC e5;obtain⟨l0,ta,la,us,els,eta,ela,elen,_,_⟩:=L5.hs.row;refine .inl ⟨hd,_,-1,.ref ta,rfl,rfl,.inl (.inl L5.hs.h),?_,?_⟩
  ·rw[els,ay]
   exact ztK _ _
  refine .inr (.inl ⟨ta,_,1,.ref la,rfl,rfl,.inl (.inl eta),rfl,?_⟩);refine⟨.inl ⟨rfl,us,.inl (.inl ela)⟩,?_⟩;refine⟨[p],[none,none,none,some (.obj 0),some (sv (iY r))],[y7 C dx ws k1],λv xp=>v=w4 r/\xp= [y7 C dx ws ws.length],pB L5.rs x9 x9 x9 (q4 (.obj rfl)) (q4 (.val 7#4)),?_,λA6 H6 st6 rr v g6 s6 e6 h6=> ?_⟩
  ·simp_all?
   exact⟨r,okr.1,0,dx,ws,k1,[],rfl,rfl,hl,hw,hk1,by rw[cg];exact ek1,λk' e' hk'=>⟨rfl,by rw[(lN hk').mpr e'];rfl⟩⟩
  obtain⟨rfl,rfl⟩:=h6;obtain⟨rfl,L6⟩:=L5.step hp0 g6 s6;have rv:=(e6.rv (zmN r)).tk (A':= []) (λ_ _ r=>r) rZ (zbH r).to;obtain⟨l0',ta',la',us',els',eta',ela',elen',rus,mk⟩:=L6.hs.row;have e9:=(List.append_inj' (els.symm.trans els') rfl).2;cases e9;have hrs:rs.length<=100:=hH2 (w',rs) 3#0;rw[ah]at elen';refine⟨la,us',v,rfl,rfl,ela',0#0,?_⟩;refine fin _ ls (dC L6.rs (λz=>pl (by rw[<- z,els];simp)) hws0 (.inr ⟨us',ela',zou zxd rus⟩)) (L6.gr.trans (.put (by rw[els];simp))) ?_ hp0 (λb hb=>by rw[au.mp hb];exact pl);have:=mk rv (zbH r).to;rw[ay];show HS K _ sh hd ls _ (Hs0.map mZ++ [(zA w',(rs++ [r]).map w4)]);rw[ay];exact this
theorem zvy (M:Mo K mg)(U:1#2){f:aa}{fd:bh}(F:zS K "read" "read" dU f fd):rJ P w K mg base yG 74 f fd [69#1] (yF K zyO):=by
 obtain⟨z4k,z3X,zhR,zr0,zuv⟩:=M.lines_of;have zqa:=zvx P w base M zhR;obtain⟨z4m,z3Z,zhU,zr5,zux⟩:=M.read_line;have zqc:=zvz P w base M U zhU;refine zna F dL (λvs H Q E h=>by obtain⟨A,st,xs,Q3,rs,re,⟨p,rfl,_⟩,_⟩:=h;exact(gx re).symm) λxw A outer s H vs Q E hr h=> ?_;have hr1:zH 1 _:=hr.mono 2#0;have hr73:zH 73 _:=hr.mono 2#0;refine⟨_,(eR (PS.toP (zao (i:=1) dL.nd rfl 0#2 (eO qX))) (eR (PS.toP (zao (i:=2) dL.nd rfl 0#2 (eO qX))) (eR (znL fv rfl (znF 4#0 M.enumerate (qW (zM zqa hr1 4#0 zuv zhR.kp zr0 (z6 (qv 0) z8)) qX)) (znB (n:=2) rfl (zgu (zgt (i:=3) dL.nd rfl 0#2) (zgu (zgt (i:=4) dL.nd rfl 0#2) znD))) (zwV (zwS (zwL (zn6 zqc hr73 4#0 zux zhU.kp zr5 lZ (PA.toP (qW (mY (i:=4) rfl 0#2) (qW (mY (i:=1) rfl 0#2) (qW (mY (i:=2) rfl 0#2) qX))))))))) (xI.toP (jP (zW (yM (z6 (u3 qV 4#0 M.tuple sC 9#5) (z6 (u3 qV 4#0 M.tuple sC (z6 (uR (own:= ["word","rows"]) (vV (fsc:=zX dU) (N:= [69#1,"shelves","hands","at","line"]) (N':= [69#1,"shelves","hands","at","line"]) rfl rfl 1#0) rfl (u5 (qv 2)) (λC s H fp mt=>(o9 (n:=2) rfl (vX (yX (i:=5) (show([69#1,"shelves","hands","at","line","word","rows"]:List Str).Nodup by decide+kernel) rfl 0#2) (vX (yX (i:=6) (show([69#1,"shelves","hands","at","line","word","rows"]:List Str).Nodup by decide+kernel) rfl 0#2) oA)))) 0#4 (λC s H fp mt=>(yM (z6 (qv 5) (z6 (u3 qV 4#0 M.tuple sC (z6 (qv 6) z8)) z8))))) z8)) z8))))))))),?_⟩;obtain⟨A0,st,xs,Q3,rs,re,⟨p,rfl,ok,hl,q⟩,k⟩:=h;obtain⟨v,rfl,ev⟩:=xC.one re;cases u8 ev;have hb:=rV;refine⟨db _,λsh hsh=> ?_⟩;refine⟨db _,λhd hhd=> ?_⟩;have yo:hd≠sh:=λz=>by rw[z,xR]at hhd;cases hhd
 have hhd0:H hd=none:=by rw[yJ yo]at hhd;exact hhd
 have e1:zN (zN H sh (.lst [])) hd (.lst []) sh=some (.lst []):=by rw[yJ (dh yo),xR]
 have e2:zN (zN H sh (.lst [])) hd (.lst []) hd=some (.lst []):=xR;have k2: ∀b o,H b=some o->zN (zN H sh (.lst [])) hd (.lst []) b=some o:=λb o e=>by
  rw[yJ (λz=>by rw[z,hhd0]at e;cases e),yJ (λz=>by rw[z,hsh]at e;cases e)];exact e
 have yr:RS K [sh,hd] (zN (zN H sh (.lst [])) hd (.lst [])) [PO.lst [],PO.lst []]:=by
  refine⟨by simp[dh yo],rfl,λi a o h1 h2=> ?_⟩
  match i,h1,h2 with
  | 0,h1,h2=>cases h1;cases h2;exact⟨[],e1,.nil,db _⟩
  | 1,h1,h2=>cases h1;cases h2;exact⟨[],e2,.nil,db _⟩
 generalize zN (zN H sh (.lst [])) hd (.lst [])=H2 at e1 e2 k2 yr;show gR _ _ _ [some (.str (zA (xY 10 (vA p)))),some (.ref sh),some (.ref hd),none,none] H2;refine⟨[sh,hd],[some (sv (xY 10 (vA p))),none,none,none,none],[PO.lst [],PO.lst []],λv xp=>v= .lst ((vA p).map sv)/\xp= [PO.lst [],PO.lst []],pB yr (q4 (.val 7#4)) x9 x9 x9 x9,?_,λA3 H3 yd r v g3 s3 e3 h3=> ?_⟩
 ·simp_all?
  exact⟨vA p,rfl,zxU ok,0#0,rfl,rfl⟩
 obtain⟨rfl,rfl⟩:=h3;have eA:A3= [sh,hd]:=by
  obtain⟨B,e,_⟩:=g3.ext;have hl9:=s3.len;rw[e,af]at hl9;have:B.length=0:=by simpa using hl9
  rw[e,ji.mp this,cg]
 subst eA;cases e3 with
 | val e3=>
 cases e3 with
 | @lst _ a vs t z r=>
 have ev:=zxY r;subst ev;obtain⟨vs1,f1,r1,_⟩:=s3.at_ 0 sh _ rfl rfl;obtain⟨vs2,f2,r2,_⟩:=s3.at_ 1 hd _ rfl rfl;cases r1;cases r2;have hs0:HS K H3 sh hd [] (([]:List xX).map yT) (([]:List vG).map mZ):=⟨by simp[dh yo],⟨[],f1,.nil⟩,f2,.nil,⟨(λx hx=>by cases hx),(λx hx=>by cases hx)⟩⟩;refine⟨a,rfl,⟨_,t.sq⟩,?_⟩;refine zsE (xs:=(vA p).map λw=>V.str (zA w)) (λi σ' H'=> ∃(v3 v4:Option V) (ls:List (aa×aa)) (S:List xX) (Hs:List vG),σ'= [some (.str (zA (xY 10 (vA p)))),some (.ref sh),some (.ref hd),v3,v4]/\zZ [sh,hd] H3 (sh::hd::ls.map (·.2)) H'/\HS K H' sh hd ls (S.map yT) (Hs.map mZ)/\qH p S Hs ((vA p).drop i)) ⟨none,none,[],[],[],rfl,.refl _ _,hs0,by rw[ox];exact zil⟩ ?_ ?_ ?_
 ·rintro i σ' H' hi ⟨v3,v4,ls,S,Hs,rfl,g,hs,iv⟩
  exact(t.grow g).sq
 ·rintro i σ' H' x pp hx ⟨v3,v4,ls,S,Hs,rfl,g,hs,iv⟩ hpp
  rw[dv]at hx;obtain⟨y,hy,rfl⟩:=ky.mp hx;have hyl:y.length<=300000:=cb (zt7 (c:=10) (bf hy)) hl;have hi:i < (vA p).length:=(ba.mp hy).1;have ed:(vA p).drop i=y::(vA p).drop (i+1):=by
   rw[rm hi];rw[bn hi]at hy;cases hy;rfl
  rw[ed]at iv;obtain⟨S',Hs',stp,iv'⟩:=iv.step ok;obtain⟨b1,b2,b3⟩:=iv.len ok;refine⟨pp,_,rfl,.inl (.inl xR),rfl,_,_,rfl,_,_,rfl,rfl,?_⟩;refine⟨_,rfl,_,rfl,_,rfl,?_⟩;refine⟨y,sh,hd,ls,S,S',Hs,Hs',rfl,hyl,hs.keep (B:= []) (λb o e _=>by rw[yJ (λz=>by rw[z,hpp]at e;cases e)];exact e) (λb hb=>by cases hb),stp,0#0,0#0,λh hh=>by have:=b3 h hh;grobner,λH'' ls'' g'' hs''=> ?_⟩;exact⟨_,_,ls'',S',Hs',rfl,g.trans (zZ.trans (.new hpp) g''),hs'',iv'⟩
 ·rintro σ' H' ⟨v3,v4,ls,S,Hs,rfl,g,hs,iv⟩
  rw[ah,List.drop_of_length_le (aq _)]at iv;obtain⟨b1,b2,b3⟩:=iv.len ok;obtain⟨rfl,rfl⟩:=iv.done;have kk: ∀b o,H b=some o->H' b=some o:=λb o e=>by
   have hb':b∉ [sh,hd]:=λm=>by
    simp only[ar,bu,or_false]at m;rcases m with rfl | rfl
    ·rw[hsh]at e;cases e
    ·rw[hhd0]at e;cases e
   exact g.keep b o (g3.keep b o (k2 b o e) hb') hb'
  have lv: ∀b,H b≠none->H' b≠none:=λb hb'=>by
   cases e:H b with
   | none=>exact absurd e hb'
   | some o=>rw[kk b o e];exact cw _
  have gA:zZ A0 H A0 H':=⟨⟨[],3#0,3#0⟩,λb o e _=>kk b o e,lv⟩;have rsA:RS K A0 H' st:=rs.move gA λb m=>by
   cases e:H b with
   | none=>exact absurd e (rs.live m)
   | some o=>rw[kk b o e]
  have nl: ∀q9∈ls,q9.2∉A0:=λq9 hq m=>by
   obtain⟨B,e,hB⟩:=g.ext;have hm:q9.2∈B:=by
    have:ls.map (·.2)=B:=by simpa using e
    rw[<- this];exact bt.mpr ⟨q9,hq,rfl⟩
   have h0:=hB _ hm;cases e0:H q9.2 with
   | none=>exact rs.live m e0
   | some o=>
    have e2':=k2 _ _ e0;exact g3.live _ (by rw[e2'];exact cw _) h0
  obtain⟨va,vb⟩:=hs.val (A:=A0) rsA.noTup (λm=>rs.live m hsh) (λm=>rs.live m hhd0) nl (by rw[ah];grobner) (by rw[ah];grobner) (λq9 hq=>by obtain⟨h9,hh9,rfl⟩:=bt.mp hq;have:=b3 h9 hh9;show(h9.2.map w4).length<=_;rw[ah];grobner);rw[dm]at vb;have vb:RV K A0 H' (.lst (p.2.map λh:vG=>PV.tup [sv h.1,.lst (h.2.map w4)])) (.ref hd):=vb;refine⟨A0,[none,some (.lst (p.1.map yT)),some (.lst (p.2.map λh:vG=>PV.tup [sv h.1,.lst (h.2.map w4)])),none,none],st,{nx:=λ_ _=>False,rt:=Q3},pB rsA x9 (q4 (.val va)) (q4 (.val vb)) x9 x9,?_,⟨λ_ _ _ _ _ _ _ z=>z.elim,k.after gA,λ_ _ _ _ _ _ _ z=>z.elim,λ_ _ _ _ _ _ _ z=>z.elim⟩⟩
  simp_all?
  refine⟨λi ys env s=> ∃v5 v6:Option PV,ys=(p.2.take i).map t6/\env= [none,some (PV.lst (List.map yT p.fst)),some (PV.lst (List.map (λh:vG=>PV.tup [sv h.fst,PV.lst (List.map w4 h.snd)]) p.snd)),none,none,v5,v6]/\s=st,⟨none,none,rfl,rfl,rfl⟩,?_,?_⟩
  ·rintro i x ys env s hx ⟨v5,v6,rfl,rfl,rfl⟩
   obtain⟨h9,hh9,rfl⟩:=tL hx
   simp_all?
   refine⟨_,_,?_,rfl⟩;rw[qC hh9,ay];rfl
  ·rintro ys env s ⟨v5,v6,rfl,rfl,rfl⟩
   rw[ah,bq (aq _)];exact q
theorem zvw (M:Mo K mg)(U:1#2){f:aa}{fd:bh}(F:zS K "law" "law" zhv f fd):yK P w K mg base yG 101 f fd [8#1] (yF K (dS)):=by
 obtain⟨z4n,z4a,zhV,zr6,zuy⟩:=M.read_term;have zqd:=zv0 P w base M U zhV;obtain⟨z4l,z3Y,zhT,zr4,zuw⟩:=M.read;have zqb:=zvy P w base M U zhT;obtain⟨zlI,zlA,sT,rT,rY⟩:=M.«show_term»;have nY:=zaj P w base M sT rT rY 28;obtain⟨z4o,z4b,zhW,zr7,zuz⟩:=M.«show»;have zqe:=zv1 P w base M zhW;obtain⟨z3G,z3Q,zbf,ziN,zm7⟩:=M._law_program;have zif:=zvp P w base M zbf;obtain⟨zl7,zl9,sR,rR,rW⟩:=M._law_shown_term;have nW:=zag P w base M sR rR rW 8;obtain⟨z3I,z3S,zhO,zrr,zug⟩:=M._law_rows;have zpX:=zvr P w base M zhO;obtain⟨z3D,z3N,zbd,ziL,zm5⟩:=M._law_alike;have zid:=zvm P w base M zbd;obtain⟨z3L,z3V,zhQ,zrt,zui⟩:=M._law_terms;have zpZ:=zvt P w base M zhQ;refine xE 0 F l6 (λxs st Q h=>by obtain⟨ns,rfl,_⟩:=h;rfl) ⟨_,λxw A outer s H E hr=>have hr1:zH 1 _:=hr.mono 2#0;have hr20:zH 20 _:=hr.mono 2#0;have hr23:zH 23 _:=hr.mono 2#0;have hr24:zH 24 _:=hr.mono 2#0;have hr30:zH 30 _:=hr.mono 2#0;have hr34:zH 34 _:=hr.mono 2#0;have hr74:zH 74 _:=hr.mono 2#0;have hr100:zH 100 _:=hr.mono 2#0;(zxz (zxy (i:=1) l6.nd rfl 0#2 (zxv zif hr23 4#0 zm7 zbf.kp ziN (zxs (qv 0) (zxr zxw z8)))) (jQ (PS.toP (y9 (i:=2) l6.nd rfl 0#2 (zM zif hr23 4#0 zm7 zbf.kp ziN (z6 (qv 0) (z6 zB z8))))) (jQ (zog fv rfl (zxt 4#0 M.enumerate (z6 (yM (z6 (qv 1) (z6 (qv 2) (z6 (qv 1) (z6 (yM (z6 (yM z8) (z6 (yM z8) z8))) z8))))) z8)) (o9 (n:=2) rfl (vX (yX (i:=3) l6.nd rfl 0#2) (vX (yX (i:=4) l6.nd rfl 0#2) oA))) (jQ (PS.toP (y9 (i:=5) l6.nd rfl 0#2 (vE cq dz fb 2#0 nM zD (z6 (zM zpX hr24 4#0 zug zhO.kp zrr (z6 (qv 4) z8)) z8)))) (jQ (zoh (tD.pt (zon (PT.toP (y0 (lX hr) (zM zqe hr34 4#0 zuz zhW.kp zr7 (z6 (qv 4) z8)) (qv 5) (y8 _))) (zoo (tD.pt (zx0 (PT.toP (y0 zva (vJ q0 4#0 M.len gi (z6 (qv 5) z8)) (yE (yD hr) (vW (z6 zB (z6 zB (z6 zB (z6 zB z8))))) (qv 3) 1#4) (y8 _))) (zx1 (zol (zom (znY zid hr1 4#0 zm5 zbd.kp ziL (zod (znZ zqb hr74 4#0 zuw zhT.kp zr4 (PA.toP (z6 (qv 5) z8))) (PA.toP (z6 (qv 4) z8)))))))))))) (xI.toP (zG (zW t8))) (xI.toP yI)) (zok (zog fv rfl (u5 (eV (zM zpZ hr1 4#0 zui zhQ.kp zrt (z6 (qv 4) z8)) eX (eY (y6 nO zB (u3 zuY 4#0 M.int fQ (z6 (zap nN (qv 3) zB (y8 _)) z8)))))) (o9 (n:=2) rfl (vX (yX (i:=6) l6.nd rfl 0#2) (vX (yX (i:=7) l6.nd rfl 0#2) oA))) (jQ (PS.toP (y9 (i:=5) l6.nd rfl 0#2 (zM nW hr20 4#0 rW sR.kp rR (z6 (qv 6) z8)))) (zok (zoh (tD.pt (zon (PT.toP (y0 (lX hr) (zM nY hr30 4#0 rY sT.kp rT (z6 (qv 6) z8)) (qv 5) (y8 _))) (zoo (zol (zom (znY zid hr1 4#0 zm5 zbd.kp ziL (zod (znZ zqd hr100 4#0 zuy zhV.kp zr6 (PA.toP (z6 (qv 5) (z6 (qv 7) z8)))) (PA.toP (z6 (qv 6) z8))))))))) (xI.toP (zG (zW t8))) (xI.toP yI))))))))) (xI.toP (zG (zW t8)))))),λxs st Q h=> ?_⟩;obtain⟨ns,rfl,rfl,hl,q⟩:=h;have hb:=rV;symm;refine⟨ns,0,rfl,hl,2#0,λp1 ok1=> ?_⟩;symm;refine⟨ns,20,rfl,hl,2#0,λp2 ok2=> ?_⟩;simp?;refine zJ ?_;simp? only[zlQ];refine⟨rfl,_,rfl,?_⟩;have h4: ∀y∈ [uQ p1,uQ p2,uQ p1,PV.tup [PV.tup [],PV.tup []]],∃p,tR p/\y=uQ p:=zL ⟨p1,ok1,rfl⟩ (zL ⟨p2,ok2,rfl⟩ (zL ⟨p1,ok1,rfl⟩ (yN ⟨([],[]),zvl,rfl⟩)));refine nB (λi env s=> ∃v3 v4 v5 v6 v7:Option PV,env= [some 4#7,some (uQ p1),some (uQ p2),v3,v4,v5,v6,v7]/\s= []) ⟨none,none,none,none,none,rfl,rfl⟩ ?_ ?_
 ·rintro i x env s hx ⟨v3,v4,v5,v6,v7,rfl,rfl⟩
  obtain⟨y,hy,rfl⟩:=aB hx;have hi:i < 4:=(ba.mp hy).1;obtain⟨p,ok,rfl⟩:=h4 y (bf hy);obtain⟨m,hm,em⟩:=zrn hi;have ht:=zq2 ok;simp?;symm;refine⟨p,rfl,ok,?_⟩;refine zmp (ws:=vA p) 25000 94 rfl (cT ok) (zb0 ok) 2#0 ?_;simp?;refine zJ ?_;refine ztm (b:=false) (λQ' q'=> ?_) ?_
  ·simp?
   refine⟨p,rfl,ok,?_⟩;have e1:(zA (xY 10 (vA p))==zA (xY 10 (vA p)))=true:=beq_self_eq_true _;simp? only[e1,em];refine⟨by rw[yV];grobner,?_⟩;by_cases hle:(((zA (xY 10 (vA p))).length:Nat):Int)<=m
   ·rw[decide_eq_true hle,if_pos rfl]
    rw[yV]at hle;refine⟨p,rfl,ok,0#0,⟨_,rfl,zrm p,zuO ok,rfl,?_⟩⟩;simp?;exact q'
   ·rw[decide_eq_false hle,if_neg 2#0]
    exact q'
  rw[if_neg 2#0];simp?;refine⟨p,rfl,ok,λts hts htl=> ?_⟩;simp?;refine nB (λj env s=> ∃v5 v6 v7:Option PV,env= [some 4#7,some (uQ p1),some (uQ p2),some (PV.int ↑i),some (uQ p),v5,v6,v7]/\s= []) ⟨_,_,_,rfl,rfl⟩ ?_ ?_
  ·rintro j x env s hx ⟨v5,v6,v7,rfl,rfl⟩
   obtain⟨tm,htm,rfl⟩:=bt.mp (zrY (bf hx));have oz:=hts tm htm;obtain⟨t,told⟩:=tm;have oz1:vL told false t:=oz.1;have oz2:xT t<=7:=oz.2.1;have oz3:(zQ t).length<=900:=oz.2.2;have hn:=jL told t oz1;rw[show k7 (t,told)= .tup [zO told t,.bl told]from rfl];simp?;symm;refine⟨told,t,rfl,oz1,0#0,0#0,?_⟩;simp?;refine⟨told,t,rfl,oz1,0#0,0#0,?_⟩;have e1:(zA (zQ t)==zA (zQ t))=true:=beq_self_eq_true _;simp? only[e1];refine⟨zQ t,told,t,rfl,0#0,zqD oz1 0#0,_,rfl,pT told t,0#0,tV t,?_⟩;simp?
   first | exact⟨_,_,_,rfl,rfl⟩ | exact⟨_,_,_,rfl⟩
  ·rintro env s ⟨v5,v6,v7,rfl,rfl⟩
   exact⟨_,_,_,_,_,rfl,rfl⟩
 ·rintro env s ⟨v3,v4,v5,v6,v7,rfl,rfl⟩
  simp_all?
  exact q
end
theorem uE {us:List ad}(h:us.length=1): ∃x0,us= [x0]:=by
 rcases us with _ | ⟨x0,_ | ⟨y,us⟩⟩ <;> first | exact⟨x0,rfl⟩ | (simp at h;done)
theorem sB {us:List ad}(h:us.length=2): ∃x0 x1,us= [x0,x1]:=by
 rcases us with _ | ⟨x0,_ | ⟨x1,_ | ⟨y,us⟩⟩⟩ <;> first | exact⟨x0,x1,rfl⟩ | (simp at h;done)
theorem fP {us:List ad}(h:us.length=3): ∃x0 x1 x2,us= [x0,x1,x2]:=by
 rcases us with _ | ⟨x0,_ | ⟨x1,_ | ⟨x2,_ | ⟨y,us⟩⟩⟩⟩ <;> first | exact⟨x0,x1,x2,rfl⟩ | (simp at h;done)
theorem zry {us:List ad}(h:us.length=4): ∃x0 x1 x2 x3,us= [x0,x1,x2,x3]:=by
 rcases us with _ | ⟨x0,_ | ⟨x1,_ | ⟨x2,_ | ⟨x3,_ | ⟨y,us⟩⟩⟩⟩⟩ <;> first | exact⟨x0,x1,x2,x3,rfl⟩ | (simp at h;done)
theorem zrz {us:List ad}(h:us.length=5): ∃x0 x1 x2 x3 x4,us= [x0,x1,x2,x3,x4]:=by
 rcases us with _ | ⟨x0,_ | ⟨x1,_ | ⟨x2,_ | ⟨x3,_ | ⟨x4,_ | ⟨y,us⟩⟩⟩⟩⟩⟩ <;> first | exact⟨x0,x1,x2,x3,x4,rfl⟩ | (simp at h;done)
def Dg (K:Frag)(x:Str)(st:bw):Prop:= ∃(f:aa) (od an:Option aa) (sl:Array (Option ad)) (oc kV dc pm cd ct:ad),nsIn K da x=some (some 8#3)/\K.lookup f=some ⟨oc,od,.func (fnOf x x (jE st) (pU st) (zX st) .none kV dc pm an cd ct),sl⟩/\codeIn K cd x=true/\keepIn K 8#3=true
theorem Dg.go {K:Frag}{h:cf}{mg:Str->Option ad}{x:Str}{st:bw}{ps:List Str}(d:Dg K x st)(X:K.In h)(G:h.Ns da mg)(hb: ∀f fd,zS K x x st f fd->y2 K fd ps []): ∃f fd,zS K x x st f fd/\y2 K fd ps []/\mg x=some 8#3:=by
 obtain⟨f,_,_,_,_,_,_,_,_,_,a,l,c,k⟩:=d;exact⟨f,_,e7 l c k,hb _ _ (e7 l c k),oj X G a⟩
def Mg (K:Frag)(C:aa)(x q:Str)(st:bw):Prop:= ∃(f:aa) (od an:Option aa) (sl:Array (Option ad)) (oc kV dc pm cd ct:ad),findIn K (.ref C) x=some (some 8#3)/\K.lookup f=some ⟨oc,od,.func (fnOf x q (jE st) (pU st) (zX st) .none kV dc pm an cd ct),sl⟩/\codeIn K cd q=true/\keepIn K 8#3=true/\isFn K 8#3=true
theorem Mg.go {K:Frag}{C:aa}{x q:Str}{st:bw}{ps:List Str}(d:Mg K C x q st)(hb: ∀f fd,zS K x q st f fd->y2 K fd ps []): ∃f fd,findIn K (.ref C) x=some (some 8#3)/\isFn K 8#3=true/\keepIn K 8#3=true/\zS K x q st f fd/\y2 K fd ps []:=by
 obtain⟨f,_,_,_,_,_,_,_,_,_,a,l,c,k,n⟩:=d;exact⟨f,_,a,n,k,e7 l c k,hb _ _ (e7 l c k)⟩
theorem all_mk {l:PySem.W.OpenLaw}{w:bz}{K:Frag}{h:cf}{mg:Str->Option ad}{fa:aa}(X:K.In h)(G:h.Ns da mg)(hfa:mg "law" =some (.ref fa))
  (d1:Dg K "is_word" dR)
  (d2:Dg K 56#1 dQ)
  (d3:Dg K 55#1 zaB)
  (d4:Dg K 53#1 zaG)
  (d5:Dg K 25#1 dY)
  (d6:Dg K 37#1 zaE)
  (d7:Dg K 19#1 dX)
  (d8:Dg K 16#1 jY)
  (d9:Dg K "read" dU)
  (d10:Dg K 72#1 zaA)
  (d11:Dg K 54#1 zaF)
  (d12:Dg K 34#1 zaM)
  (d13:Dg K 51#1 zaN)
  (d14:Dg K 71#1 zaJ)
  (d15:Dg K 33#1 zaO)
  (d16:Dg K 70#1 zaL)
  (d17:Dg K 52#1 zaK)
  (d18:Dg K 44#1 gO)
  (d19:Dg K 57#1 za8)
  (d20:Dg K "show" gM)
  (d21:Dg K 35#1 zaI)
  (d22:Dg K 65#1 dW)
  (d23:Dg K 61#1 za1)
  (d24:Dg K 60#1 za2)
  (d25:Dg K 74#1 za4)
  (d26:Dg K 58#1 dG)
  (d27:Dg K 26#1 za3)
  (d28:Dg K 45#1 dF)
  (d29:Dg K 62#1 za0)
  (d30:Dg K 73#1 za5)
  (d31:Dg K 40#1 kL)
  (d32:Dg K 24#1 jT)
  (d33:Dg K 12#1 dE)
  (d34:Dg K 15#1 za6)
  (d35:Dg K 59#1 jU)
  (d36:Dg K 42#1 zaz)
  (d37:Dg K 39#1 gJ)
  (dl:Dg K "law" zhv) (zn: ∀x∈(["len","int","range",22#1,"isinstance","bool","str",9#1,"min","max","all","abs",14#1,"sorted","set","zip"]:List Str),nsIn K da x=some none)
  {tWIDE:lx}
  {tLONGEST:lx}
  {tFIGURES_AT_MOST:lx}
  {tFIGURES_IN_BAGS:lx}
  {tMOST_BRACKETS:lx}
  {tLETTERS:lx}
  {tFIGURES:lx}
  {aOPS:aa} {mOPS:Nat} {slOPS:Array (Option ad)} {tOPS0 tOPS1 tOPS2 tOPS3 tOPS4:lx}
  {aTHREE:aa} {mTHREE:Nat} {slTHREE:Array (Option ad)} {tTHREE0 tTHREE1 tTHREE2:lx}
  {PC:aa}
  (zWIDE:nsIn K da "WIDE" =some (some (.int 4294967296 tWIDE)))
  (zLONGEST:nsIn K da "LONGEST" =some (some (.int 8 tLONGEST)))
  (zFIGURES_AT_MOST:nsIn K da "FIGURES_AT_MOST" =some (some (.int 10 tFIGURES_AT_MOST)))
  (zFIGURES_IN_BAGS:nsIn K da "FIGURES_IN_BAGS" =some (some (.int 9 tFIGURES_IN_BAGS)))
  (zMOST_BRACKETS:nsIn K da "MOST_BRACKETS" =some (some (.int 20 tMOST_BRACKETS)))
  (zLETTERS:nsIn K da "LETTERS" =some (some (.str 13#1 tLETTERS)))
  (zFIGURES:nsIn K da "FIGURES" =some (some (.str "0123456789" tFIGURES)))
  (zOPS:nsIn K da "OPS" =some (some (.ref aOPS))) (yOPS:K.lookup aOPS=some ⟨.type 22#1,none,.seq #[.str "+" tOPS0,.str "-" tOPS1,.str "*" tOPS2,.str "<" tOPS3,.str "=" tOPS4] mOPS,slOPS⟩)
  (zTHREE:nsIn K da "THREE" =some (some (.ref aTHREE))) (yTHREE:K.lookup aTHREE=some ⟨.type 22#1,none,.seq #[.str "was" tTHREE0,.str "mine" tTHREE1,.str "yours" tTHREE2] mTHREE,slTHREE⟩)
  (zP:nsIn K da "Pieces" =some (some (.ref PC))) (p1:plainGet K PC Str.empty=true) (p2:hasDictIn K PC=true) (p3:plainOver K PC=true) (p4:findIn K (.ref PC) "__setattr__" =some (some (.builtin "object.__setattr__"))) (p5:qK K PC 4#1) (p6:qK K PC "place") (p7:makesIn K PC=true) (p8:keepIn K (.ref PC)=true)
  (mI:Mg K PC 66#1 "Pieces.__init__" sPI) (mA:Mg K PC "at_end" "Pieces.at_end" sPA) (mT:Mg K PC "take" "Pieces.take" sPT) (mK:Mg K PC "take_close" "Pieces.take_close" sPK) (mE:Mg K PC "take_end" "Pieces.take_end" sPE) (mW:Mg K PC "take_word" "Pieces.take_word" sPW) (mN:Mg K PC "take_number" "Pieces.take_number" sPN) (mM:Mg K PC "take_many" "Pieces.take_many" sPM):
  ∃fd:bh,(∀(s:ag) (v:ad),BindsTo s fd ⟨[v],[]⟩ [(8#1,v)])/\∀base:cf,K.In base->base.Ns da mg->yK l.prog w K mg base yG 101 fa fd [8#1] (yF K dS):=by
 obtain⟨fI,fdI,wI,iI,kI,FI,bI⟩:=mI.go (ps:= [36#1,69#1]) λ_ _ F=>F.binds λ_ _ _ _ _ _ us hl=>by obtain⟨x0,x1,rfl⟩:=sB hl;rfl
 obtain⟨fA,fdA,wA,iA,kA,FA,bA⟩:=mA.go (ps:= [36#1]) λ_ _ F=>F.binds λ_ _ _ _ _ _ us hl=>by obtain⟨x0,rfl⟩:=uE hl;rfl
 obtain⟨fT,fdT,wT,iT,kT,FT,bT⟩:=mT.go (ps:= [36#1]) λ_ _ F=>F.binds λ_ _ _ _ _ _ us hl=>by obtain⟨x0,rfl⟩:=uE hl;rfl
 obtain⟨fK,fdK,wK,iK,kK,FK,bK⟩:=mK.go (ps:= [36#1]) λ_ _ F=>F.binds λ_ _ _ _ _ _ us hl=>by obtain⟨x0,rfl⟩:=uE hl;rfl
 obtain⟨fE,fdE,wE,iE,kE,FE,bE⟩:=mE.go (ps:= [36#1]) λ_ _ F=>F.binds λ_ _ _ _ _ _ us hl=>by obtain⟨x0,rfl⟩:=uE hl;rfl
 obtain⟨fW,fdW,wW,iW,kW,FW,bW⟩:=mW.go (ps:= [36#1]) λ_ _ F=>F.binds λ_ _ _ _ _ _ us hl=>by obtain⟨x0,rfl⟩:=uE hl;rfl
 obtain⟨fN,fdN,wN,iN,kN,FN,bN⟩:=mN.go (ps:= [36#1,"least","most"]) λ_ _ F=>F.binds λ_ _ _ _ _ _ us hl=>by obtain⟨x0,x1,x2,rfl⟩:=fP hl;rfl
 obtain⟨fM,fdM,wM,iM,kM,FM,bM⟩:=mM.go (ps:= [36#1]) λ_ _ F=>F.binds λ_ _ _ _ _ _ us hl=>by obtain⟨x0,rfl⟩:=uE hl;rfl
 have z: ∀x∈(["len","int","range",22#1,"isinstance","bool","str",9#1,"min","max","all","abs",14#1,"sorted","set","zip"]:List Str),mg x=none:=λx m=>PySem.W.mg_none_of X G (zn x m);have M:Mo K mg:=⟨z _ 3#0,z _ 3#0,z _ 3#0,z _ 3#0,z _ 3#0,z _ 3#0,z _ 3#0,z _ 3#0,z _ 3#0,z _ 3#0,z _ 3#0,z _ 3#0,z _ 3#0,z _ 3#0,z _ 3#0,z _ 3#0,d1.go X G λ_ _ F=>F.binds λ_ _ _ _ _ _ us hl=>by obtain⟨x0,rfl⟩:=uE hl;rfl,d2.go X G λ_ _ F=>F.binds λ_ _ _ _ _ _ us hl=>by obtain⟨x0,x1,rfl⟩:=sB hl;rfl,d3.go X G λ_ _ F=>F.binds λ_ _ _ _ _ _ us hl=>by obtain⟨x0,x1,x2,rfl⟩:=fP hl;rfl,d4.go X G λ_ _ F=>F.binds λ_ _ _ _ _ _ us hl=>by obtain⟨x0,x1,rfl⟩:=sB hl;rfl,d5.go X G λ_ _ F=>F.binds λ_ _ _ _ _ _ us hl=>by obtain⟨x0,x1,x2,rfl⟩:=fP hl;rfl,d6.go X G λ_ _ F=>F.binds λ_ _ _ _ _ _ us hl=>by obtain⟨x0,x1,rfl⟩:=sB hl;rfl,d7.go X G λ_ _ F=>F.binds λ_ _ _ _ _ _ us hl=>by obtain⟨x0,x1,x2,rfl⟩:=fP hl;rfl,d8.go X G λ_ _ F=>F.binds λ_ _ _ _ _ _ us hl=>by obtain⟨x0,x1,x2,x3,rfl⟩:=zry hl;rfl,d9.go X G λ_ _ F=>F.binds λ_ _ _ _ _ _ us hl=>by obtain⟨x0,rfl⟩:=uE hl;rfl,d10.go X G λ_ _ F=>F.binds λ_ _ _ _ _ _ us hl=>by obtain⟨x0,rfl⟩:=uE hl;rfl,d11.go X G λ_ _ F=>F.binds λ_ _ _ _ _ _ us hl=>by obtain⟨x0,x1,x2,rfl⟩:=fP hl;rfl,d12.go X G λ_ _ F=>F.binds λ_ _ _ _ _ _ us hl=>by obtain⟨x0,rfl⟩:=uE hl;rfl,d13.go X G λ_ _ F=>F.binds λ_ _ _ _ _ _ us hl=>by obtain⟨x0,x1,rfl⟩:=sB hl;rfl,d14.go X G λ_ _ F=>F.binds λ_ _ _ _ _ _ us hl=>by obtain⟨x0,rfl⟩:=uE hl;rfl,d15.go X G λ_ _ F=>F.binds λ_ _ _ _ _ _ us hl=>by obtain⟨x0,rfl⟩:=uE hl;rfl,d16.go X G λ_ _ F=>F.binds λ_ _ _ _ _ _ us hl=>by obtain⟨x0,x1,rfl⟩:=sB hl;rfl,d17.go X G λ_ _ F=>F.binds λ_ _ _ _ _ _ us hl=>by obtain⟨x0,x1,rfl⟩:=sB hl;rfl,d18.go X G λ_ _ F=>F.binds λ_ _ _ _ _ _ us hl=>by obtain⟨x0,rfl⟩:=uE hl;rfl,d19.go X G λ_ _ F=>F.binds λ_ _ _ _ _ _ us hl=>by obtain⟨x0,rfl⟩:=uE hl;rfl,d20.go X G λ_ _ F=>F.binds λ_ _ _ _ _ _ us hl=>by obtain⟨x0,rfl⟩:=uE hl;rfl,d21.go X G λ_ _ F=>F.binds λ_ _ _ _ _ _ us hl=>by obtain⟨x0,rfl⟩:=uE hl;rfl,d22.go X G λ_ _ F=>F.binds λ_ _ _ _ _ _ us hl=>by obtain⟨x0,rfl⟩:=uE hl;rfl,d23.go X G λ_ _ F=>F.binds λ_ _ _ _ _ _ us hl=>by obtain⟨x0,x1,rfl⟩:=sB hl;rfl,d24.go X G λ_ _ F=>F.binds λ_ _ _ _ _ _ us hl=>by obtain⟨x0,x1,rfl⟩:=sB hl;rfl,d25.go X G λ_ _ F=>F.binds λ_ _ _ _ _ _ us hl=>by obtain⟨x0,x1,rfl⟩:=sB hl;rfl,d26.go X G λ_ _ F=>F.binds λ_ _ _ _ _ _ us hl=>by obtain⟨x0,rfl⟩:=uE hl;rfl,d27.go X G λ_ _ F=>F.binds λ_ _ _ _ _ _ us hl=>by obtain⟨x0,x1,rfl⟩:=sB hl;rfl,d28.go X G λ_ _ F=>F.binds λ_ _ _ _ _ _ us hl=>by obtain⟨x0,x1,x2,x3,x4,rfl⟩:=zrz hl;rfl,d29.go X G λ_ _ F=>F.binds λ_ _ _ _ _ _ us hl=>by obtain⟨x0,x1,rfl⟩:=sB hl;rfl,d30.go X G λ_ _ F=>F.binds λ_ _ _ _ _ _ us hl=>by obtain⟨x0,x1,rfl⟩:=sB hl;rfl,d31.go X G λ_ _ F=>F.binds λ_ _ _ _ _ _ us hl=>by obtain⟨x0,x1,rfl⟩:=sB hl;rfl,d32.go X G λ_ _ F=>F.binds λ_ _ _ _ _ _ us hl=>by obtain⟨x0,x1,rfl⟩:=sB hl;rfl,d33.go X G λ_ _ F=>F.binds λ_ _ _ _ _ _ us hl=>by obtain⟨x0,rfl⟩:=uE hl;rfl,d34.go X G λ_ _ F=>F.binds λ_ _ _ _ _ _ us hl=>by obtain⟨x0,rfl⟩:=uE hl;rfl,d35.go X G λ_ _ F=>F.binds λ_ _ _ _ _ _ us hl=>by obtain⟨x0,rfl⟩:=uE hl;rfl,d36.go X G λ_ _ F=>F.binds λ_ _ _ _ _ _ us hl=>by obtain⟨x0,x1,rfl⟩:=sB hl;rfl,d37.go X G λ_ _ F=>F.binds λ_ _ _ _ _ _ us hl=>by obtain⟨x0,rfl⟩:=uE hl;rfl,⟨_,oj X G zWIDE⟩,⟨_,oj X G zLONGEST⟩,⟨_,oj X G zFIGURES_AT_MOST⟩,⟨_,oj X G zFIGURES_IN_BAGS⟩,⟨_,oj X G zMOST_BRACKETS⟩,⟨_,oj X G zLETTERS⟩,⟨_,oj X G zFIGURES⟩,⟨_,oj X G zOPS,_,_,_,yOPS,rfl,rfl,rfl,(by show 5<=am;decide),.cons ⟨_,rfl⟩ (.cons ⟨_,rfl⟩ (.cons ⟨_,rfl⟩ (.cons ⟨_,rfl⟩ (.cons ⟨_,rfl⟩ (.nil)))))⟩,⟨_,oj X G zTHREE,_,_,_,yTHREE,rfl,rfl,rfl,(by show 3<=am;decide),.cons ⟨_,rfl⟩ (.cons ⟨_,rfl⟩ (.cons ⟨_,rfl⟩ (.nil)))⟩,⟨PC,fI,fdI,fA,fdA,fT,fdT,fK,fdK,fE,fdE,fW,fdW,fN,fdN,fM,fdM,⟨oj X G zP,⟨p1,p2,p3,p4⟩,p5,p6,⟨p7,wI,iI,p8⟩,FI,bI,⟨wA,iA,kA⟩,FA,bA,⟨wT,iT,kT⟩,FT,bT,⟨wK,iK,kK⟩,FK,bK,⟨wE,iE,kE⟩,FE,bE,⟨wW,iW,kW⟩,FW,bW,⟨wN,iN,kN⟩,FN,bN,⟨wM,iM,kM⟩,FM,bM⟩⟩⟩;obtain⟨_,_,_,_,_,_,_,_,_,_,_,_,_,_,_,_,_,U⟩:=M.PXs;obtain⟨f,_,_,_,_,_,_,_,_,_,e,l,c,k⟩:=dl;cases hfa.symm.trans (oj X G e);exact⟨_,λs v=> .of_eq rfl,λbase _ _=>zvw _ _ _ M U (e7 l c k)⟩
theorem ztM {K:Frag}{H:Hp}{a:aa}{ns:List Int}(hl:ns.length<=63)(hS:xA K H a (ns.map V.int)){E:XK} :yF K dS [.ref a] H (λv _=>v= .bl true) E:=by
 refine⟨[],[],[.lst (ns.map PV.int)],λr _=>r= .bl true,⟨3#0,rfl,λi a o h=>by cases h⟩,.cons (.val (.lst (hS.imp (λh=>⟨h,3#0⟩) id) ?_ (zlY ns))) .nil,⟨ns,rfl,rfl,hl,rfl⟩,λA' H' xp r v g s e q=> ?_⟩
 ·rw[ah];exact cb hl 2#0
 ·subst q;exact ziU e
theorem walk {l:PySem.W.OpenLaw}{q:br}{loose:List Str}{XP:(Str->Option ad)->cf->Prop}{YP:bz->cf->Prop}{d:DefRec}{K:jb->Frag}(hn:l.most=some 63)(hdf:d.params.defaults= [])
  (hY: ∀(w:bz) (h:cf),YP w h->(K w.params).In h)
  (F: ∀(w:bz) (mg:Str->Option ad) (fa:aa) (h:cf),(K w.params).In h->h.Ns da mg->mg d.name=some (.ref fa)->
   ∃fd:bh,(∀(s:ag) (u:ad),BindsTo s fd ⟨[u],[]⟩ [(8#1,u)])/\∀base:cf,(K w.params).In base->base.Ns da mg->yK l.prog w (K w.params) mg base yG 101 fa fd [8#1] (yF (K w.params) dS)):
  PySem.W.WalkO q loose XP YP l.row.toRowW d [] (λf vs=>PySem.call f vs):=
 L2.walk_of (n:=63) (k:=101) (x:= 8#1) (CX:=λ_=>yG) (sp:=λw=>yF (K w.params) dS) hn 2#0 hdf ⟨rfl,2#0,2#0⟩ hY F (λ_ _ a ns hl _ hS=>ztM hl hS) λ_ _ _ _ _ z=>z
end N13
open PySem PySem.W PyProof.Rows
set_option maxRecDepth 100000 in
set_option maxHeartbeats 0 in
theorem PySem.Challenge.cw_copiedhouse_k13_whole_programs_written_a_holds : PySem.Challenge.rw_copiedhouse_k13_whole_programs_written_a.Holds := by
 w_on
 refine holds_law Hd.ws λsaid=> ?_;refine holds_open (q:=Hd.q) (loose:= []) (Xt:=Hd.Xt) (XP:=XL Hd.q []) (Yf:=Hook.obs Hd.hk) (Ya:=Hook.val Hd.hk) (YP:=Hook.says Hd.hk) (N:=4446) Hd.left (Hook.of Hd.hk) (Hook.keeps Hd.hk) (λs e=>xl_of s (cj.mp e).1) XL.keeps 4#0 4#0 4#0 (λs e=>recFacts_of (cj.mp e).2) 4#0 said 1#0 ⟨rfl,rfl,rfl,rfl,rfl,1#0⟩ ?hw ?hc
 (case hw=>w_witness2)
 unfold Hd.hk
 k_fill
 refine N13.walk (l:=PySem.Challenge.rw_copiedhouse_k13_whole_programs_written_a) rfl rfl (λw h Y=>PySem.W.km_in_of Y) ?F
 case F=>
  intro w mg fa h KX G hmg
  refine' N13.all_mk KX G hmg ?_ ?_ ?_ ?_ ?_ ?_ ?_ ?_ ?_ ?_ ?_ ?_ ?_ ?_ ?_ ?_ ?_ ?_ ?_ ?_ ?_ ?_ ?_ ?_ ?_ ?_ ?_ ?_ ?_ ?_ ?_ ?_ ?_ ?_ ?_ ?_ ?_ ?_ ?zn_ ?zWIDE_ ?zLONGEST_ ?zFIGURES_AT_MOST_ ?zFIGURES_IN_BAGS_ ?zMOST_BRACKETS_ ?zLETTERS_ ?zFIGURES_ ?zOPS_ ?yOPS_ ?zTHREE_ ?yTHREE_ ?zP_ ?p1_ ?p2_ ?p3_ ?p4_ ?p5_ ?p6_ ?p7_ ?p8_ ?_ ?_ ?_ ?_ ?_ ?_ ?_ ?_
  (case zWIDE_=>k_is)
  (case zLONGEST_=>k_is)
  (case zFIGURES_AT_MOST_=>k_is)
  (case zFIGURES_IN_BAGS_=>k_is)
  (case zMOST_BRACKETS_=>k_is)
  (case zLETTERS_=>k_is)
  (case zFIGURES_=>k_is)
  (case zOPS_=>k_is)
  (case yOPS_=>k_is)
  (case zTHREE_=>k_is)
  (case yTHREE_=>k_is)
  (case zP_=>k_is)
  (case p1_=>kernel_rfl)
  (case p2_=>kernel_rfl)
  (case p3_=>kernel_rfl)
  (case p4_=>k_is)
  (case p5_=>show findIn _ _ _=some none;k_is)
  (case p6_=>show findIn _ _ _=some none;k_is)
  (case p7_=>kernel_rfl)
  (case p8_=>k_is)
  (case zn_=>intro x m;simp only[ar,bu,or_false]at m;rcases m with rfl | rfl | rfl | rfl | rfl | rfl | rfl | rfl | rfl | rfl | rfl | rfl | rfl | rfl | rfl | rfl <;> k_is)
  all_goals first | exact⟨_,_,_,_,_,_,_,_,_,_,by k_is,by k_is,by k_is,by k_is⟩ | exact⟨_,_,_,_,_,_,_,_,_,_,by k_is,by k_is,by k_is,by k_is,by k_is⟩
